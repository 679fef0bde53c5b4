/- Memory that a call itself made: what may have changed ('Upd'), slices that own their cells ('Sl'), and append to them. -/
import Derived.Test.YthpnkjnieljdiaaIn
import Derived.Deep.Upon
import Derived.Lib.ConvBytes
import Derived.Laws.BytesString
import Derived.Laws.IdiomStrings
namespace Go.Proofs.Ythpnkjnieljdiaa
open Go.ChangeShapes Go.WideShapes Go.ChangeAt Go.RowKit

/-- w' is w with new blocks, and with changes in blocks of S alone. -/
structure Upd (S : Nat → Prop) (w w' : World) : Prop where
  os : w'.os = w.os
  tape : w'.tape = w.tape
  output : w'.output = w.output
  size : w.heap.size ≤ w'.heap.size
  block : ∀ k, k < w.heap.size → ¬ S k → w'.heap[k]? = w.heap[k]?

theorem Upd.refl (S : Nat → Prop) (w : World) : Upd S w w := ⟨rfl, rfl, rfl, Nat.le_refl _, fun _ _ _ => rfl⟩

theorem Upd.mono {S S' : Nat → Prop} {w w' : World} (h : Upd S w w') (hs : ∀ k, k < w.heap.size → S k → S' k) : Upd S' w w' :=
  ⟨h.os, h.tape, h.output, h.size, fun k hk hn => h.block k hk fun hS => hn (hs k hk hS)⟩

/-- Two steps: what the second one changes is S's, or new. -/
theorem Upd.trans {S S' : Nat → Prop} {a b c : World} (h : Upd S a b) (k : Upd S' b c) (hs : ∀ i, i < a.heap.size → S' i → S i) : Upd S a c :=
  ⟨k.os.trans h.os, k.tape.trans h.tape, k.output.trans h.output, Nat.le_trans h.size k.size,
    fun i hi hn => (k.block i (Nat.lt_of_lt_of_le hi h.size) fun hS => hn (hs i hi hS)).trans (h.block i hi hn)⟩

theorem Upd.below {S : Nat → Prop} {B : Nat} {w w' : World} (h : Upd S w w') (hB : B ≤ w.heap.size) (hs : ∀ k, k < w.heap.size → S k → B ≤ k) : Below B w w' :=
  ⟨h.os, h.tape, h.output, h.size, fun k hk => h.block k (by omega) fun hS => by have := hs k (by omega) hS; omega⟩

theorem Upd.of_below {S : Nat → Prop} {B : Nat} {w w' : World} (h : Below B w w') (hs : ∀ k, k < w.heap.size → B ≤ k → S k) : Upd S w w' :=
  ⟨h.os, h.tape, h.output, h.size, fun k hk hn => h.block k (by
    by_cases hb : B ≤ k
    · exact absurd (hs k hk hb) hn
    · omega)⟩

theorem Upd.cell {S : Nat → Prop} {w w' : World} (h : Upd S w w') {p : Addr} (hp : p.block < w.heap.size) (hn : ¬ S p.block) : w'.cell? p = w.cell? p := World.cell?_of_block (w := w) (h.block p.block hp hn)
theorem Upd.frozen {S : Nat → Prop} {w w' : World} (h : Upd S w w') {p : Addr} (hp : p.block < w.heap.size) (hn : ¬ S p.block) : w'.frozen? p = w.frozen? p := World.frozen?_of_block (w := w) (h.block p.block hp hn)

theorem Upd.drewN {S : Nat → Prop} {a w : World} (h : Upd S a w) (n : Nat) : Upd S a (w.drewN n) := ⟨h.os, h.tape, h.output, h.size, h.block⟩
theorem Upd.drew {S : Nat → Prop} {a w : World} (h : Upd S a w) : Upd S a w.drew := ⟨h.os, h.tape, h.output, h.size, h.block⟩
theorem Upd.alloc {S : Nat → Prop} {a w : World} (h : Upd S a w) (o : Obj) : Upd S a (w.alloc o) :=
  ⟨h.os, h.tape, h.output, by have := h.size; simp; omega, fun k hk hn => (Below.heap_alloc w o k (Nat.lt_of_lt_of_le hk h.size)).trans (h.block k hk hn)⟩
theorem Upd.setCell {S : Nat → Prop} {a w : World} (h : Upd S a w) {p : Addr} (hp : p.block < a.heap.size → S p.block) (u : Value) : Upd S a (w.setCell p u) :=
  ⟨h.os, h.tape, h.output, by have := h.size; simp [World.setCell]; omega, fun k hk hn => (Below.heap_setCell w p u k (by intro e; subst e; exact hn (hp hk))).trans (h.block k hk hn)⟩

end Go.Proofs.Ythpnkjnieljdiaa
namespace Go.RowKit
open Go.Proofs.Ythpnkjnieljdiaa
theorem Below.upd {B : Nat} {S : Nat → Prop} {a w w' : World} (h : Below B a w) (k : Upd S w w') (hB : B ≤ w.heap.size) (hs : ∀ i, i < w.heap.size → S i → B ≤ i) : Below B a w' := h.trans (k.below hB hs)
end Go.RowKit
namespace Go.Proofs.Ythpnkjnieljdiaa
open Go.ChangeShapes Go.WideShapes Go.ChangeAt Go.RowKit

/-! ### A slice that owns its cells -/

/-- The slice value v, of n elements of 'size' cells each, holds the cells xs, in a block from B on; all of its room is there, and may be written. -/
def Sl (B : Nat) (w : World) (size : Nat) (v : Value) (n : Nat) (xs : List Value) : Prop :=
  xs.length = n * size ∧
  ((v = .slice none 0 0 ∧ n = 0) ∨
   ∃ g off cap, v = .slice (some ⟨g, off, none⟩) n cap ∧ B ≤ g ∧ g < w.heap.size ∧ n ≤ cap ∧ cap ≤ maxLen ∧
     (∀ j, j < n * size → w.cell? ⟨g, off + j, none⟩ = xs[j]?) ∧
     ∀ j, j < cap * size → (w.cell? ⟨g, off + j, none⟩).isSome = true ∧ w.frozen? ⟨g, off + j, none⟩ = false)

theorem Sl.len {B : Nat} {w : World} {size : Nat} {v : Value} {n : Nat} {xs : List Value} (h : Sl B w size v n xs) : n ≤ maxLen := by
  rcases h.2 with ⟨_, rfl⟩ | ⟨g, off, cap, _, _, _, h1, h2, _⟩
  · exact Nat.zero_le _
  · exact Nat.le_trans h1 h2

theorem Sl.shape {B : Nat} {w : World} {size : Nat} {v : Value} {n : Nat} {xs : List Value} (h : Sl B w size v n xs) : ∃ a c, v = .slice a n c := by
  rcases h.2 with ⟨rfl, rfl⟩ | ⟨g, off, cap, rfl, _⟩
  · exact ⟨_, _, rfl⟩
  · exact ⟨_, _, rfl⟩

theorem Sl.nil (B : Nat) (w : World) (size : Nat) : Sl B w size (.slice none 0 0) 0 [] := ⟨by simp, .inl ⟨rfl, rfl⟩⟩

theorem Sl.lt {B : Nat} {w : World} {size : Nat} {v : Value} {n : Nat} {xs : List Value} (h : Sl B w size v n xs) : ∀ k, v.ownBlock = some k → B ≤ k ∧ k < w.heap.size := by
  intro k hk
  rcases h.2 with ⟨rfl, _⟩ | ⟨g, off, cap, rfl, hb, hg, _⟩
  · simp [Value.ownBlock] at hk
  · simp [Value.ownBlock] at hk
    subst hk
    exact ⟨hb, hg⟩

theorem Sl.base {B B' : Nat} {w : World} {size : Nat} {v : Value} {n : Nat} {xs : List Value} (h : Sl B w size v n xs) (hB : B' ≤ B) : Sl B' w size v n xs :=
  ⟨h.1, h.2.imp id fun ⟨g, off, cap, h1, h2, h3⟩ => ⟨g, off, cap, h1, Nat.le_trans hB h2, h3⟩⟩

theorem Sl.upd {B : Nat} {S : Nat → Prop} {w w' : World} {size : Nat} {v : Value} {n : Nat} {xs : List Value} (h : Sl B w size v n xs) (hu : Upd S w w') (hn : ∀ k, v.ownBlock = some k → ¬ S k) : Sl B w' size v n xs := by
  refine ⟨h.1, ?_⟩
  rcases h.2 with h0 | ⟨g, off, cap, rfl, hb, hg, h1, h2, h3, h4⟩
  · exact .inl h0
  · have hS : ¬ S g := hn g rfl
    exact .inr ⟨g, off, cap, rfl, hb, Nat.lt_of_lt_of_le hg hu.size, h1, h2, fun j hj => by rw [hu.cell (p := ⟨g, off + j, none⟩) hg hS]; exact h3 j hj,
      fun j hj => by rw [hu.cell (p := ⟨g, off + j, none⟩) hg hS, hu.frozen (p := ⟨g, off + j, none⟩) hg hS]; exact h4 j hj⟩

theorem Sl.drewN {B : Nat} {w : World} {size : Nat} {v : Value} {n : Nat} {xs : List Value} (h : Sl B w size v n xs) (m : Nat) : Sl B (w.drewN m) size v n xs :=
  h.upd (S := fun _ => False) ((Upd.refl _ _).drewN m) (fun _ _ h => h)
theorem Sl.alloc {B : Nat} {w : World} {size : Nat} {v : Value} {n : Nat} {xs : List Value} (h : Sl B w size v n xs) (o : Obj) : Sl B (w.alloc o) size v n xs :=
  h.upd (S := fun _ => False) ((Upd.refl _ _).alloc o) (fun _ _ h => h)

/-- A cell of it. -/
theorem Sl.at_ {B : Nat} {w : World} {size : Nat} {v : Value} {n : Nat} {xs : List Value} (h : Sl B w size v n xs) (h0 : 0 < n) : ∃ g off cap, v = .slice (some ⟨g, off, none⟩) n cap ∧ B ≤ g ∧ g < w.heap.size ∧ ∀ j, j < n * size → w.cell? ⟨g, off + j, none⟩ = xs[j]? := by
  rcases h.2 with ⟨_, rfl⟩ | ⟨g, off, cap, rfl, hb, hg, _, _, h3, _⟩
  · omega
  · exact ⟨g, off, cap, rfl, hb, hg, h3⟩

/-- A block that holds just this row. -/
theorem Sl.made {B : Nat} (w : World) (cur : Array Value) (e : TypeId) (size n cap : Nat) (hB : B ≤ w.heap.size) (hn : n ≤ cap) (hm : cap ≤ maxLen) (hs : cap * size ≤ cur.size) :
    Sl B (w.alloc (.cells cur e)) size (.slice (some ⟨w.heap.size, 0, none⟩) n cap) n (cur.toList.take (n * size)) := by
  have hns : n * size ≤ cap * size := Nat.mul_le_mul_right _ hn
  have hc : ∀ j, (w.alloc (.cells cur e)).cell? ⟨w.heap.size, 0 + j, none⟩ = cur[j]? := by
    intro j
    rw [cell_of_row _ w.heap.size (0 + j) cur e (0, 0) (heap_alloc_new w _)]
    simp
  refine ⟨by simp; omega, .inr ⟨w.heap.size, 0, cap, rfl, hB, by simp, hn, hm, fun j hj => ?_, fun j hj => ⟨?_, ?_⟩⟩⟩
  · rw [hc, List.getElem?_take, if_pos hj]
    simp
  · rw [hc, Array.getElem?_eq_getElem (by omega)]
    rfl
  · have e0 := heap_alloc_new w (.cells cur e (0, 0))
    simp only [World.frozen?, e0]
    simp

section
variable {P : Program}

theorem upd_setCells (g : Nat) (off : Nat) (vs : List Value) (w : World) : Upd (fun k => k = g) w (w.setCells g off vs) := by
  have hk := World.keptBut_setCells g (may := fun p => p.block = g) vs off w (fun _ _ => rfl)
  refine ⟨hk.1, ?_, hk.2.1, hk.size, fun k h1 h2 => World.heap_setCells_other w g off vs h1 h2⟩
  have : ∀ (vs : List Value) (o : Nat) (w : World), (w.setCells g o vs).tape = w.tape := by
    intro vs
    induction vs with
    | nil => intro o w; rfl
    | cons v r ih => intro o w; exact (ih _ _).trans rfl
  exact this vs off w

theorem cell_setCells_in (g : Nat) (vs : List Value) (off : Nat) (w : World) (hc : ∀ j, j < vs.length → (w.cell? ⟨g, off + j, none⟩).isSome = true) (j : Nat) (hj : j < vs.length) : (w.setCells g off vs).cell? ⟨g, off + j, none⟩ = vs[j]? := by
  rw [World.cell?_setCells_in g vs off w hc j hj, List.getElem?_eq_getElem hj]

theorem frozen_setCells (g : Nat) : ∀ (vs : List Value) (off : Nat) (w : World) (a : Addr), (w.setCells g off vs).frozen? a = w.frozen? a
  | [], _, _, _ => rfl
  | v :: r, off, w, a => by
    show ((w.setCell ⟨g, off, none⟩ v).setCells g (off + 1) r).frozen? a = _
    rw [frozen_setCells g r (off + 1)]
    exact World.frozen?_setCell _ _ _ _

/-- n elements more, out of whatever source. -/
theorem run_append_sl (w : World) {B : Nat} {size : Nat} (t tx ty e : TypeId) (i : TypeInfo) (z : Value) (bytes : Nat) (ht : P.underlying t = some (.slice e)) (hi : P.info? e = some i) (hz : i.zero = some z) (hsize : i.size = size) (hby : i.bytes = bytes) (hzs : z.cells.size = size)
    {v : Value} {n : Nat} {xs : List Value} (h : Sl B w size v n xs) (x : Value) (m : Nat) (news : List Value) (hs : Src P size tx x m news w) (h63 : n + m ≤ maxLen) (hbytes : (n + m) * bytes ≤ 140737488355328) (hB : B ≤ w.heap.size) :
    ∃ v' w', (Builtin.append_ #[t, tx] ty #[v, x]).run P w = .ok v' w' ∧ Sl B w' size v' (n + m) (xs ++ news) ∧ Upd (fun k => v.ownBlock = some k) w w' ∧ (∀ k, v'.ownBlock = some k → v.ownBlock = some k ∨ w.heap.size ≤ k) := by
  subst hsize
  subst hby
  have hnl := hs.newsLen
  have hlen : (xs ++ news).length = (n + m) * i.size := by rw [List.length_append, h.1, hnl, Nat.add_mul]
  have hsmall : ((n + m : Nat) : Int) ≤ 9223372036854775807 := by simp only [maxLen] at h63; omega
  have grow : ∀ (bs : Option Addr) (sc : Nat), v = .slice bs n sc → sc < n + m → (Builtin.firstCells i.size n (.slice bs n sc)).run P w.drew = .ok xs.toArray w.drew →
      ∃ v' w', (Builtin.append_ #[t, tx] ty #[v, x]).run P w = .ok v' w' ∧ Sl B w' i.size v' (n + m) (xs ++ news) ∧ Upd (fun k => v.ownBlock = some k) w w' ∧ (∀ k, v'.ownBlock = some k → v.ownBlock = some k ∨ w.heap.size ≤ k) := by
    rintro bs sc rfl hg hold
    have hrun := run_append_grow_src (P := P) w t tx ty e i z ht hi hz bs n sc xs hold x m news hs hg hsmall (growslice_fits hg hbytes)
    have hge := grownCap_ge w (n + m) sc e
    have hcm := grownCap_le_maxLen w (n + m) sc e h63
    have hsz : grownCap w (n + m) sc e * i.size ≤ ((xs ++ news).toArray ++ Builtin.zeroCells z.cells (grownCap w (n + m) sc e - (n + m))).size := by
      simp only [Array.size_append, List.size_toArray, size_zeroCells, hzs, hlen]
      rw [← Nat.add_mul]
      exact Nat.mul_le_mul_right _ (by omega)
    have hmade := Sl.made (B := B) w.drew ((xs ++ news).toArray ++ Builtin.zeroCells z.cells (grownCap w (n + m) sc e - (n + m))) e i.size (n + m) _ hB hge hcm hsz
    have etake : ((xs ++ news).toArray ++ Builtin.zeroCells z.cells (grownCap w (n + m) sc e - (n + m))).toList.take ((n + m) * i.size) = xs ++ news := by
      rw [Array.toList_append, ← hlen]
      exact List.take_left
    rw [etake] at hmade
    refine ⟨_, _, hrun, hmade, ((Upd.refl _ w).drew).alloc _, fun k hk => .inr ?_⟩
    have hk' : w.heap.size = k := by simpa [Value.ownBlock] using hk
    omega
  rcases h.2 with ⟨rfl, rfl⟩ | ⟨g, off, cap, rfl, hb, hg, hnc, hcm, hcells, hroom⟩
  · have hx : xs = [] := List.eq_nil_of_length_eq_zero (by simpa using h.1)
    subst hx
    by_cases hm : m = 0
    · subst hm
      have hn : news = [] := List.eq_nil_of_length_eq_zero (by simpa using hnl)
      subst hn
      exact ⟨_, _, run_append_nothing w t tx ty e i ht hi none 0 0 (Nat.le_refl _) x hs, Sl.nil _ _ _, Upd.refl _ _, fun k hk => .inl hk⟩
    · exact grow none 0 rfl (by omega) (run_firstCells_none w.drew i.size 0 0 0)
  · by_cases hr : n + m ≤ cap
    · have hle : (n + m) * i.size ≤ cap * i.size := Nat.mul_le_mul_right _ hr
      rw [Nat.add_mul] at hle
      have hrun := run_append_room_src (P := P) w t tx ty e i ht hi g off n cap x m news hs hr (fun j hj => by rw [Nat.add_assoc]; exact (hroom _ (by omega)).1) (fun j hj => by rw [Nat.add_assoc]; exact (hroom _ (by omega)).2)
      have hu := upd_setCells g (off + n * i.size) news w
      refine ⟨_, _, hrun, ⟨hlen, .inr ⟨g, off, cap, rfl, hb, Nat.lt_of_lt_of_le hg hu.size, hr, hcm, fun j hj => ?_, fun j hj => ⟨?_, ?_⟩⟩⟩, hu.mono (fun k _ hk => by subst hk; rfl), fun k hk => .inl hk⟩
      · rw [Nat.add_mul] at hj
        by_cases hjo : j < n * i.size
        · rw [World.cell?_setCells_out g news _ w _ (fun _ _ => .inl (by simp; omega)), List.getElem?_append_left (by rw [h.1]; exact hjo)]
          exact hcells j hjo
        · rw [List.getElem?_append_right (by rw [h.1]; omega), h.1]
          have := cell_setCells_in g news (off + n * i.size) w (fun i' hi' => by rw [Nat.add_assoc]; exact (hroom _ (by omega)).1) (j - n * i.size) (by omega)
          rw [← this]
          congr 2
          omega
      · by_cases hjo : n * i.size ≤ j ∧ j < n * i.size + news.length
        · have := cell_setCells_in g news (off + n * i.size) w (fun i' hi' => by rw [Nat.add_assoc]; exact (hroom _ (by omega)).1) (j - n * i.size) (by omega)
          rw [show off + n * i.size + (j - n * i.size) = off + j by omega] at this
          rw [this, List.getElem?_eq_getElem (by omega)]
          rfl
        · rw [World.cell?_setCells_out g news _ w _ (fun _ _ => by simp; omega)]
          exact (hroom j hj).1
      · rw [frozen_setCells]
        exact (hroom j hj).2
    · refine grow (some ⟨g, off, none⟩) cap rfl (by omega) (run_firstCells_some w.drew i.size n ⟨g, off, none⟩ n cap xs h.1 (fun j u hu => ?_))
      have hj : j < n * i.size := by
        have := (List.getElem?_eq_some_iff.1 hu).1
        rw [h.1] at this; exact this
      rw [Addr.add_lit, ← hu]
      exact hcells j hj

theorem wpList_append_sl (w : World) {ops : Array Oper} {rest : List Oper} {o : Oper} {a : Act} {Q : Exit → Act → World → Prop} (hgd : o.guard = none) (s x : Operand) (t tx : TypeId)
    (ho : o.op = .call { callee := .builtin .append, args := #[s, x], argTypes := #[t, tx] })
    {B : Nat} {size : Nat} (e : TypeId) (i : TypeInfo) (z : Value) (bytes : Nat) (ht : P.underlying t = some (.slice e)) (hi : P.info? e = some i) (hz : i.zero = some z) (hsize : i.size = size) (hby : i.bytes = bytes) (hzs : z.cells.size = size)
    {v : Value} {n : Nat} {xs : List Value} (hv : a.eval s = v) (h : Sl B w size v n xs) (xv : Value) (m : Nat) (news : List Value) (hx : a.eval x = xv) (hs : Src P size tx xv m news w)
    (h63 : n + m ≤ maxLen) (hbytes : (n + m) * bytes ≤ 140737488355328) (hB : B ≤ w.heap.size)
    (hK : ∀ v' w', Sl B w' size v' (n + m) (xs ++ news) → Upd (fun k => v.ownBlock = some k) w w' → (∀ k, v'.ownBlock = some k → v.ownBlock = some k ∨ w.heap.size ≤ k) → wpList P ops Q rest (a.put o.dst v') w') : wpList P ops Q (o :: rest) a w := by
  refine wpList_plain hgd fun K hK' => ?_
  obtain ⟨v', w', hrun, r1, r2, r3⟩ := run_append_sl (P := P) w t tx o.type e i z bytes ht hi hz hsize hby hzs h xv m news hs h63 hbytes hB
  unfold Oper.wp
  simp [execOp, ho, resolve, invoke, builtin, hv, hx, hrun, Result.andThen]
  exact hK' _ _ (hK v' w' r1 r2 r3)
end
end Go.Proofs.Ythpnkjnieljdiaa
