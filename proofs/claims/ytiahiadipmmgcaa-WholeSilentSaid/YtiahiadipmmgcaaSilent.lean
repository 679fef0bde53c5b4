/- A clock, a tree, a row of numbers, and statuses behind a row of pointers, all of the call's own and apart. -/
import Derived.Test.YtiahiadipmmgcaaTrI
import Derived.Test.YtiahiadipmmgcaaIdI
import Derived.Test.YtiahiadipmmgcaaKBase
namespace Go.Proofs.Ytiahiadipmmgcaa
set_option maxRecDepth 4000
open Go.ChangeShapes Go.WideShapes Go.ChangeAt Go.RowKit
open PTree PSat
set_option linter.unusedVariables false
set_option linter.unusedSimpArgs false

theorem put_self {α : Type} (f : Nat → α) (i : Nat) : put f i (f i) = f := by
  funext j
  unfold put
  by_cases e : j = i <;> simp [e]
def pv (P : Nat → Nat) (k : Nat) : List Value := (List.range k).map fun j => .pointer (some ⟨P j, 0, none⟩)
theorem pv_get (P : Nat → Nat) (k j : Nat) (h : j < k) : (pv P k)[j]? = some (.pointer (some ⟨P j, 0, none⟩)) := by
  unfold pv
  rw [List.getElem?_map, List.getElem?_range h]; rfl
theorem pv_snoc (P : Nat → Nat) (k b : Nat) : pv (put P k b) (k + 1) = pv P k ++ [.pointer (some ⟨b, 0, none⟩)] := by
  unfold pv
  rw [List.range_succ, List.map_append]
  congr 1
  · apply List.map_congr_left
    intro j hj
    rw [List.mem_range] at hj
    rw [put_other _ _ _ (by omega)]
  · simp [put_same]

/-- A clock gc at n; a tree g (all blocks of F) of m numbers; a row gl of m numbers; k statuses behind the pointers of v. Each block's tag says whose it is. -/
structure Wb (w0 w : World) (gc : Nat) (n : Int) (F : Nat → Prop) (g m : Nat) (K : Nat → Int) (out : Nat → Bool) (gl : Nat) (last : Nat → Int) (v : Value) (k : Nat) (P : Nat → Nat) (S D : Nat → Int) (T : Int) (tag : Nat → Nat) : Prop where
  ck : ClockC w gc n
  tr : TreeI w F g m K out
  la : Own w gl 0 m (fun j => .int .i64 (last j))
  ps : Sl w0.heap.size w 1 v k (pv P k)
  st : ∀ j, j < k → IdleC w (P j) (S j) T (D j)
  t0 : ∀ b, F b → tag b = 0
  t1 : tag gc = 1
  t2 : tag gl = 2
  t3 : ∀ b, v.ownBlock = some b → tag b = 3
  t4 : ∀ j, j < k → tag (P j) = 4 + j
  f0 : ∀ b, F b → w0.heap.size ≤ b
  c0 : w0.heap.size ≤ gc
  l0 : w0.heap.size ≤ gl
  p0 : ∀ j, j < k → w0.heap.size ≤ P j
  new : Below w0.heap.size w0 w
section
variable {w0 w w' : World} {gc : Nat} {n : Int} {F : Nat → Prop} {g m : Nat} {K : Nat → Int} {out : Nat → Bool} {gl : Nat} {last : Nat → Int} {v : Value} {k : Nat} {P : Nat → Nat} {S D : Nat → Int} {T : Int} {tag : Nat → Nat}
theorem Wb.upd {X : Nat → Prop} (h : Wb w0 w gc n F g m K out gl last v k P S D T tag) (hu : Upd X w w') (hX : ∀ b, X b → w.heap.size ≤ b) : Wb w0 w' gc n F g m K out gl last v k P S D T tag :=
  ⟨h.ck.upd hu (fun e => by have := hX _ e; have := h.ck.lt; omega), h.tr.upd hu (fun b hb e => by have := hX _ e; have := h.tr.lt b hb; omega), h.la.upd hu (fun e => by have := hX _ e; have := h.la.lt; omega), h.ps.upd hu (fun b hb e => by have := hX _ e; have := (h.ps.lt b hb).2; omega), fun j hj => (h.st j hj).upd hu (fun e => by have := hX _ e; have := (h.st j hj).lt; omega),
    h.t0, h.t1, h.t2, h.t3, h.t4, h.f0, h.c0, h.l0, h.p0, h.new.upd hu h.new.size (fun b _ e => by have := hX _ e; have := h.new.size; omega)⟩
theorem Wb.on (h : Wb w0 w gc n F g m K out gl last v k P S D T tag) (hb : Below w.heap.size w w') : Wb w0 w' gc n F g m K out gl last v k P S D T tag :=
  h.upd (X := fun k => w.heap.size ≤ k) (Upd.of_below hb (fun _ _ h => h)) (fun _ h => h)
theorem Wb.alloc (h : Wb w0 w gc n F g m K out gl last v k P S D T tag) (o : Obj) : Wb w0 (w.alloc o) gc n F g m K out gl last v k P S D T tag := h.upd (X := fun _ => False) ((Upd.refl _ _).alloc o) (fun _ h => h.elim)
theorem Wb.drewN (h : Wb w0 w gc n F g m K out gl last v k P S D T tag) (q : Nat) : Wb w0 (w.drewN q) gc n F g m K out gl last v k P S D T tag := h.upd (X := fun _ => False) ((Upd.refl _ _).drewN q) (fun _ h => h.elim)
theorem Wb.went {n' : Int} (h : Wb w0 w gc n F g m K out gl last v k P S D T tag) (c : CkPost gc n' w w') : Wb w0 w' gc n' F g m K out gl last v k P S D T tag :=
  ⟨c.1, h.tr.upd c.2 (fun b hb e => by have := h.t0 b hb; rw [e, h.t1] at this; omega), h.la.upd c.2 (fun e => by have := h.t2; rw [e, h.t1] at this; omega), h.ps.upd c.2 (fun b hb e => by have := h.t3 b hb; rw [e, h.t1] at this; omega), fun j hj => (h.st j hj).upd c.2 (fun e => by have := h.t4 j hj; rw [e, h.t1] at this; omega),
    h.t0, h.t1, h.t2, h.t3, h.t4, h.f0, h.c0, h.l0, h.p0, h.new.upd c.2 h.new.size (fun b _ e => by have := h.c0; omega)⟩
theorem Wb.tree {K' : Nat → Int} {out' : Nat → Bool} (h : Wb w0 w gc n F g m K out gl last v k P S D T tag) (c : TIPost F g m K' out' w w') : Wb w0 w' gc n F g m K' out' gl last v k P S D T tag :=
  ⟨h.ck.upd c.2 (fun e => by have := h.t0 _ e; rw [h.t1] at this; omega), c.1, h.la.upd c.2 (fun e => by have := h.t0 _ e; rw [h.t2] at this; omega), h.ps.upd c.2 (fun b hb e => by have := h.t0 _ e; rw [h.t3 b hb] at this; omega), fun j hj => (h.st j hj).upd c.2 (fun e => by have := h.t0 _ e; rw [h.t4 j hj] at this; omega),
    h.t0, h.t1, h.t2, h.t3, h.t4, h.f0, h.c0, h.l0, h.p0, h.new.upd c.2 h.new.size (fun b _ e => h.f0 b e)⟩
theorem Wb.did {s d : Int} (h : Wb w0 w gc n F g m K out gl last v k P S D T tag) (i : Nat) (hi : i < k) (c : IdPost (P i) s T d w w') : Wb w0 w' gc n F g m K out gl last v k P (put S i s) (put D i d) T tag :=
  ⟨h.ck.upd c.2 (fun e => by have := h.t4 i hi; rw [← e, h.t1] at this; omega), h.tr.upd c.2 (fun b hb e => by have := h.t0 b hb; rw [e, h.t4 i hi] at this; omega), h.la.upd c.2 (fun e => by have := h.t2; rw [e, h.t4 i hi] at this; omega), h.ps.upd c.2 (fun b hb e => by have := h.t3 b hb; rw [e, h.t4 i hi] at this; omega),
    fun j hj => by
      by_cases e : j = i
      · subst e; rw [put_same, put_same]; exact c.1
      · rw [put_other _ _ _ e, put_other _ _ _ e]
        exact (h.st j hj).upd c.2 (fun e2 => by have := h.t4 j hj; rw [e2, h.t4 i hi] at this; omega),
    h.t0, h.t1, h.t2, h.t3, h.t4, h.f0, h.c0, h.l0, h.p0, h.new.upd c.2 h.new.size (fun b _ e => by have := h.p0 i hi; omega)⟩
theorem Wb.told (h : Wb w0 w gc n F g m K out gl last v k P S D T tag) (i : Nat) (hi : i < m) (x : Int) : Wb w0 (w.setCell ⟨gl, i, none⟩ (.int .i64 x)) gc n F g m K out gl (put last i x) v k P S D T tag :=
  have hu : Upd (fun k => k = gl) w (w.setCell ⟨gl, i, none⟩ (.int .i64 x)) := (Upd.refl (fun k => k = gl) w).setCell (p := ⟨gl, i, none⟩) (fun _ => rfl) _
  ⟨h.ck.upd hu (fun e => by have := h.t1; rw [e, h.t2] at this; omega), h.tr.upd hu (fun b hb e => by have := h.t0 b hb; rw [e, h.t2] at this; omega), own_put h.la i hi x, h.ps.upd hu (fun b hb e => by have := h.t3 b hb; rw [e, h.t2] at this; omega), fun j hj => (h.st j hj).upd hu (fun e => by have := h.t4 j hj; rw [e, h.t2] at this; omega),
    h.t0, h.t1, h.t2, h.t3, h.t4, h.f0, h.c0, h.l0, h.p0, h.new.upd hu h.new.size (fun b _ e => by have := h.l0; omega)⟩
theorem Wb.lastAt (h : Wb w0 w gc n F g m K out gl last v k P S D T tag) (j : Nat) (hj : j < m) : w.cell? ⟨gl, j, none⟩ = some (.int .i64 (last j)) ∧ w.frozen? ⟨gl, j, none⟩ = false := by
  have h1 := h.la.cell j hj
  have h2 := h.la.free j hj
  rw [Nat.zero_add] at h1 h2
  exact ⟨h1, h2⟩
theorem Wb.ptr {gp off c : Nat} (h : Wb w0 w gc n F g m K out gl last v k P S D T tag) (hv : v = .slice (some ⟨gp, off, none⟩) k c) (j : Nat) (hj : j < k) : gp < w.heap.size ∧ w.cell? ⟨gp, off + j, none⟩ = some (.pointer (some ⟨P j, 0, none⟩)) := by
  rcases h.ps.2 with ⟨h1, h2⟩ | ⟨g', off', cap, h1, h2, h3, h4, h5, h6, h7⟩
  · omega
  · rw [hv] at h1
    simp only [Value.slice.injEq, Option.some.injEq, Addr.mk.injEq] at h1
    obtain ⟨⟨rfl, rfl, -⟩, -, rfl⟩ := h1
    exact ⟨h3, by rw [h6 j (by omega), pv_get _ _ _ hj]⟩
/-- One status more: made, its pointer laid in a cell, and appended. -/
theorem Wb.grow {e : Ending} {w2 w3 : World} {v' : Value} {d : Int} (h : Wb w0 w gc n F g m K out gl last v k P S D T tag) (hn : IdNew w T d e w2) (hv : v = .slice none 0 0 ∨ ∃ gp off c, v = .slice (some ⟨gp, off, none⟩) k c)
    (o : Obj) (q1 : Sl w0.heap.size w3 1 v' (k + 1) (pv P k ++ [.pointer (some ⟨w.heap.size, 0, none⟩)])) (q2 : Upd (fun b => v.ownBlock = some b) (w2.alloc o) w3) (q3 : ∀ b, v'.ownBlock = some b → v.ownBlock = some b ∨ (w2.alloc o).heap.size ≤ b) :
    ∃ tag', Wb w0 w3 gc n F g m K out gl last v' (k + 1) (put P k w.heap.size) (put S k 0) (put D k d) T tag' := by
  obtain ⟨-, hs, hsz, hb⟩ := hn
  have h2 := (h.on hb).alloc o
  have hs2 : IdleC (w2.alloc o) w.heap.size 0 T d := hs.on ((Below.refl _ _).alloc (Nat.le_refl _) o)
  have hsz2 : (w2.alloc o).heap.size = w.heap.size + 1 + 1 := by simp [hsz]
  have hown := fun b hb => (h.ps.lt b hb).2
  have hnew := h.new.size
  refine ⟨fun b => if b = w.heap.size then 4 + k else if b < w.heap.size then tag b else 3, ?_⟩
  have told : ∀ b, b < w.heap.size → (fun b => if b = w.heap.size then 4 + k else if b < w.heap.size then tag b else 3) b = tag b := fun b hb => by
    show (if _ then _ else _) = _
    rw [if_neg (by omega), if_pos hb]
  refine ⟨h2.ck.upd q2 (fun e => ?_), h2.tr.upd q2 (fun b hb e => ?_), h2.la.upd q2 (fun e => ?_), by rw [pv_snoc]; exact q1, fun j hj => ?_, fun b hb => ?_, ?_, ?_, fun b hb => ?_, fun j hj => ?_, h.f0, h.c0, h.l0, fun j hj => ?_, h2.new.upd q2 h2.new.size (fun b _ e => (h.ps.lt b e).1)⟩
  · have := h.t3 _ e; rw [h.t1] at this; omega
  · have := h.t3 _ e; rw [h.t0 b hb] at this; omega
  · have := h.t3 _ e; rw [h.t2] at this; omega
  · by_cases e : j = k
    · subst e
      rw [put_same, put_same, put_same]
      exact hs2.upd q2 (fun e => by have := hown _ e; omega)
    · rw [put_other _ _ _ e, put_other _ _ _ e, put_other _ _ _ e]
      exact (h2.st j (by omega)).upd q2 (fun e2 => by have := h.t3 _ e2; rw [h.t4 j (by omega)] at this; omega)
  · exact (told b (h.tr.lt b hb)).trans (h.t0 b hb)
  · exact (told gc h.ck.lt).trans h.t1
  · exact (told gl h.la.lt).trans h.t2
  · rcases q3 b hb with hb | hb
    · exact (told b (hown b hb)).trans (h.t3 b hb)
    · show (if _ then _ else _) = _
      rw [if_neg (by omega), if_neg (by omega)]
  · by_cases e : j = k
    · subst e; rw [put_same]; show (if _ then _ else _) = _; rw [if_pos rfl]
    · rw [put_other _ _ _ e]; exact (told _ (h.st j (by omega)).lt).trans (h.t4 j (by omega))
  · by_cases e : j = k
    · subst e; rw [put_same]; exact hnew
    · rw [put_other _ _ _ e]; exact h.p0 j (by omega)
theorem Wb.start {w3 w4 : World} (T : Int) (e : TypeId) (hc : ClockC w4 gc 0) (hg : w0.heap.size ≤ gc) (hg3 : gc < w3.heap.size) (ht : TreeI w4 F g m (fun _ => 0) (fun _ => false)) (hF : ∀ b, F b → w3.heap.size ≤ b) (hb : Below w0.heap.size w0 w4) :
    Wb w0 (w4.alloc (.cells (madeCells #[.int .i64 0] m) e)) gc 0 F g m (fun _ => 0) (fun _ => false) w4.heap.size (fun _ => 0) (.slice none 0 0) 0 (fun _ => 0) (fun _ => 0) (fun _ => 0) T (fun b => if b = gc then 1 else if b = w4.heap.size then 2 else 0) := by
  have hA : Below w4.heap.size w4 (w4.alloc (.cells (madeCells #[.int .i64 0] m) e)) := (Below.refl _ _).alloc (Nat.le_refl _) _
  have hlt := hc.lt
  refine ⟨hc.on hA, ht.alloc _, own_row w4 (.int .i64 0) m e, Sl.nil _ _ _, fun j hj => by omega, fun b hb => ?_, ?_, ?_, fun b hb => by simp [Value.ownBlock] at hb, fun j hj => by omega, fun b hb2 => by have := hF b hb2; omega, hg, hb.size, fun j hj => by omega, hb.trans (hA.mono hb.size)⟩
  · have h1 := hF b hb
    have h2 := ht.lt b hb
    show (if _ then _ else _) = _
    rw [if_neg (by omega), if_neg (by omega)]
  · show (if _ then _ else _) = _
    rw [if_pos rfl]
  · show (if _ then _ else _) = _
    rw [if_neg (by omega), if_pos rfl]
theorem Wb.shape {v' : Value} {B : Nat} {w : World} {xs : List Value} (h : Sl B w 1 v' (k + 1) xs) : ∃ gp off c, v' = .slice (some ⟨gp, off, none⟩) (k + 1) c := by
  rcases h.2 with ⟨_, h0⟩ | ⟨gp, off, c, h1, _⟩
  · omega
  · exact ⟨gp, off, c, h1⟩
end

/-- What is kept of each: those ahead of i are told by the clock at n. -/
def Okay (m : Nat) (n T : Int) (out : Nat → Bool) (S D last : Nat → Int) (i : Nat) : Prop :=
  ∀ j, j < m → (0 ≤ S j ∧ S j ≤ 3) ∧ out j = decide (S j ≠ 0) ∧ D j = last j + T ∧ (0 ≤ last j ∧ last j ≤ n) ∧ (S j = 1 → last j + T ≤ n) ∧ (j < i → S j = 0 → n < last j + T)
section
variable {m : Nat} {n T : Int} {out : Nat → Bool} {S D last : Nat → Int} {i : Nat}
theorem Okay.go (h : Okay m n T out S D last i) (b : Int) (hb : 0 ≤ b) : Okay m (n + b) T out S D last 0 := fun j hj => by
  obtain ⟨h1, h2, h3, h4, h5, h6⟩ := h j hj
  exact ⟨h1, h2, h3, by omega, fun e => by have := h5 e; omega, fun e => by omega⟩
theorem Okay.yes (h : Okay m n T out S D last i) (hi : i < m) (h0 : S i = 0) (hd : D i ≤ n) : Okay m n T (put out i true) (put S i 1) D last (i + 1) := fun j hj => by
  obtain ⟨h1, h2, h3, h4, h5, h6⟩ := h j hj
  by_cases e : j = i
  · subst e
    rw [put_same, put_same]
    exact ⟨by omega, by decide, h3, h4, fun _ => by omega, fun _ e => by omega⟩
  · rw [put_other _ _ _ e, put_other _ _ _ e]
    exact ⟨h1, h2, h3, h4, h5, fun _ e0 => h6 (by omega) e0⟩
theorem Okay.no (h : Okay m n T out S D last i) (hd : S i = 0 → n < D i) : Okay m n T out S D last (i + 1) := fun j hj => by
  obtain ⟨h1, h2, h3, h4, h5, h6⟩ := h j hj
  refine ⟨h1, h2, h3, h4, h5, fun hji e0 => ?_⟩
  by_cases e : j = i
  · subst e; have := hd e0; omega
  · exact h6 (by omega) e0
theorem Okay.ends (h : Okay m n T out S D last m) (p : Nat) : Okay m n T (put out p true) (put S p 2) D last m := fun j hj => by
  obtain ⟨h1, h2, h3, h4, h5, h6⟩ := h j hj
  by_cases e : j = p
  · subst e
    rw [put_same, put_same]
    exact ⟨by omega, by decide, h3, h4, fun e => by omega, fun _ e => by omega⟩
  · rw [put_other _ _ _ e, put_other _ _ _ e]
    exact ⟨h1, h2, h3, h4, h5, h6⟩
theorem Okay.over (h : Okay m n T out S D last m) (p : Nat) (hp : 2 ≤ S p) : Okay m n T (put out p true) S D last m := fun j hj => by
  obtain ⟨h1, h2, h3, h4, h5, h6⟩ := h j hj
  by_cases e : j = p
  · subst e
    rw [put_same]
    exact ⟨h1, (decide_eq_true (by omega)).symm, h3, h4, h5, h6⟩
  · rw [put_other _ _ _ e]
    exact ⟨h1, h2, h3, h4, h5, h6⟩
theorem Okay.read (h : Okay m n T out S D last m) (p : Nat) (hn : 0 ≤ n) (hT : 0 < T) : Okay m n T (put out p false) (put S p 0) (put D p (n + T)) (put last p n) m := fun j hj => by
  obtain ⟨h1, h2, h3, h4, h5, h6⟩ := h j hj
  by_cases e : j = p
  · subst e
    rw [put_same, put_same, put_same, put_same]
    exact ⟨by omega, by decide, rfl, by omega, fun e => by omega, fun _ e => by omega⟩
  · rw [put_other _ _ _ e, put_other _ _ _ e, put_other _ _ _ e, put_other _ _ _ e]
    exact ⟨h1, h2, h3, h4, h5, h6⟩
end
end Go.Proofs.Ytiahiadipmmgcaa
