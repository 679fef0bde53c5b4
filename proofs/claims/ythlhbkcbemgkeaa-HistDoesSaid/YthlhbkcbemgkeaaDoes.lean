/- Numbers, the row that the law keeps of them, and the act at hand: apart. -/
import Derived.Test.YthlhbkcbemgkeaaActs
namespace Go.Proofs.Ythlhbkcbemgkeaa
open Go.ChangeShapes Go.WideShapes Go.ChangeAt Go.RowKit
open PHist
set_option linter.unusedVariables false
set_option linter.unusedSimpArgs false

def Ds (w0 wr : World) (gh : Nat) (Lh : List Int) (a : Option Addr) (L : List Int) : Prop := ∃ F, HistL wr F gh Lh ∧ RowI wr .i64 a L ∧ (∀ p, a = some p → ¬ F p.block ∧ p.block < wr.heap.size) ∧ (∀ k, F k → w0.heap.size ≤ k) ∧ Below w0.heap.size w0 wr
theorem RowI.upd {k : IntKind} {w w' : World} {a : Option Addr} {l : List Int} {S : Nat → Prop} (h : RowI w k a l) (hu : Upd S w w') (hn : ∀ p, a = some p → ¬ S p.block) : RowI w' k a l :=
  ⟨h.len, fun i hi => by
    obtain ⟨b, off, h1, h2, h3⟩ := h.at_ i hi
    exact ⟨b, off, h1, Nat.lt_of_lt_of_le h2 hu.size, by rw [hu.cell (p := ⟨b, off + i, none⟩) h2 (hn ⟨b, off, none⟩ h1)]; exact h3⟩, h.wf⟩
theorem Ds.bel {w0 wr : World} {gh : Nat} {Lh L : List Int} {a : Option Addr} (h : Ds w0 wr gh Lh a L) : Below w0.heap.size w0 wr := by
  obtain ⟨_, _, _, _, _, h⟩ := h
  exact h
theorem Ds.row {w0 wr : World} {gh : Nat} {Lh L : List Int} {a : Option Addr} (h : Ds w0 wr gh Lh a L) : RowI wr .i64 a L := by
  obtain ⟨_, _, h, _⟩ := h
  exact h
theorem Ds.below {w0 wr w' : World} {gh : Nat} {Lh L : List Int} {a : Option Addr} (h : Ds w0 wr gh Lh a L) (hb : Below wr.heap.size wr w') : Ds w0 w' gh Lh a L := by
  obtain ⟨F, h1, h2, h3, h4, h5⟩ := h
  exact ⟨F, h1.below hb, h2.below hb, fun p hp => ⟨(h3 p hp).1, Nat.lt_of_lt_of_le (h3 p hp).2 hb.size⟩, h4, h5.trans (hb.mono h5.size)⟩
theorem Ds.perm {w0 wr : World} {gh : Nat} {Lh Lh' L : List Int} {a : Option Addr} (h : Ds w0 wr gh Lh a L) (p : Lh.Perm Lh') : Ds w0 wr gh Lh' a L := by
  obtain ⟨F, h1, h2⟩ := h
  exact ⟨F, h1.perm p, h2⟩
theorem Ds.start (w0 w1 : World) (hb : Below w0.heap.size w0 w1) : Ds w0 (w1.alloc (.cells #[.slice none 0 0, .int .i64 0] 42)) w1.heap.size [] none [] :=
  ⟨_, HistL.zero w1 42, ⟨by simp, fun i hi => by simp at hi, by simp⟩, fun p hp => by (cases hp), fun k hk => by have := hb.size; omega, hb.alloc hb.size _⟩
theorem Ds.len {w0 wr : World} {gh : Nat} {Lh L : List Int} {a : Option Addr} (h : Ds w0 wr gh Lh a L) (m : Nat) (hm : Lh.length = m) : Calls Try.prog 24 #[.pointer (some ⟨gh, 0, none⟩)] wr fun z w' => z = .returned (.int .i64 m) ∧ wr = w' := by
  subst hm
  obtain ⟨F, h1, _⟩ := h
  exact hl_len F gh Lh wr h1
theorem Ds.rank {w0 wr : World} {gh : Nat} {Lh L : List Int} {a : Option Addr} (h : Ds w0 wr gh Lh a L) (k : Nat) (kz : Int) (hkz : kz = k) (o : Option Int) (hk : 1 ≤ k) (hk2 : k ≤ 9223372036854775807) (ho : (srt Lh)[k - 1]? = o) (z : Int) (b : Bool) (hz : z = o.getD 0) (hb : b = o.isSome) : Calls Try.prog 25 #[.pointer (some ⟨gh, 0, none⟩), .int .i64 kz] wr fun e w' => e = .returned (.tuple #[.int .i64 z, .bool b]) ∧ Ds w0 w' gh Lh a L ∧ Below wr.heap.size wr w' := by
  have hw := h
  obtain ⟨F, h1, _⟩ := h
  refine (hl_rank F gh Lh k kz hkz o z b wr h1 hk hk2 ho hz hb).mono ?_
  rintro e w' ⟨he, hb⟩
  exact ⟨he, hw.below hb, hb⟩
theorem Ds.low {w0 wr : World} {gh : Nat} {Lh L : List Int} {a : Option Addr} (h : Ds w0 wr gh Lh a L) (kz : Int) (hk : kz < 1) : Calls Try.prog 25 #[.pointer (some ⟨gh, 0, none⟩), .int .i64 kz] wr fun e w' => e = .returned (.tuple #[.int .i64 0, .bool false]) ∧ Ds w0 w' gh Lh a L ∧ Below wr.heap.size wr w' := by
  have hw := h
  obtain ⟨F, h1, _⟩ := h
  refine (hl_rank_low F gh Lh kz wr h1 hk).mono ?_
  rintro e w' ⟨he, hb⟩
  exact ⟨he, hw.below hb, hb⟩
theorem Ds.percent {w0 wr : World} {gh : Nat} {Lh L : List Int} {a : Option Addr} (h : Ds w0 wr gh Lh a L) (p : Nat) (hp : p ≤ 100) (hl : Lh.length ≤ 900) (o : Option Int) (ho : (srt Lh)[prank Lh.length p - 1]? = o) : Calls Try.prog 27 #[.pointer (some ⟨gh, 0, none⟩), .int .i64 p] wr fun e w' => e = .returned (.tuple #[.int .i64 (o.getD 0), .bool o.isSome]) ∧ Ds w0 w' gh Lh a L ∧ Below wr.heap.size wr w' := by
  have hw := h
  obtain ⟨F, h1, _⟩ := h
  refine (hl_percent F gh Lh p p rfl o _ _ wr h1 hl hp ho rfl rfl).mono ?_
  rintro e w' ⟨he, hb⟩
  exact ⟨he, hw.below hb, hb⟩

theorem Ds.many {w0 wr : World} {gh : Nat} {Lh L : List Int} {a : Option Addr} (h : Ds w0 wr gh Lh a L) (m : Nat) (hm : Lh.length = m) : gh < wr.heap.size ∧ wr.cell? ⟨gh, 1, none⟩ = some (.int .i64 (m : Int)) := by
  subst hm
  obtain ⟨F, ⟨v, rs, h1, _⟩, _⟩ := h
  obtain ⟨hg, _, _, c1, _⟩ := h1.at_.two
  exact ⟨hg, c1⟩

/-- .. with the act at hand in block g. -/
def Dl (w0 wr : World) (gh : Nat) (Lh : List Int) (a : Option Addr) (L : List Int) (g : Nat) (cs : List Value) : Prop := ∃ F, HistL wr F gh Lh ∧ RowI wr .i64 a L ∧ (∀ p, a = some p → ¬ F p.block ∧ p.block < wr.heap.size) ∧ (∀ k, F k → w0.heap.size ≤ k) ∧ Below w0.heap.size w0 wr ∧ At wr g cs ∧ ¬ F g
theorem Dl.start {w0 wr : World} {gh : Nat} {Lh L : List Int} {a : Option Addr} (h : Ds w0 wr gh Lh a L) (o : Bool) (n : Int) : Dl w0 (wr.alloc (.cells #[.bool o, .int .i64 n] 44)) gh Lh a L wr.heap.size [.bool o, .int .i64 n] := by
  obtain ⟨F, h1, h2, h3, h4, h5⟩ := h
  have hb : Below wr.heap.size wr (wr.alloc (.cells #[.bool o, .int .i64 n] 44)) := ((Upd.refl (fun _ => False) wr).alloc _).below (Nat.le_refl _) (fun _ _ h => h.elim)
  exact ⟨F, h1.below hb, h2.below hb, fun p hp => ⟨(h3 p hp).1, Nat.lt_of_lt_of_le (h3 p hp).2 hb.size⟩, h4, h5.trans (hb.mono h5.size), At.alloc wr [.bool o, .int .i64 n] _, fun hF => by have := h1.lt _ hF; omega⟩
theorem Dl.ds {w0 wr : World} {gh : Nat} {Lh L : List Int} {a : Option Addr} {g : Nat} {cs : List Value} (h : Dl w0 wr gh Lh a L g cs) : Ds w0 wr gh Lh a L := by
  obtain ⟨F, h1, h2, h3, h4, h5, _⟩ := h
  exact ⟨F, h1, h2, h3, h4, h5⟩
theorem Dl.cells {w0 wr : World} {gh : Nat} {Lh L : List Int} {a : Option Addr} {g : Nat} {x y : Value} (h : Dl w0 wr gh Lh a L g [x, y]) : wr.cell? ⟨g, 0, none⟩ = some x ∧ wr.cell? ⟨g, 1, none⟩ = some y := by
  obtain ⟨F, h1, h2, h3, h4, h5, h6, _⟩ := h
  obtain ⟨_, c0, _, c1, _⟩ := h6.two
  exact ⟨c0, c1⟩
theorem Dl.lt {w0 wr : World} {gh : Nat} {Lh L : List Int} {a : Option Addr} {g : Nat} {cs : List Value} (h : Dl w0 wr gh Lh a L g cs) : g < wr.heap.size := by
  obtain ⟨F, h1, h2, h3, h4, h5, h6, _⟩ := h
  exact h6.1
theorem Dl.below {w0 wr w' : World} {gh : Nat} {Lh L : List Int} {a : Option Addr} {g : Nat} {cs : List Value} (h : Dl w0 wr gh Lh a L g cs) (hb : Below wr.heap.size wr w') : Dl w0 w' gh Lh a L g cs := by
  obtain ⟨F, h1, h2, h3, h4, h5, h6, h7⟩ := h
  exact ⟨F, h1.below hb, h2.below hb, fun p hp => ⟨(h3 p hp).1, Nat.lt_of_lt_of_le (h3 p hp).2 hb.size⟩, h4, h5.trans (hb.mono h5.size), h6.on hb, h7⟩
theorem Dl.put {w0 wr w' : World} {gh : Nat} {Lh Lh' L : List Int} {a : Option Addr} {g : Nat} {cs : List Value} {F : Nat → Prop} (h1 : HistL wr F gh Lh) (h2 : RowI wr .i64 a L) (h3 : ∀ p, a = some p → ¬ F p.block ∧ p.block < wr.heap.size) (h4 : ∀ k, F k → w0.heap.size ≤ k) (h5 : Below w0.heap.size w0 wr) (h6 : At wr g cs) (h7 : ¬ F g) (hp : HLPost F gh Lh' wr w') : Dl w0 w' gh Lh' a L g cs := by
  obtain ⟨F', k1, k2, k3⟩ := hp
  have hs := h5.size
  refine ⟨F', k1, h2.upd k2 (fun p hp => (h3 p hp).1), fun p hp => ⟨fun hf => ?_, Nat.lt_of_lt_of_le (h3 p hp).2 k2.size⟩, fun k hk => (k3 k hk).elim (h4 k) (fun h => by omega), h5.upd k2 hs (fun i _ hi => h4 i hi), h6.upd k2 h7, fun hf => (k3 g hf).elim h7 (fun h => by have := h6.1; omega)⟩
  rcases k3 _ hf with h | h
  · exact (h3 p hp).1 h
  · have := (h3 p hp).2; omega
theorem Dl.add {w0 wr : World} {gh : Nat} {Lh L : List Int} {a : Option Addr} {g : Nat} {cs : List Value} (h : Dl w0 wr gh Lh a L g cs) (hl : Lh.length ≤ 900) (n : Int) : Calls Try.prog 23 #[.pointer (some ⟨gh, 0, none⟩), .int .i64 n] wr fun e w' => e = .returned (.tuple #[]) ∧ Dl w0 w' gh (n :: Lh) a L g cs := by
  obtain ⟨F, h1, h2, h3, h4, h5, h6, h7⟩ := h
  refine (hl_add F gh Lh n wr h1 hl).mono ?_
  rintro e w' ⟨he, hp⟩
  exact ⟨he, Dl.put h1 h2 h3 h4 h5 h6 h7 hp⟩
theorem Dl.rem {w0 wr : World} {gh : Nat} {Lh Lh' L : List Int} {a : Option Addr} {g : Nat} {cs : List Value} (h : Dl w0 wr gh Lh a L g cs) (hl : Lh.length ≤ 900) (n : Int) (hp : (n :: Lh').Perm Lh) : Calls Try.prog 22 #[.pointer (some ⟨gh, 0, none⟩), .int .i64 n] wr fun e w' => e = .returned (.bool true) ∧ Dl w0 w' gh Lh' a L g cs := by
  obtain ⟨F, h1, h2, h3, h4, h5, h6, h7⟩ := h
  refine (hl_rem F gh Lh Lh' n wr h1 hl hp).mono ?_
  rintro e w' ⟨he, hp⟩
  exact ⟨he, Dl.put h1 h2 h3 h4 h5 h6 h7 hp⟩
theorem Dl.rem_none {w0 wr : World} {gh : Nat} {Lh L : List Int} {a : Option Addr} {g : Nat} {cs : List Value} (h : Dl w0 wr gh Lh a L g cs) (hl : Lh.length ≤ 900) (n : Int) (hn : n ∉ Lh) : Calls Try.prog 22 #[.pointer (some ⟨gh, 0, none⟩), .int .i64 n] wr fun e w' => e = .returned (.bool false) ∧ Dl w0 w' gh Lh a L g cs := by
  have hw := h
  obtain ⟨F, h1, _⟩ := h
  refine (hl_rem_none F gh Lh n wr h1 hl hn).mono ?_
  rintro e w' ⟨he, hb⟩
  exact ⟨he, hw.below hb⟩
theorem Dl.without {w0 wr : World} {gh : Nat} {Lh L : List Int} {a : Option Addr} {g : Nat} {cs : List Value} (h : Dl w0 wr gh Lh a L g cs) (c : Nat) (n : Int) (hc : L.length ≤ c) (hn : n ∈ L) (hl : L.length ≤ 1000) : Calls Try.prog 21 #[.slice a L.length c, .int .i64 n] wr fun e w' => ∃ a' m c', e = .returned (.tuple #[.slice a' m c', .bool true]) ∧ m = (wout n L).length ∧ m ≤ c' ∧ Dl w0 w' gh Lh a' (wout n L) g cs := by
  obtain ⟨F, h1, h2, h3, h4, h5, h6, h7⟩ := h
  refine (ref_without2 a L.length c L n wr rfl hc h2 hn hl).mono ?_
  rintro e w' ⟨a', m, c', he, hm, hmc, ⟨hr, hb⟩, hf⟩
  refine ⟨a', m, c', he, hm, hmc, F, h1.below hb, hr, fun p hp => ⟨fun hfp => ?_, (hf p hp).2⟩, h4, h5.trans (hb.mono h5.size), h6.on hb, h7⟩
  have := h1.lt _ hfp
  have := (hf p hp).1
  omega
theorem Dl.without_none {w0 wr : World} {gh : Nat} {Lh L : List Int} {a : Option Addr} {g : Nat} {cs : List Value} (h : Dl w0 wr gh Lh a L g cs) (c : Nat) (n : Int) (hn : n ∉ L) (hl : L.length ≤ 1000) : Calls Try.prog 21 #[.slice a L.length c, .int .i64 n] wr fun e w' => e = .returned (.tuple #[.slice a L.length c, .bool false]) ∧ wr = w' := by
  obtain ⟨F, h1, h2, _⟩ := h
  exact ref_without_none a L.length c L n wr rfl h2 hn hl
/-- Behind new memory: a row that lies in it. -/
theorem Dl.fresh {w0 wr w' : World} {gh : Nat} {Lh L L' : List Int} {a a' : Option Addr} {g m c n : Nat} {cs : List Value} (h : Dl w0 wr gh Lh a L g cs) (hb : Below wr.heap.size wr w') (hs : Sl wr.heap.size w' 1 (.slice a' m c) n (iv L')) (hbd : ∀ x ∈ L', -9223372036854775808 ≤ x ∧ x ≤ 9223372036854775807) : Ds w0 w' gh Lh a' L' ∧ m = L'.length ∧ m ≤ c := by
  obtain ⟨F, h1, h2, h3, h4, h5, h6, h7⟩ := h
  have hf := hs.fresh
  obtain ⟨hn, a2, c2, e, hr⟩ := rowi_of_sl hs hbd
  injection e with e1 e2 e3
  subst e1 e2 e3
  refine ⟨⟨F, h1.below hb, hr, fun p hp => ⟨fun hfp => ?_, (hf p hp).2⟩, h4, h5.trans (hb.mono h5.size)⟩, rfl, hs.le⟩
  have := h1.lt _ hfp
  have := (hf p hp).1
  omega
theorem bA {a w : World} (h : Below a.heap.size a w) (o : Obj) : Below a.heap.size a (w.alloc o) := h.alloc h.size o
theorem bD {a w : World} (h : Below a.heap.size a w) : Below a.heap.size a w.drew := below_drewN h 1
theorem at_new (w : World) (u : Value) (e : TypeId) (N : Nat) (hN : w.heap.size = N) : At (w.alloc (.cells #[u] e)) N [u] := by
  subst hN
  exact At.alloc w [u] e
theorem at_kept {w : World} {N : Nat} {l : List Value} (h : At w N l) (o : Obj) : At (w.alloc o) N l := h.upd (S := fun _ => False) ((Upd.refl _ _).alloc _) id
theorem src_cell {P : Program} {tx e' : TypeId} (hk : P.underlying tx = some (.slice e')) {w : World} {N : Nat} {u : Value} (h : At w N [u]) (hu : u.oneCell' = true) : Src P 1 tx (.slice (some ⟨N, 0, none⟩) 1 1) 1 [u] w := by
  obtain ⟨_, c0, _⟩ := h.one
  refine Src.ofSlice w hk ⟨N, 0, none⟩ 1 1 _ rfl (fun j x hx => ?_) (fun x hx => ?_)
  · match j, hx with
    | 0, hx => simp at hx; subst hx; exact c0
  · simp at hx; subst hx; exact hu

/-- An append to a slice that has no room: nothing that was there changes. -/
theorem run_append_empty {P : Program} (w : World) {B : Nat} {size : Nat} (t tx ty e : TypeId) (i : TypeInfo) (z : Value) (bytes : Nat) (ht : P.underlying t = some (.slice e)) (hi : P.info? e = some i) (hz : i.zero = some z) (hsize : i.size = size) (hby : i.bytes = bytes) (hzs : z.cells.size = size)
    (g : Nat) (hBg : B ≤ g) (hg : g < w.heap.size) (x : Value) (m : Nat) (news : List Value) (hs : Src P size tx x m news w) (h63 : m ≤ maxLen) (hbytes : m * bytes ≤ 140737488355328) (hB : B ≤ w.heap.size) :
    ∃ a1 c1 w', (Builtin.append_ #[t, tx] ty #[.slice (some ⟨g, 0, none⟩) 0 0, x]).run P w = .ok (.slice a1 m c1) w' ∧ Sl B w' size (.slice a1 m c1) m news ∧ Below w.heap.size w w' := by
  subst hsize
  subst hby
  have hnl := hs.newsLen
  by_cases hm : m = 0
  · subst hm
    have hn : news = [] := List.eq_nil_of_length_eq_zero (by simpa using hnl)
    subst hn
    refine ⟨_, _, _, run_append_nothing w t tx ty e i ht hi (some ⟨g, 0, none⟩) 0 0 (Nat.le_refl _) x hs, ⟨by simp, .inr ⟨g, 0, 0, rfl, hBg, hg, Nat.le_refl _, Nat.zero_le _, fun j hj => by omega, fun j hj => by omega⟩⟩, Below.refl _ _⟩
  · have hsmall : ((0 + m : Nat) : Int) ≤ 9223372036854775807 := by simp only [maxLen] at h63; omega
    have hgr : 0 < 0 + m := by omega
    have hold : (Builtin.firstCells i.size 0 (.slice (some ⟨g, 0, none⟩) 0 0)).run P w.drew = .ok ([] : List Value).toArray w.drew := run_firstCells_some w.drew i.size 0 ⟨g, 0, none⟩ 0 0 [] (by simp) (fun j u hu => by simp at hu)
    have hrun := run_append_grow_src (P := P) w t tx ty e i z ht hi hz (some ⟨g, 0, none⟩) 0 0 [] hold x m news hs hgr hsmall (growslice_fits hgr (by simpa using hbytes))
    have hge := grownCap_ge w (0 + m) 0 e
    have hcm := grownCap_le_maxLen w (0 + m) 0 e (by simpa using h63)
    have hsz : grownCap w (0 + m) 0 e * i.size ≤ (([] ++ news).toArray ++ Builtin.zeroCells z.cells (grownCap w (0 + m) 0 e - (0 + m))).size := by
      simp only [Array.size_append, List.size_toArray, size_zeroCells, hzs, List.nil_append, hnl]
      rw [← Nat.add_mul]
      exact Nat.mul_le_mul_right _ (by omega)
    have hmade := Sl.made (B := B) w.drew (([] ++ news).toArray ++ Builtin.zeroCells z.cells (grownCap w (0 + m) 0 e - (0 + m))) e i.size (0 + m) _ hB hge hcm hsz
    have etake : (([] ++ news).toArray ++ Builtin.zeroCells z.cells (grownCap w (0 + m) 0 e - (0 + m))).toList.take ((0 + m) * i.size) = news := by
      rw [Array.toList_append, List.nil_append, show (0 + m) * i.size = news.length by rw [hnl, Nat.zero_add]]
      exact List.take_left
    rw [etake] at hmade
    refine ⟨_, _, _, by rw [hrun, Nat.zero_add], ?_, ?_⟩
    · rw [Nat.zero_add] at hmade
      exact hmade
    · exact (((Upd.refl (fun _ => False) w).drew).alloc _).below (Nat.le_refl _) (fun _ _ h => h.elim)

theorem step_append_empty {P : Program} {ops : Array Oper} {o : Oper} {a : Act} {w : World} {K : Act → World → Prop} {Q : Exit → Act → World → Prop} {E : Prop}
    (hgd : o.guard = none) (s x : Operand) (t tx : TypeId) (hop : o.op = Op.call { callee := Callee.builtin Builtin.append, args := #[s, x], argTypes := #[t, tx] })
    {B : Nat} {size : Nat} (e : TypeId) (i : TypeInfo) (z : Value) (bytes : Nat) (ht : P.underlying t = some (.slice e)) (hi : P.info? e = some i) (hz : i.zero = some z) (hsize : i.size = size) (hby : i.bytes = bytes) (hzs : z.cells.size = size)
    (g : Nat) (xv : Value) (m : Nat) (news : List Value) (hv : a.eval s = .slice (some ⟨g, 0, none⟩) 0 0) (hx : a.eval x = xv) (hBg : B ≤ g) (hg : g < w.heap.size) (hs : Src P size tx xv m news w)
    (h63 : m ≤ maxLen) (hbytes : m * bytes ≤ 140737488355328) (hB : B ≤ w.heap.size)
    (hK : ∀ a1 c1 w', Sl B w' size (.slice a1 m c1) m news → Below w.heap.size w w' → K (a.put o.dst (.slice a1 m c1)) w') :
    if Region.wanted o (yielded ops a.tmps) = true then Oper.wp P o a w K Q else E := by
  obtain ⟨a1, c1, w', hr, r1, r2⟩ := run_append_empty (P := P) w t tx o.type e i z bytes ht hi hz hsize hby hzs g hBg hg xv m news hs h63 hbytes hB
  exact step_append_run hgd s x t tx hop _ xv hv hx hr (hK a1 c1 w' r1 r2)
end Go.Proofs.Ythlhbkcbemgkeaa
