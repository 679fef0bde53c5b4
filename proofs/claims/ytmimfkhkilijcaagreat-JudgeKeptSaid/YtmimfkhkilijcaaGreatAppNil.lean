/- Appends within a region that draws its order: to a slice that has no room, and to one's own; a row that is read, as what is appended. -/
import Derived.Test.YtmimfkhkilijcaaGreatKRing
import Derived.Test.YtmimfkhkilijcaaGreatKBase
import Derived.Test.YtmimfkhkilijcaaGreatKSrcA
import Derived.Deep.RegionLaw
import Derived.Lib.AppendZerosOnto
namespace Go.Proofs.YtmimfkhkilijcaaGreat
set_option maxRecDepth 4000
open Go.ChangeShapes Go.WideShapes Go.ChangeAt Go.RowKit
set_option linter.unusedVariables false
set_option linter.unusedSimpArgs false

/-- An append to a slice that has no room: nothing that was there changes. -/
theorem run_append_nil25 {P : Program} (w : World) {B : Nat} {size : Nat} (t tx ty e : TypeId) (i : TypeInfo) (z : Value) (bytes : Nat) (ht : P.underlying t = some (.slice e)) (hi : P.info? e = some i) (hz : i.zero = some z) (hsize : i.size = size) (hby : i.bytes = bytes) (hzs : z.cells.size = size)
    (g : Nat) (hBg : B ≤ g) (hg : g < w.heap.size) (x : Value) (m : Nat) (news : List Value) (hs : Src P size tx x m news w) (h63 : m ≤ maxLen) (hbytes : m * bytes ≤ 140737488355328) (hB : B ≤ w.heap.size) :
    ∃ a1 c1 w', (Builtin.append_ #[t, tx] ty #[.slice (some ⟨g, 0, none⟩) 0 0, x]).run P w = .ok (.slice a1 m c1) w' ∧ Sl B w' size (.slice a1 m c1) m news ∧ Below w.heap.size w w' := by
  subst hsize
  subst hby
  have hnl := hs.newsLen
  by_cases hm : m = 0
  · subst hm
    have hn : news = [] := List.eq_nil_of_length_eq_zero (by simpa using hnl)
    subst hn
    refine ⟨_, _, _, run_append_nothing w t tx ty e i ht hi (some ⟨g, 0, none⟩) 0 0 (Nat.le_refl _) x hs, ⟨by simp, .inr ⟨g, 0, 0, rfl, hBg, hg, Nat.le_refl _, Nat.zero_le _, fun j hj => by omega, fun j hj => by omega⟩⟩, Below.refl _ _⟩
  · have hsmall : ((0 + m : Nat) : Int) ≤ 9223372036854775807 := by simp only [maxLen] at h63; omega
    have hgr : 0 < 0 + m := by omega
    have hold : (Builtin.firstCells i.size 0 (.slice (some ⟨g, 0, none⟩) 0 0)).run P w.drew = .ok ([] : List Value).toArray w.drew := run_firstCells_some w.drew i.size 0 ⟨g, 0, none⟩ 0 0 [] (by simp) (fun j u hu => by simp at hu)
    have hrun := run_append_grow_src (P := P) w t tx ty e i z ht hi hz (some ⟨g, 0, none⟩) 0 0 [] hold x m news hs hgr hsmall (growslice_fits hgr (by simpa using hbytes))
    have hge := grownCap_ge w (0 + m) 0 e
    have hcm := grownCap_le_maxLen w (0 + m) 0 e (by simpa using h63)
    have hsz : grownCap w (0 + m) 0 e * i.size ≤ (([] ++ news).toArray ++ Builtin.zeroCells z.cells (grownCap w (0 + m) 0 e - (0 + m))).size := by
      simp only [Array.size_append, List.size_toArray, size_zeroCells, hzs, List.nil_append, hnl]
      rw [← Nat.add_mul]
      exact Nat.mul_le_mul_right _ (by omega)
    have hmade := Sl.made (B := B) w.drew (([] ++ news).toArray ++ Builtin.zeroCells z.cells (grownCap w (0 + m) 0 e - (0 + m))) e i.size (0 + m) _ hB hge hcm hsz
    have etake : (([] ++ news).toArray ++ Builtin.zeroCells z.cells (grownCap w (0 + m) 0 e - (0 + m))).toList.take ((0 + m) * i.size) = news := by
      rw [Array.toList_append, List.nil_append, show (0 + m) * i.size = news.length by rw [hnl, Nat.zero_add]]
      exact List.take_left
    rw [etake] at hmade
    refine ⟨_, _, _, by rw [hrun, Nat.zero_add], ?_, ?_⟩
    · rw [Nat.zero_add] at hmade
      exact hmade
    · exact (((Upd.refl (fun _ => False) w).drew).alloc _).below (Nat.le_refl _) (fun _ _ h => h.elim)

theorem step_append_nil25 {P : Program} {ops : Array Oper} {o : Oper} {a : Act} {w : World} {K : Act → World → Prop} {Q : Exit → Act → World → Prop} {E : Prop}
    (hgd : o.guard = none) (s x : Operand) (t tx : TypeId) (hop : o.op = Op.call { callee := Callee.builtin Builtin.append, args := #[s, x], argTypes := #[t, tx] })
    {B : Nat} {size : Nat} (e : TypeId) (i : TypeInfo) (z : Value) (bytes : Nat) (ht : P.underlying t = some (.slice e)) (hi : P.info? e = some i) (hz : i.zero = some z) (hsize : i.size = size) (hby : i.bytes = bytes) (hzs : z.cells.size = size)
    (g : Nat) (xv : Value) (m : Nat) (news : List Value) (hv : a.eval s = .slice (some ⟨g, 0, none⟩) 0 0) (hx : a.eval x = xv) (hBg : B ≤ g) (hg : g < w.heap.size) (hs : Src P size tx xv m news w)
    (h63 : m ≤ maxLen) (hbytes : m * bytes ≤ 140737488355328) (hB : B ≤ w.heap.size)
    (hK : ∀ a1 c1 w', Sl B w' size (.slice a1 m c1) m news → Below w.heap.size w w' → K (a.put o.dst (.slice a1 m c1)) w') :
    if Region.wanted o (yielded ops a.tmps) = true then Oper.wp P o a w K Q else E := by
  obtain ⟨a1, c1, w', hr, r1, r2⟩ := run_append_nil25 (P := P) w t tx o.type e i z bytes ht hi hz hsize hby hzs g hBg hg xv m news hs h63 hbytes hB
  exact step_append_run hgd s x t tx hop _ xv hv hx hr (hK a1 c1 w' r1 r2)
theorem step_append_own25 {P : Program} {ops : Array Oper} {o : Oper} {a : Act} {w : World} {K : Act → World → Prop} {Q : Exit → Act → World → Prop} {E : Prop}
    (hg : o.guard = none) (s x : Operand) (t tx : TypeId) (hop : o.op = Op.call { callee := Callee.builtin Builtin.append, args := #[s, x], argTypes := #[t, tx] })
    {B : Nat} {size : Nat} (e : TypeId) (i : TypeInfo) (z : Value) (bytes : Nat) (ht : P.underlying t = some (.slice e)) (hi : P.info? e = some i) (hz : i.zero = some z) (hsize : i.size = size) (hby : i.bytes = bytes) (hzs : z.cells.size = size)
    (v xv : Value) {n : Nat} {xs : List Value} (m : Nat) (news : List Value) (hv : a.eval s = v) (hx : a.eval x = xv) (h : Sl B w size v n xs) (hs : Src P size tx xv m news w)
    (h63 : n + m ≤ maxLen) (hbytes : (n + m) * bytes ≤ 140737488355328) (hB : B ≤ w.heap.size)
    (hK : ∀ a1 c1 w', Sl B w' size (.slice a1 (n + m) c1) (n + m) (xs ++ news) → Upd (fun k => v.ownBlock = some k) w w' → (∀ k, (Value.slice a1 (n + m) c1).ownBlock = some k → v.ownBlock = some k ∨ w.heap.size ≤ k) → K (a.put o.dst (.slice a1 (n + m) c1)) w') :
    if Region.wanted o (yielded ops a.tmps) = true then Oper.wp P o a w K Q else E := by
  obtain ⟨v', w', hr, r1, r2, r3⟩ := run_append_sl (P := P) w t tx o.type e i z bytes ht hi hz hsize hby hzs h xv m news hs h63 hbytes hB
  obtain ⟨a1, c1, rfl⟩ := r1.shape
  exact step_append_run hg s x t tx hop v xv hv hx hr (hK a1 c1 w' r1 r2 r3)

theorem flat_len25 {α : Type} (f : α → List Value) (m : Nat) (hf : ∀ x, (f x).length = m) : ∀ l : List α, (l.flatMap f).length = l.length * m
  | [] => by simp
  | x :: l => by rw [List.flatMap_cons, List.length_append, hf, flat_len25 f m hf l, List.length_cons, Nat.succ_mul]; omega
/-- A row of flat things that is read, as what is appended. -/
theorem src_rowg25 {α : Type} {P : Program} {tx e' : TypeId} (hk : P.underlying tx = some (.slice e')) (w : World) (a : Option Addr) (n c m : Nat) (h0 : 0 < m) (f : α → List Value) (hf : ∀ x, (f x).length = m) (h1 : ∀ x, ∀ u ∈ f x, u.oneCell' = true) (l : List α) (h : RowG w m f a l) (hn : l.length = n) : Src P m tx (.slice a n c) n (l.flatMap f) w := by
  subst hn
  by_cases hl : l.length = 0
  · have e : l = [] := List.eq_nil_of_length_eq_zero hl
    subst e
    cases a with
    | none => exact Src.ofNil w hk _
    | some p => exact Src.ofSlice w hk p 0 c [] (by simp) (fun j u hu => by simp at hu) (fun u hu => by cases hu)
  · obtain ⟨b, off, rfl, -, -⟩ := h.at_ 0 (by omega)
    refine Src.ofSlice w hk _ _ _ _ (flat_len25 f m hf l) (fun j u hu => ?_) (fun u hu => by obtain ⟨x, -, hx⟩ := List.mem_flatMap.1 hu; exact h1 x u hx)
    have hj := (List.getElem?_eq_some_iff.1 hu).1
    rw [flat_len25 f m hf] at hj
    have hq : j / m < l.length := Nat.div_lt_of_lt_mul (by rw [Nat.mul_comm]; exact hj)
    have hr : j % m < m := Nat.mod_lt _ h0
    have hd : j / m * m + j % m = j := Nat.div_add_mod' j m
    have e := flat_nth f m hf l (j / m) hq (j % m) hr
    rw [hd, hu] at e
    have h2 := (h.cell (j / m) hq).2 (j % m) hr
    rw [Addr.add_lit, show off + j = off + j / m * m + j % m by omega, h2, ← e]
end Go.Proofs.YtmimfkhkilijcaaGreat
