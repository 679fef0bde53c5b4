/- Parts of a slice; an append and a copy whose run is known, as steps of a walk. -/
import Derived.Test.YthpnkjnieljdiaaSlots
import Derived.Test.YthpnkjnieljdiaaBase
import Derived.Laws.Slices
import Derived.Deep.RegionLaw
namespace Go.Proofs.Ythpnkjnieljdiaa
open Go.ChangeShapes Go.WideShapes Go.ChangeAt Go.RowKit
set_option linter.unusedVariables false

section
variable {P : Program}
/-- A slice from place i on. -/
theorem sl_from {B : Nat} {w : World} {size : Nat} {v : Value} {n : Nat} {xs : List Value} (h : Sl B w size v n xs) {t e : TypeId} (ht : P.underlying t = some (.slice e)) (hz : ∀ w, (Go.sizeOf e).run P w = .ok size w) (i : Nat) (zi : Int) (hzi : zi = i) (hi : i ≤ n) (h1 : ∀ u ∈ xs, u.oneCell' = true) :
    ∃ a m c, m = n - i ∧ (∀ w', (Instr.slice t v (some (.int .i64 zi)) none none).run P w' = .ok (.slice a m c) w') ∧ ∀ w', Sl B w' size v n xs → Src P size t (.slice a m c) m (xs.drop (i * size)) w' := by
  subst hzi
  have ht' : P.underlying t = some (.slice (P.elem t)) := by simp [Program.elem, ht]
  have he : P.elem t = e := by simp [Program.elem, ht]
  obtain ⟨a, c, rfl⟩ := h.shape
  refine ⟨if n = i ∧ c = i then a else if c = i then a else a.map (·.add (i * size)), n - i, c - i, rfl, fun w' => ?_, fun w' h' => ?_⟩
  · rw [run_slice_l w' t a n c ht' .i64 (i : Int) (by omega) (by omega), he, hz]
    simp only [Result.andThen, sliced, Int.toNat_natCast]
    by_cases hc : c = i <;> simp [hc]
  · rcases h'.2 with ⟨h0, h00⟩ | ⟨g, off, cap, e0, hb, hg, hn, hm, h3, h4⟩
    · cases h0
      have : i = 0 := by omega
      subst this
      have hx : xs = [] := List.eq_nil_of_length_eq_zero (by have := h.1; omega)
      subst hx
      simp
      exact Src.ofNil w' ht _
    · cases e0
      have hl := h.1
      by_cases hc : c = i
      · have hni : n = i := by omega
        subst hni
        rw [hc]
        simp only [Nat.sub_self, and_self, if_true]
        rw [List.drop_of_length_le (by omega)]
        exact Src.ofSlice w' ht _ _ _ [] (by simp) (fun j u hu => by simp at hu) (fun u hu => by cases hu)
      · rw [if_neg (by omega), if_neg hc]
        show Src P size t (.slice (some ((Addr.mk g off none).add (i * size))) (n - i) (c - i)) (n - i) _ w'
        refine Src.ofSlice w' ht _ _ _ _ (by rw [List.length_drop, hl, Nat.sub_mul]) (fun j u hu => ?_) (fun u hu => h1 u (List.mem_of_mem_drop hu))
        rw [List.getElem?_drop] at hu
        have hj := (List.getElem?_eq_some_iff.1 hu).1
        rw [Addr.add_lit, Addr.add_lit, ← hu, Nat.add_assoc]
        exact h3 _ (by omega)

/-- .. up to place i. -/
theorem sl_to {B : Nat} {w : World} {size : Nat} {v : Value} {n : Nat} {xs : List Value} (h : Sl B w size v n xs) {t e : TypeId} (ht : P.underlying t = some (.slice e)) (hz : ∀ w, (Go.sizeOf e).run P w = .ok size w) (i : Nat) (zi : Int) (hzi : zi = i) (hi : i ≤ n) (h1 : ∀ u ∈ xs, u.oneCell' = true) :
    ∃ a m c, m = i ∧ (∀ w', (Instr.slice t v none (some (.int .i64 zi)) none).run P w' = .ok (.slice a m c) w') ∧ ∀ w', Sl B w' size v n xs → Src P size t (.slice a m c) m (xs.take (i * size)) w' := by
  subst hzi
  have ht' : P.underlying t = some (.slice (P.elem t)) := by simp [Program.elem, ht]
  have he : P.elem t = e := by simp [Program.elem, ht]
  obtain ⟨a, c, rfl⟩ := h.shape
  have hnc : n ≤ c := by
    rcases h.2 with ⟨h0, h00⟩ | ⟨g, off, cap, e0, hb, hg, hn, _⟩
    · cases h0; exact Nat.le_refl _
    · cases e0; exact hn
  have h0a : ∀ a : Option Addr, a.map (·.add 0) = a := fun a => by cases a with
    | none => rfl
    | some a => show some (a.add 0) = some a; unfold Addr.add; simp
  refine ⟨a, i, c, rfl, fun w' => ?_, fun w' h' => ?_⟩
  · rw [run_slice_h w' t a n c ht' .i64 (i : Int) (by omega) (by omega), he, hz]
    simp only [Result.andThen, sliced, Int.toNat_natCast, Nat.zero_mul, Nat.sub_zero, h0a, ite_self]
  · rcases h'.2 with ⟨h0, h00⟩ | ⟨g, off, cap, e0, hb, hg, hn, hm, h3, h4⟩
    · cases h0
      have : i = 0 := by omega
      subst this
      simp
      exact Src.ofNil w' ht _
    · cases e0
      have hl := h.1
      have him : i * size ≤ n * size := Nat.mul_le_mul_right _ hi
      refine Src.ofSlice w' ht _ _ _ _ (by rw [List.length_take]; omega) (fun j u hu => ?_) (fun u hu => h1 u (List.mem_of_mem_take hu))
      have hj := (List.getElem?_eq_some_iff.1 hu).1
      rw [List.length_take] at hj
      rw [List.getElem?_take_of_lt (by omega)] at hu
      rw [Addr.add_lit, ← hu]
      exact h3 _ (by omega)

/-- An append whose run is known, in a region that draws. -/
theorem step_append_run {ops : Array Oper} {o : Oper} {a : Act} {w : World} {K : Act → World → Prop} {Q : Exit → Act → World → Prop} {E : Prop}
    (hg : o.guard = none) (d x : Operand) (dT sT : TypeId) (hop : o.op = Op.call { callee := Callee.builtin Builtin.append, args := #[d, x], argTypes := #[dT, sT] })
    (v u : Value) (hd : a.eval d = v) (hx : a.eval x = u) {v' : Value} {w' : World} (hr : (Builtin.append_ #[dT, sT] o.type #[v, u]).run P w = .ok v' w') (hK : K (a.put o.dst v') w') :
    if Region.wanted o (yielded ops a.tmps) = true then Oper.wp P o a w K Q else E := by
  have hw : Region.wanted o (yielded ops a.tmps) = true := by simp [Region.wanted, hg]
  rw [if_pos hw]
  unfold Oper.wp
  simp [execOp, hop, resolve, invoke, builtin, hd, hx, hr, Result.andThen]
  exact hK
theorem step_copy_run {ops : Array Oper} {o : Oper} {a : Act} {w : World} {K : Act → World → Prop} {Q : Exit → Act → World → Prop} {E : Prop}
    (hg : o.guard = none) (d x : Operand) (dT sT : TypeId) (hop : o.op = Op.call { callee := Callee.builtin Builtin.copy, args := #[d, x], argTypes := #[dT, sT] })
    (v u : Value) (hd : a.eval d = v) (hx : a.eval x = u) {v' : Value} {w' : World} (hr : (Builtin.copy_ #[dT, sT] o.type #[v, u]).run P w = .ok v' w') (hK : K (a.put o.dst v') w') :
    if Region.wanted o (yielded ops a.tmps) = true then Oper.wp P o a w K Q else E := by
  have hw : Region.wanted o (yielded ops a.tmps) = true := by simp [Region.wanted, hg]
  rw [if_pos hw]
  unfold Oper.wp
  simp [execOp, hop, resolve, invoke, builtin, hd, hx, hr, Result.andThen]
  exact hK
/-- .. in one that doesn't. -/
theorem wpList_append_run (w : World) {ops : Array Oper} {rest : List Oper} {o : Oper} {a : Act} {Q : Exit → Act → World → Prop} (hgd : o.guard = none) (s x : Operand) (t tx : TypeId)
    (ho : o.op = .call { callee := .builtin .append, args := #[s, x], argTypes := #[t, tx] }) (v u : Value) (hv : a.eval s = v) (hx : a.eval x = u) {v' : Value} {w' : World}
    (hr : (Builtin.append_ #[t, tx] o.type #[v, u]).run P w = .ok v' w') (hK : wpList P ops Q rest (a.put o.dst v') w') : wpList P ops Q (o :: rest) a w := by
  refine wpList_plain hgd fun K hK' => ?_
  unfold Oper.wp
  simp [execOp, ho, resolve, invoke, builtin, hv, hx, hr, Result.andThen]
  exact hK' _ _ hK
theorem wpList_copy_run (w : World) {ops : Array Oper} {rest : List Oper} {o : Oper} {a : Act} {Q : Exit → Act → World → Prop} (hgd : o.guard = none) (s x : Operand) (t tx : TypeId)
    (ho : o.op = .call { callee := .builtin .copy, args := #[s, x], argTypes := #[t, tx] }) (v u : Value) (hv : a.eval s = v) (hx : a.eval x = u) {v' : Value} {w' : World}
    (hr : (Builtin.copy_ #[t, tx] o.type #[v, u]).run P w = .ok v' w') (hK : wpList P ops Q rest (a.put o.dst v') w') : wpList P ops Q (o :: rest) a w := by
  refine wpList_plain hgd fun K hK' => ?_
  unfold Oper.wp
  simp [execOp, ho, resolve, invoke, builtin, hv, hx, hr, Result.andThen]
  exact hK' _ _ hK
end
end Go.Proofs.Ythpnkjnieljdiaa
