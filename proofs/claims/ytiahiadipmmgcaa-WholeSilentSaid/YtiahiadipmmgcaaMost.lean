/- max and min of two ints, as one step of a walk that does not part. -/
import Derived.Test.YtiahiadipmmgcaaKBase
namespace Go.Proofs.Ytiahiadipmmgcaa
set_option maxRecDepth 4000
open Go.ChangeShapes Go.WideShapes Go.ChangeAt Go.RowKit
set_option linter.unusedVariables false
set_option linter.unusedSimpArgs false

theorem max_run {P : Program} (ts : Array TypeId) (t : TypeId) (a b m : Int) (hm : max a b = m) (w : World) : (Builtin.max_ ts t #[.int .i64 a, .int .i64 b]).run P w = .ok (.int .i64 m) w := by
  subst hm
  by_cases h : a < b
  · have e : max a b = b := by omega
    rw [e]
    simp [Builtin.max_, Builtin.max2, h, go_sem]
  · have e : max a b = a := by omega
    rw [e]
    simp [Builtin.max_, Builtin.max2, h, go_sem]
theorem min_run {P : Program} (ts : Array TypeId) (t : TypeId) (a b m : Int) (hm : min a b = m) (w : World) : (Builtin.min_ ts t #[.int .i64 a, .int .i64 b]).run P w = .ok (.int .i64 m) w := by
  subst hm
  by_cases h : b < a
  · have e : min a b = b := by omega
    rw [e]
    simp [Builtin.min_, Builtin.min2, h, go_sem]
  · have e : min a b = a := by omega
    rw [e]
    simp [Builtin.min_, Builtin.min2, h, go_sem]

theorem wpList_max {P : Program} (w : World) {ops : Array Oper} {rest : List Oper} {o : Oper} {a : Act} {Q : Exit → Act → World → Prop} (hgd : o.guard = none) (s x : Operand) (t tx : TypeId)
    (ho : o.op = .call { callee := .builtin .max, args := #[s, x], argTypes := #[t, tx] }) (p q m : Int) (hv : a.eval s = .int .i64 p) (hx : a.eval x = .int .i64 q) (hm : max p q = m)
    (hK : wpList P ops Q rest (a.put o.dst (.int .i64 m)) w) : wpList P ops Q (o :: rest) a w := by
  refine wpList_plain hgd fun K hK' => ?_
  have hrun := max_run (P := P) #[t, tx] o.type p q m hm w
  unfold Oper.wp
  simp [execOp, ho, resolve, invoke, builtin, hv, hx, hrun, Result.andThen]
  exact hK' _ _ hK
theorem wpList_min {P : Program} (w : World) {ops : Array Oper} {rest : List Oper} {o : Oper} {a : Act} {Q : Exit → Act → World → Prop} (hgd : o.guard = none) (s x : Operand) (t tx : TypeId)
    (ho : o.op = .call { callee := .builtin .min, args := #[s, x], argTypes := #[t, tx] }) (p q m : Int) (hv : a.eval s = .int .i64 p) (hx : a.eval x = .int .i64 q) (hm : min p q = m)
    (hK : wpList P ops Q rest (a.put o.dst (.int .i64 m)) w) : wpList P ops Q (o :: rest) a w := by
  refine wpList_plain hgd fun K hK' => ?_
  have hrun := min_run (P := P) #[t, tx] o.type p q m hm w
  unfold Oper.wp
  simp [execOp, ho, resolve, invoke, builtin, hv, hx, hrun, Result.andThen]
  exact hK' _ _ hK
end Go.Proofs.Ytiahiadipmmgcaa
