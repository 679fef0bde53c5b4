/- Events, compared. -/
import Derived.Test.YtoecikeleoaecaaGreatKEvV
import Derived.Laws.StructEq
namespace Go.Proofs.YtoecikeleoaecaaGreat
set_option maxRecDepth 4000
open Go.ChangeShapes Go.WideShapes Go.ChangeAt Go.RowKit
open PEv
set_option linter.unusedVariables false
set_option linter.unusedSimpArgs false

theorem eql_held {P : Program} (w : World) {t tx : TypeId} {ms : Array (String × TypeId)} (v u : Value) (b : Bool)
    (ht : P.underlying t = some (.interface ms)) (hc : (P.info? tx).map (·.comparable) = some true) (hx : ∀ d : Nat, (Op.equalIn (d + 10) tx v u).run P w = .ok b w) :
    (binOp .eql t (.iface tx v) (.iface tx u)).run P w = .ok (.bool b) w := by
  cases hi : P.info? tx with
  | none => simp [hi] at hc
  | some i =>
    have hcc : i.comparable = true := by simpa [hi] using hc
    have h : ∀ d : Nat, (Op.equalIn (d + 11) t (.iface tx v) (.iface tx u)).run P w = .ok b w := fun d => by
      rw [show d + 11 = (d + 10) + 1 from rfl, Op.equalIn]
      simp [run_underlying ht, typeInfo, hi, hcc, hx d]
    simp only [binOp]
    simp [Op.equal, Op.maxDepth, h 9989]

set_option maxHeartbeats 1000000 in
theorem eq_mark (n : Int) (w : World) : (binOp .eql 67 (.iface 65 (.agg #[.int .i64 n])) (.iface 65 (.agg #[.int .i64 n]))).run Tryz.prog w = .ok (.bool true) w := by
  refine eql_held w _ _ true Tryz.underlying67 (by kernel_rfl) fun d => ?_
  go_simp
set_option maxHeartbeats 1000000 in
theorem eq_fault (p n : Int) (w : World) : (binOp .eql 67 (.iface 121 (.agg #[.int .i64 p, .int .i64 n])) (.iface 121 (.agg #[.int .i64 p, .int .i64 n]))).run Tryz.prog w = .ok (.bool true) w := by
  refine eql_held w _ _ true Tryz.underlying67 (by kernel_rfl) fun d => ?_
  go_simp
set_option maxHeartbeats 1000000 in
theorem eq_el (p k t : Int) (x : ByteArray) (late : Bool) (w : World) : (binOp .eql 67 (.iface 123 (.agg #[.int .i64 p, .int .i64 k, .int .i64 t, .string x, .bool late])) (.iface 123 (.agg #[.int .i64 p, .int .i64 k, .int .i64 t, .string x, .bool late]))).run Tryz.prog w = .ok (.bool true) w := by
  refine eql_held w _ _ true Tryz.underlying67 (by kernel_rfl) fun d => ?_
  go_simp
end Go.Proofs.YtoecikeleoaecaaGreat
