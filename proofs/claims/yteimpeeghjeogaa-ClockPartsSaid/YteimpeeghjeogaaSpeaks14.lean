/- Layer 14's statements' first call. -/
import Derived.Test.YteimpeeghjeogaaClock
namespace Go.Proofs.Yteimpeeghjeogaa
set_option maxRecDepth 4000
open Go.ChangeShapes Go.WideShapes Go.ChangeAt Go.RowKit
open PSat
set_option linter.unusedVariables false
set_option linter.unusedSimpArgs false

set_option maxHeartbeats 1000000 in
theorem speaks14 (w : World) : Calls Try.prog 15 #[] w fun e w' => e = .returned (.bool true) ∧ Below w.heap.size w w' := by
  have hc0 := ClockC.made w 45
  have b0 : Below w.heap.size w (w.alloc (.cells #[.int .i64 0] 45)) := (Below.refl _ _).alloc (Nat.le_refl _) _
  have e1 : add 0 5 = 5 := by simp [add, clampI]
  have e2 : add 5 (max 9223372036854775807 0) = 9223372036854775807 := by decide +kernel
  have HG1 := Lib.hid (ck_go w.heap.size 0 5 _ hc0 (by omega) (by omega) (by omega))
  have HG2 := fun w' (h : ClockC w' w.heap.size 5) => Lib.hid (ck_none w.heap.size 5 (-1) w' h (by omega))
  have HN := fun w' (h : ClockC w' w.heap.size 5) => Lib.hid (ck_now w.heap.size 5 w' h)
  have HU := fun w' (h : ClockC w' w.heap.size 5) => Lib.hid (ck_until w.heap.size 5 9223372036854775807 w' h (by omega) (by omega))
  have HP := fun w' (h : ClockC w' w.heap.size 5) => Lib.hid (ck_past w.heap.size 5 5 w' h)
  have HP6 := fun w' (h : ClockC w' w.heap.size 5) => Lib.hid (ck_past w.heap.size 5 6 w' h)
  rw [e1] at HG1
  rw [e2] at HU
  go_enter Try.func15, Try.ntmps15
  go_wp2_with (go_at_call 16; (with_reducible refine HG1.out.mono ?_); rintro e w2 ⟨rfl, hc2, hu2⟩; have b2 := b0.upd hu2 b0.size (fun i _ h => by omega))
  go_wp2_with (go_at_call 16; (with_reducible refine (HG2 _ hc2).out.mono ?_); rintro e w3 ⟨rfl, rfl⟩)
  go_wp2_with (first | (go_at_call 18; refine (HN _ hc2).out.mono ?_; rintro e w3 ⟨rfl, rfl⟩) | (go_at_call 19; refine (HU _ hc2).out.mono ?_; rintro e w3 ⟨rfl, rfl⟩) | (go_at_call 20; (with_reducible refine (HP _ hc2).out.mono ?_); rintro e w3 ⟨rfl, rfl⟩) | (go_at_call 20; (with_reducible refine (HP6 _ hc2).out.mono ?_); rintro e w3 ⟨rfl, rfl⟩))
  go_ret
  exact ⟨rfl, b2⟩
end Go.Proofs.Yteimpeeghjeogaa
