/- Layer 10's statements' first call. -/
import Derived.Test.YtlinkbflampanaaBound
namespace Go.Proofs.Ytlinkbflampanaa
open Go.ChangeShapes Go.WideShapes Go.ChangeAt Go.RowKit
open PSat PClamp PBound
set_option linter.unusedVariables false
set_option linter.unusedSimpArgs false

theorem never_is (b : Int) (hb : 0 ≤ b) : (-9223372036854775808 : Int) = after (-9223372036854775808) b := (after_never hb).symm
theorem ClampC.gen (w : World) (b : Int) (hb : 0 ≤ b) (e : TypeId) : ClampC (w.alloc (.cells #[.int .i64 0, .bool false, .int .i64 b] e)) w.heap.size (after (-9223372036854775808) b) [.int .i64 b] := by
  rw [after_never hb]
  exact ClampC.made w [.int .i64 b] e

set_option maxHeartbeats 1000000 in
theorem speaks10 (w : World) : Calls Try.prog 13 #[] w fun e w' => e = .returned (.bool true) ∧ Below w.heap.size w w' := by
  have hc0 := ClampC.gen w 3 (by omega) 37
  have e0 : after (-9223372036854775808) 3 = -9223372036854775808 := by simp [after, sub, clampI]
  have e1 : after 10 3 = 6 := by simp [after, sub, clampI]
  have b0 : Below w.heap.size w (w.alloc (.cells #[.int .i64 0, .bool false, .int .i64 3] 37)) := (Below.refl _ _).alloc (Nat.le_refl _) _
  have HN := cl_now w.heap.size _ _ _ hc0
  rw [e0] at HN
  have HN := Lib.hid HN
  have HS1 := Lib.hid (bo_seen w.heap.size (-9223372036854775808) 3 0 10 ⟨#[]⟩ _ hc0 (by omega) (by omega) 10 (by simp))
  have HS2 := fun w' (h : ClampC w' w.heap.size (after 10 3) [.int .i64 3]) => Lib.hid (bo_seen w.heap.size 10 3 0 8 ⟨#[]⟩ w' h (by omega) (by omega) 10 (by simp))
  have HN2 := fun w' (h : ClampC w' w.heap.size (after 10 3) [.int .i64 3]) => cl_now w.heap.size _ _ w' h
  have HB := fun w' (h : ClampC w' w.heap.size (after 10 3) [.int .i64 3]) => bo_bound w.heap.size _ _ w' h
  have HA := fun w' => bo_after 10 3 w' (by omega) (by omega)
  simp only [e1] at HN2 HA
  go_enter Try.func13, Try.ntmps13
  go_wp2_with (go_at_call 14; refine (bo_new 3 w).mono ?_; rintro e w1 ⟨rfl, rfl⟩)
  go_wp2_with (go_at_call 10; refine HN.out.mono ?_; rintro e w1 ⟨rfl, rfl⟩)
  go_wp2_with (go_at_call 15; (with_reducible refine HS1.out.mono ?_); rintro e w2 ⟨rfl, hc2, hu2⟩; have b2 := b0.upd hu2 b0.size (fun i _ h => by omega))
  go_wp2_with (go_at_call 15; (with_reducible refine (HS2 _ hc2).out.mono ?_); rintro e w3 ⟨rfl, hc3, hu3⟩; have b3 := b2.upd hu3 b2.size (fun i _ h => by omega))
  go_wp2_with (first | (go_at_call 10; refine (HN2 _ hc3).mono ?_; rintro e w4 ⟨rfl, rfl⟩) | (go_at_call 17; refine (HB _ hc3).mono ?_; rintro e w4 ⟨rfl, rfl⟩) | (go_at_call 20; refine (HA _).mono ?_; rintro e w4 ⟨rfl, rfl⟩))
  go_ret
  exact ⟨rfl, b3⟩
end Go.Proofs.Ytlinkbflampanaa
