/- The walk of the law SatRises. -/
import Derived.Test.YtodnmaoelagdhaaSat
namespace Go.Proofs.Ytodnmaoelagdhaa
open Go.ChangeShapes Go.WideShapes Go.ChangeAt Go.RowKit

set_option maxHeartbeats 1000000 in
theorem walk_SatRises (w : World) (a0 : Int) (w0 : (Lit.int .i64 a0).wf = true) (a1 : Int) (w1 : (Lit.int .i64 a1).wf = true) (a2 : Int) (w2 : (Lit.int .i64 a2).wf = true) :
    Calls Try.prog 5 #[.int .i64 a0, .int .i64 a1, .int .i64 a2] w fun e w' => e = .returned (.bool true) ∧ Below w.heap.size w w' := by
  have b0 := bounds_i64 w0
  have b1 := bounds_i64 w1
  have b2 := bounds_i64 w2
  clear w0 w1 w2
  by_cases h : a0 ≤ a1
  · have m1 := PSat.add_mono a2 h
    have m2 := PSat.sub_mono a2 h
    have m3 := PSat.sub_anti a2 h
    by_cases h' : a0 < a1
    · have hd : decide (PSat.sub a2 a1 ≤ PSat.sub a2 a0) = true := by simpa using m3
      go_enter Try.func5, Try.ntmps5
      go_wp2_with (first | (go_at_call 9; refine (speaks1 _).mono ?_; rintro e w' ⟨rfl, rfl⟩) | (go_at_call 10; refine (sat_add _ _ _ (by omega) (by omega)).mono ?_; rintro e w' ⟨rfl, rfl⟩) | (go_at_call 12; refine (sat_sub _ _ _ (by omega) (by omega)).mono ?_; rintro e w' ⟨rfl, rfl⟩))
      all_goals go_ret
      all_goals exact ⟨ret_true rfl, Below.refl _ _⟩
    · obtain rfl : a0 = a1 := by omega
      go_enter Try.func5, Try.ntmps5
      go_wp2_with (first | (go_at_call 9; refine (speaks1 _).mono ?_; rintro e w' ⟨rfl, rfl⟩) | (go_at_call 10; refine (sat_add _ _ _ (by omega) (by omega)).mono ?_; rintro e w' ⟨rfl, rfl⟩) | (go_at_call 12; refine (sat_sub _ _ _ (by omega) (by omega)).mono ?_; rintro e w' ⟨rfl, rfl⟩))
      all_goals go_ret
      all_goals exact ⟨ret_true rfl, Below.refl _ _⟩
  · have h' : a1 ≤ a0 := by omega
    have m1 := PSat.add_mono a2 h'
    have m2 := PSat.sub_mono a2 h'
    have m3 := PSat.sub_anti a2 h'
    have hd : decide (PSat.sub a2 a0 ≤ PSat.sub a2 a1) = true := by simpa using m3
    have h'' : a1 < a0 := by omega
    go_enter Try.func5, Try.ntmps5
    go_wp2_with (first | (go_at_call 9; refine (speaks1 _).mono ?_; rintro e w' ⟨rfl, rfl⟩) | (go_at_call 10; refine (sat_add _ _ _ (by omega) (by omega)).mono ?_; rintro e w' ⟨rfl, rfl⟩) | (go_at_call 12; refine (sat_sub _ _ _ (by omega) (by omega)).mono ?_; rintro e w' ⟨rfl, rfl⟩))
    all_goals go_ret
    all_goals exact ⟨ret_true rfl, Below.refl _ _⟩
end Go.Proofs.Ytodnmaoelagdhaa
