/- Layer 11's statements' first call. -/
import Derived.Test.YthpnkjnieljdiaaPunct
namespace Go.Proofs.Ythpnkjnieljdiaa
open Go.ChangeShapes Go.WideShapes Go.ChangeAt Go.RowKit
open PSign PClamp
set_option linter.unusedVariables false
set_option linter.unusedSimpArgs false

set_option maxRecDepth 100000 in
theorem says_a : says 1 ⟨#[97]⟩ 33 = false := by
  unfold says hasn
  rw [signs_cons _ (by simp)]
  simp [signs_nil, sg, stp, first, byt]
set_option maxRecDepth 100000 in
theorem says_b : says 1 ⟨#[98, 33]⟩ 33 = true := by
  unfold says hasn
  rw [signs_cons _ (by simp)]
  simp [stp, first, byt]
  rw [signs_cons _ (by simp)]
  simp [sg, stp, first, byt]
theorem says_p : says 2 ⟨#[]⟩ 0 = true := by simp [says]

set_option maxHeartbeats 1000000 in
theorem speaks11 (w : World) : Calls Try.prog 8 #[] w fun e w' => e = .returned (.bool true) ∧ Below w.heap.size w w' := by
  have hc0 := ClampC.made w [.int .i64 33] 35
  have b0 : Below w.heap.size w (w.alloc (.cells #[.int .i64 0, .bool false, .int .i64 33] 35)) := (Below.refl _ _).alloc (Nat.le_refl _) _
  have HN := Lib.hid (cl_now w.heap.size _ _ _ hc0)
  have HS1 := Lib.hid (pu_seen w.heap.size (-9223372036854775808) 33 1 9 ⟨#[97]⟩ _ hc0 (by omega) false says_a (-9223372036854775808) (by simp [rz]))
  have HS2 := fun w' (h : ClampC w' w.heap.size (-9223372036854775808) [.int .i64 33]) => Lib.hid (pu_seen w.heap.size (-9223372036854775808) 33 1 4 ⟨#[98, 33]⟩ w' h (by omega) true says_b 4 (by simp [rz]))
  have HN2 := fun w' (h : ClampC w' w.heap.size 4 [.int .i64 33]) => cl_now w.heap.size _ _ w' h
  have HG := fun w' (h : ClampC w' w.heap.size 4 [.int .i64 33]) => pu_sign w.heap.size _ _ w' h
  have HP := fun w' => pu_says 2 0 ⟨#[]⟩ 0 w' (by omega) true says_p
  go_enter Try.func8, Try.ntmps8
  go_wp2_with (go_at_call 9; refine (pu_new 33 w).mono ?_; rintro e w1 ⟨rfl, rfl⟩)
  go_wp2_with (go_at_call 13; refine HN.out.mono ?_; rintro e w1 ⟨rfl, rfl⟩)
  go_wp2_with (go_at_call 12; (with_reducible refine HS1.out.mono ?_); rintro e w2 ⟨rfl, hc2, hu2⟩; have b2 := b0.upd hu2 b0.size (fun i _ h => by omega))
  go_wp2_with (go_at_call 12; (with_reducible refine (HS2 _ hc2).out.mono ?_); rintro e w3 ⟨rfl, hc3, hu3⟩; have b3 := b2.upd hu3 b2.size (fun i _ h => by omega))
  go_wp2_with (first | (go_at_call 13; refine (HN2 _ hc3).mono ?_; rintro e w4 ⟨rfl, rfl⟩) | (go_at_call 14; refine (HG _ hc3).mono ?_; rintro e w4 ⟨rfl, rfl⟩) | (go_at_call 11; refine (HP _).mono ?_; rintro e w4 ⟨rfl, b4⟩))
  go_ret
  exact ⟨rfl, on_below b3 b4⟩
end Go.Proofs.Ythpnkjnieljdiaa
