/- Layer 9's statements' first call. -/
import Derived.Test.YtlinkbflampanaaClamp
namespace Go.Proofs.Ytlinkbflampanaa
open Go.ChangeShapes Go.WideShapes Go.ChangeAt Go.RowKit
open PClamp
set_option linter.unusedVariables false
set_option linter.unusedSimpArgs false

set_option maxHeartbeats 1000000 in
theorem speaks9 (w : World) : Calls Try.prog 8 #[] w fun e w' => e = .returned (.bool true) ∧ Below w.heap.size w w' := by
  have hc0 := ClampC.made w [] 25
  have b0 : Below w.heap.size w (w.alloc (.cells #[.int .i64 0, .bool false] 25)) := (Below.refl _ _).alloc (Nat.le_refl _) _
  have HA : ∀ w' : World, Calls Try.prog 12 #[.slice (some ⟨w'.heap.size, 0, none⟩) 4 4] (w'.alloc (.cells #[.int .i64 3, .int .i64 1, .int .i64 3, .int .i64 5] 3)) (AllPost [3, 5] (w'.alloc (.cells #[.int .i64 3, .int .i64 1, .int .i64 3, .int .i64 5] 3))) := fun w' : World =>
    cl_all _ 4 4 [3, 1, 3, 5] _ rfl (rowi_made w' [3, 1, 3, 5] 3 (by unfold maxLen; simp) (by simp)) (by simp) [3, 5] (by simp [rise])
  go_enter Try.func8, Try.ntmps8
  go_wp2_with (go_at_call 10; refine (cl_now _ _ _ _ hc0).mono ?_; rintro e w1 ⟨rfl, rfl⟩)
  go_wp2_with (go_at_call 9; (with_reducible refine (cl_stay _ _ (-9223372036854775808) _ _ hc0 (by omega)).mono ?_); rintro e w1 ⟨rfl, rfl⟩)
  go_wp2_with (go_at_call 9; (with_reducible refine (cl_up _ _ (-5) _ _ hc0 (by omega)).mono ?_); rintro e w1 ⟨rfl, hc1, hu1⟩; have b1 := b0.upd hu1 b0.size (fun i _ h => by omega))
  go_wp2_with (go_at_call 9; (with_reducible refine (cl_stay _ _ (-5) _ _ hc1 (by omega)).mono ?_); rintro e w2 ⟨rfl, rfl⟩)
  go_wp2_with (go_at_call 10; (with_reducible refine (cl_now _ _ _ _ hc1).mono ?_); rintro e w2 ⟨rfl, rfl⟩)
  go_wp2_with (go_at_call 12; refine (HA _).mono ?_; intro e w3 h3; obtain ⟨a3, c3, rfl, hr3, hb3⟩ := h3)
  go_ret
  exact ⟨rfl, (b1.alloc b1.size _).trans (hb3.mono (by have := b1.size; simp; omega))⟩
end Go.Proofs.Ytlinkbflampanaa
