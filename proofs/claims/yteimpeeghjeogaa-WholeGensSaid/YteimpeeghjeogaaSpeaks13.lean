/- Layer 13's statements' first call. -/
import Derived.Test.YteimpeeghjeogaaGen2
namespace Go.Proofs.Yteimpeeghjeogaa
set_option maxRecDepth 4000
open Go.ChangeShapes Go.WideShapes Go.ChangeAt Go.RowKit
open PHist PRing PSat PClamp PBound PFrame PSign
set_option linter.unusedVariables false
set_option linter.unusedSimpArgs false

set_option maxHeartbeats 1000000 in
theorem speaks13 (w : World) : Calls Try.prog 8 #[] w fun e w' => e = .returned (.bool true) ∧ Below w.heap.size w w' := by
  have hok : rcheck ⟨0, 3, 0, 0, 0⟩ = 0 := by decide
  have h3 : rcheck ⟨3, 0, 0, 0, 0⟩ = 3 := by decide
  have HO := Lib.hid (gn_of ⟨0, 3, 0, 0, 0⟩ w hok)
  have HC := fun w' => Lib.hid (gn_check ⟨3, 0, 0, 0, 0⟩ w' 3 h3)
  have HS := fun S t g w' h => Lib.hid (gn_slack S t g ⟨0, 3, 0, 0, 0⟩ [] w' h hok (by simp) 3 (by decide) true (by decide))
  have HN := fun S t g w' h => Lib.hid (gn_now S t g ⟨0, 3, 0, 0, 0⟩ [] w' h)
  rw [gnow_never hok] at HN
  simp only [Rul.val] at HO HC
  clear hok h3
  go_enter Try.func8, Try.ntmps8
  go_wp2_with (go_at_call 9; (with_reducible refine HO.out.mono ?_); intro e w1 hof; obtain ⟨t, g, S, rfl, hg1, hS1, hb1⟩ := hof; have hm := hg1.now)
  go_wp2_with (go_at_call 12; (with_reducible refine (HS _ _ _ _ hg1).out.mono ?_); rintro e w2 ⟨rfl, hb2⟩; have hg2 := hg1.on hb2)
  go_wp2_with (first | (go_at_call 58; (with_reducible refine (HN _ _ _ _ hg2).out.mono ?_); rintro e w3 ⟨rfl, rfl⟩) | (go_at_call 11; (with_reducible refine (HC _).out.mono ?_); rintro e w4 ⟨rfl, hb4⟩))
  go_ret
  exact ⟨rfl, on_below (on_below hb1 hb2) hb4⟩
end Go.Proofs.Yteimpeeghjeogaa
