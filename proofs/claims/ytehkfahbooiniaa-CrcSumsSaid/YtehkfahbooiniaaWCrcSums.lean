/- The walk of the law CrcSums. -/
import Derived.Test.YtehkfahbooiniaaCrcRef2
namespace Go.Proofs.Ytehkfahbooiniaa
open Go.ChangeShapes Go.WideShapes Go.ChangeAt Go.RowKit
open PCrc
set_option linter.unusedVariables false

set_option maxRecDepth 100000 in
set_option maxHeartbeats 1000000 in
theorem walk_CrcSums (w : World) (a0 : ByteArray) (w0 : a0.size ≤ maxLen) :
    Calls Try.prog 3 #[.string a0] w fun e w' => e = .returned (.bool true) ∧ Below w.heap.size w w' := by
  by_cases hbig : 300 < a0.size
  · go_enter Try.func3, Try.ntmps3
    go_wp2_with (go_at_call 6; refine (speaks3 _).mono ?_; rintro e w1 ⟨rfl, hb⟩)
    go_ret
    exact ⟨rfl, hb⟩
  · have hs : a0.size ≤ 300 := by omega
    go_enter Try.func3, Try.ntmps3
    go_wp2_with (first | (go_at_call 6; refine (speaks3 _).mono ?_; rintro e w1 ⟨rfl, hb⟩) | (go_at_call 7; refine (crc_new _).mono ?_; rintro e w2 ⟨g, rfl, hg, ht2, hb2⟩) | (go_at_call 8; refine (crc_seal g a0 _ ht2 (by omega)).mono ?_; rintro e w3 ⟨rfl, hb3⟩; have ht3 := tab_on (B := 0) ht2 hb3) | (go_at_call 9; refine (crc_open_sld g a0 _ ht3 (by omega)).mono ?_; rintro e w4 ⟨rfl, hb4⟩; have ht4 := tab_on (B := 0) ht3 hb4) | (go_at_call 10; refine (crc_sum g a0 _ ht4 w0).mono ?_; rintro e w5 ⟨rfl, n5, rfl⟩) | (go_at_call 11; refine (ref_sum a0 _ (by omega)).mono ?_; rintro e w6 ⟨rfl, hb6⟩) | (go_at_call 12; refine (ref_seal a0 _ (by omega)).mono ?_; rintro e w7 ⟨rfl, hb7⟩))
    go_ret
    exact ⟨rfl, on_below (below_drewN (on_below (on_below (on_below hb hb2) hb3) hb4) n5) (on_below hb6 hb7)⟩
end Go.Proofs.Ytehkfahbooiniaa
