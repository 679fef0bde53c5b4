/- The walk of the law CrcOpens. -/
import Derived.Test.YtehkfahbooiniaaCrcRef2
namespace Go.Proofs.Ytehkfahbooiniaa
open Go.ChangeShapes Go.WideShapes Go.ChangeAt Go.RowKit
open PCrc
set_option linter.unusedVariables false

set_option maxRecDepth 100000 in
set_option maxHeartbeats 1000000 in
theorem walk_CrcOpens (w : World) (a0 : ByteArray) (w0 : a0.size ≤ maxLen) :
    Calls Try.prog 4 #[.string a0] w fun e w' => e = .returned (.bool true) ∧ Below w.heap.size w w' := by
  have hsl : a0.data.toList.length = a0.size := by simp
  by_cases hbig : 300 < a0.size
  · go_enter Try.func4, Try.ntmps4
    go_wp2_with (go_at_call 6; refine (speaks3 _).mono ?_; rintro e w1 ⟨rfl, hb⟩)
    go_ret
    exact ⟨rfl, hb⟩
  · by_cases h4 : a0.size < 4
    · have ho : opn a0.data.toList = false := by unfold opn; simp; omega
      have hod : opened a0.data.toList = [] := by unfold opened; rw [ho]; rfl
      have hop := fun g w h => crc_open g a0 w h (by omega)
      rw [ho, hod] at hop
      have HOP := Lib.hid hop
      clear hop ho hod
      go_enter Try.func4, Try.ntmps4
      go_wp2_with (first | (go_at_call 6; refine (speaks3 _).mono ?_; rintro e w1 ⟨rfl, hb⟩) | (go_at_call 7; refine (crc_new _).mono ?_; rintro e w2 ⟨g, rfl, hg, ht2, hb2⟩) | (go_at_call 9; refine (HOP.out g _ ht2).mono ?_; rintro e w3 ⟨rfl, hb3⟩))
      go_ret
      exact ⟨rfl, on_below (on_below hb hb2) hb3⟩
    · obtain ⟨m, hm⟩ : ∃ m, a0.size = m + 4 := ⟨a0.size - 4, by omega⟩
      have hcm : (a0.size : Int) - 4 = (m : Int) := by omega
      have hms : m ≤ a0.size := by omega
      have hlm : a0.data.toList.length - 4 = m := by omega
      have href := fun w => ref_seal (a0.extract 0 m) w (by simp; omega)
      rw [ext_take] at href
      have HREF := Lib.hid href
      have hi := opn_iff a0.data.toList (by omega)
      rw [hlm] at hi
      have hop := fun g w h => crc_open g a0 w h (by omega)
      unfold opened at hop
      rw [hlm] at hop
      have hex : a0.extract 0 m = bstr (a0.data.toList.take m) := by rw [ext_bstr a0 0 m, ext_take]
      clear href hlm hm h4
      by_cases ho : opn a0.data.toList = true
      · rw [ho, if_pos rfl] at hop
        have hs2 : bstr (sld (a0.data.toList.take m)) = a0 := by rw [hi.1 ho]
        rw [hs2] at HREF
        rw [← hex] at hop
        have HOP := Lib.hid hop
        clear hop ho hi hex hs2
        go_enter Try.func4, Try.ntmps4
        go_wp2_with (first | (go_at_call 6; refine (speaks3 _).mono ?_; rintro e w1 ⟨rfl, hb⟩) | (go_at_call 7; refine (crc_new _).mono ?_; rintro e w2 ⟨g, rfl, hg, ht2, hb2⟩) | (go_at_call 9; refine (HOP.out g _ ht2).mono ?_; rintro e w3 ⟨rfl, hb3⟩) | (go_at_call 12; refine (HREF.out _).mono ?_; rintro e w4 ⟨rfl, hb4⟩))
        go_ret
        exact ⟨rfl, on_below (on_below (on_below hb hb2) hb3) hb4⟩
      · rw [Bool.not_eq_true] at ho
        have hne : sld (a0.data.toList.take m) ≠ a0.data.toList := fun h => by rw [hi.2 h] at ho; cases ho
        rw [ho, if_neg (by decide)] at hop
        have hq : (sld (a0.data.toList.take m) == a0.toList) = false := by rw [Lib.toList_data]; simpa using hne
        have hqq : (!(sld (a0.data.toList.take m) == a0.toList)) = true := by rw [hq]; rfl
        have HOP := Lib.hid hop
        clear hop ho hi hex hne
        go_enter Try.func4, Try.ntmps4
        go_wp2_with (first | (go_at_call 6; refine (speaks3 _).mono ?_; rintro e w1 ⟨rfl, hb⟩) | (go_at_call 7; refine (crc_new _).mono ?_; rintro e w2 ⟨g, rfl, hg, ht2, hb2⟩) | (go_at_call 9; refine (HOP.out g _ ht2).mono ?_; rintro e w3 ⟨rfl, hb3⟩) | (go_at_call 12; refine (HREF.out _).mono ?_; rintro e w4 ⟨rfl, hb4⟩))
        go_ret
        exact ⟨rfl, on_below (on_below (on_below hb hb2) hb3) hb4⟩
end Go.Proofs.Ytehkfahbooiniaa
