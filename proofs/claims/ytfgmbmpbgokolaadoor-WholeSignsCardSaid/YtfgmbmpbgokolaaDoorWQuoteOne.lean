/- The walk of the law QuoteOne. -/
import Derived.Test.YtfgmbmpbgokolaaDoorQSpeaks
namespace Go.Proofs.YtfgmbmpbgokolaaDoor
open Go.ChangeShapes Go.WideShapes Go.ChangeAt Go.RowKit
open PSign PHex PQuote
set_option linter.unusedVariables false

theorem bstr_of (a : ByteArray) : bstr a.data.toList = a := by
  apply ByteArray.ext
  apply Array.ext'
  rfl

set_option maxRecDepth 100000 in
set_option maxHeartbeats 1000000 in
theorem walk_QuoteOne (w : World) (he : Env w) (a0 : ByteArray) (w0 : a0.size ≤ maxLen) :
    Calls Tryd.prog 5 #[.string a0] w fun e w' => e = .returned (.bool true) ∧ Below w.heap.size w w' := by
  have H4 := Lib.hid (speaks4 w he)
  by_cases hbig : 500 < a0.size
  · go_enter Tryd.func5, Tryd.ntmps5
    go_wp2_with (first | (go_at_call 7; refine H4.out.mono ?_; rintro e w1 ⟨rfl, hb1⟩))
    go_ret
    exact ⟨rfl, hb1⟩
  · have HU : Hid (∀ w, Env w → Calls Tryd.prog 14 #[.string a0] w (UnqPost a0 w)) := fun w he => unq_any a0 w he (by omega)
    go_enter Tryd.func5, Tryd.ntmps5
    go_wp2_with (first | (go_at_call 7; refine H4.out.mono ?_; rintro e w1 ⟨rfl, hb1⟩; have he1 := he.on hb1) | (go_at_call 14; refine (HU.out _ he1).mono ?_))
    rintro e w2 ⟨l, b, rfl, hll, ht, hf, hb2⟩
    have hb3 := on_below hb1 hb2
    cases b with
    | false =>
      obtain rfl := hf rfl
      clear ht hf hll
      have hz : (bstr [] == (⟨#[]⟩ : ByteArray)) = true := by decide
      go_wp2
      go_ret
      exact ⟨ret_bool hz, hb3⟩
    | true =>
      have hq : bstr (quote (bstr l).data.toList) = a0 := by rw [bstr_list, ht rfl, bstr_of]
      have HR : Hid (∀ w, Calls Tryd.prog 15 #[.string (bstr l)] w fun e w' => e = .returned (.string a0) ∧ Below w.heap.size w w') := by
        intro w
        have h := ref_quote (bstr l) w (by rw [bstr_len]; omega)
        rw [hq] at h
        exact h
      clear ht hf hll hq
      generalize bstr l = s at *
      go_wp2_with (first | (go_at_call 15; refine (HR.out _).mono ?_; rintro e w3 ⟨rfl, hb4⟩))
      go_ret
      exact ⟨rfl, on_below hb3 hb4⟩
end Go.Proofs.YtfgmbmpbgokolaaDoor
