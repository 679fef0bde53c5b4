/- The walk of the law ChoiceReads. -/
import Derived.Test.YtfgfjofbghfdpaaDoorSpeaks20
namespace Go.Proofs.YtfgfjofbghfdpaaDoor
set_option maxRecDepth 4000
open Go.ChangeShapes Go.WideShapes Go.ChangeAt Go.RowKit
open PWord
set_option linter.unusedVariables false
set_option linter.unusedSimpArgs false

set_option maxRecDepth 100000 in
set_option maxHeartbeats 2000000 in
theorem walk_ChoiceReads (w : World) (he : EnvW w) (a0 : ByteArray) (w0 : a0.size ≤ maxLen) :
    Calls Tryd.prog 8 #[.string a0] w fun e w' => e = .returned (.bool true) ∧ Below w.heap.size w w' := by
  have HSP := Lib.hid (speaks20 w he)
  by_cases hs : a0.size ≤ 200
  · have hs' : ¬ (200 : Int) < a0.size := by omega
    have HR := Lib.hid (fun w he => ch_read a0 w he (by omega))
    cases hr : PWord.read a0.data.toList with
    | none =>
      rw [hr] at HR
      have HR : Hid (∀ w, EnvW w → Calls Tryd.prog 27 #[.string a0] w fun e w' => e = .returned (.tuple #[.agg #[.bool false, .int .i64 0], .bool false]) ∧ Below w.heap.size w w') := HR
      clear hr hs
      go_enter Tryd.func8, Tryd.ntmps8
      go_wp2_with (first | (go_at_call 25; refine HSP.out.mono ?_; rintro e w1 ⟨rfl, hb1⟩; have he1 := he.on hb1) | (go_at_call 27; (with_reducible refine (HR.out _ he1).mono ?_); rintro e w2 ⟨rfl, hb2⟩))
      go_ret
      exact ⟨rfl, (on_below hb1 hb2).alloc (by have := hb1.size; have := hb2.size; omega) _⟩
    | some x =>
      obtain ⟨t, n⟩ := x
      obtain ⟨e0, hn⟩ := read_some hr
      obtain rfl : a0 = bstr (cline t n) := by rw [← e0]
      rw [hr] at HR
      have HR : Hid (∀ w, EnvW w → Calls Tryd.prog 27 #[.string (bstr (cline t n))] w fun e w' => e = .returned (.tuple #[.agg #[.bool t, .int .i64 n], .bool true]) ∧ Below w.heap.size w w') := HR
      have HL := Lib.hid (fun w => ref_line20 t n hn w)
      clear hr hs e0 w0
      generalize bstr (cline t n) = s at *
      go_enter Tryd.func8, Tryd.ntmps8
      go_wp2_with (first | (go_at_call 25; refine HSP.out.mono ?_; rintro e w1 ⟨rfl, hb1⟩; have he1 := he.on hb1) | (go_at_call 27; (with_reducible refine (HR.out _ he1).mono ?_); rintro e w2 ⟨rfl, hb2⟩) | (go_at_call 28; (with_reducible refine (HL.out _).mono ?_); rintro e w3 ⟨rfl, hb3⟩))
      go_ret
      exact ⟨by simp, on_below ((on_below hb1 hb2).alloc (by have := hb1.size; have := hb2.size; omega) _) hb3⟩
  · have hs' : (200 : Int) < a0.size := by omega
    go_enter Tryd.func8, Tryd.ntmps8
    go_wp2_with (first | (go_at_call 25; refine HSP.out.mono ?_; rintro e w1 ⟨rfl, hb1⟩))
    go_ret
    exact ⟨rfl, hb1⟩
end Go.Proofs.YtfgfjofbghfdpaaDoor
