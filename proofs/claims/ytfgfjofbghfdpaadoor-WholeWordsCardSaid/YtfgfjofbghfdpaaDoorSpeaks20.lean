/- The first call of layer 20's statements. -/
import Derived.Test.YtfgfjofbghfdpaaDoorChoice2
namespace Go.Proofs.YtfgfjofbghfdpaaDoor
set_option maxRecDepth 4000
open Go.ChangeShapes Go.WideShapes Go.ChangeAt Go.RowKit
open PWord
open Go.Lib (itoa)
set_option linter.unusedVariables false
set_option linter.unusedSimpArgs false

theorem itoa_5 : itoa 5 = [53] := by
  have h := Go.Lib.itoa_nonneg 5
  rw [Go.Lib.decDigits_one (by omega)] at h
  exact h
theorem itoa_m1 : itoa (-1) = [45, 49] := by
  have h := Go.Lib.itoa_neg 1 (by omega)
  rw [Go.Lib.decDigits_one (by omega)] at h
  exact h

set_option maxRecDepth 100000 in
set_option maxHeartbeats 2000000 in
theorem speaks20 (w : World) (he : EnvW w) : Calls Tryd.prog 25 #[] w fun e w' => e = .returned (.bool true) ∧ Below w.heap.size w w' := by
  have hr : PWord.read (⟨#[116, 105, 99, 107, 32, 53]⟩ : ByteArray).data.toList = some (true, 5) := by
    have h := read_cline true 5 ⟨by omega, by omega⟩
    rw [show cline true 5 = [116, 105, 99, 107, 32, 53] by unfold cline; rw [itoa_5]; rfl] at h
    exact h
  have hR := ch_read ⟨#[116, 105, 99, 107, 32, 53]⟩ w he (by decide)
  rw [hr] at hR
  have HR : Hid (Calls Tryd.prog 27 #[.string ⟨#[116, 105, 99, 107, 32, 53]⟩] w fun e w' => e = .returned (.tuple #[.agg #[.bool true, .int .i64 5], .bool true]) ∧ Below w.heap.size w w') := hR
  have HP := Lib.hid (fun w => ch_poll (-1) w)
  have HL : Hid (∀ w, EnvW w → Calls Tryd.prog 26 #[.agg #[.bool false, .int .i64 (-1)]] w fun e w' => e = .returned (.string ⟨#[112, 111, 108, 108, 32, 45, 49]⟩) ∧ Below w.heap.size w w') := Lib.hid (fun w he => by
    have h := ch_line false (-1) ⟨by omega, by omega⟩ w he
    rw [show cline false (-1) = [112, 111, 108, 108, 32, 45, 49] by unfold cline; rw [itoa_m1]; rfl] at h
    exact h)
  have HRO : Hid (∀ w, Calls Tryd.prog 33 #[.int .i64 2, .int .i64 3] w (RoundPost 2 6 w)) := Lib.hid (fun w => ch_round 2 3 (by omega) (by omega) (by omega) (by omega) w)
  clear hr hR
  go_enter Tryd.func25, Tryd.ntmps25
  go_wp2_with (first | (go_at_call 27; refine HR.out.mono ?_; rintro e w1 ⟨rfl, hb1⟩; have he2 := (he.on hb1).on ((Below.refl _ _).alloc (Nat.le_refl _) (.cells #[.bool true, .int .i64 5] 50))) | (go_at_call 31; (with_reducible refine (HP.out _).mono ?_); rintro e w3 ⟨rfl, hb3⟩; have he3 := he2.on hb3) | (go_at_call 26; (with_reducible refine (HL.out _ he3).mono ?_); rintro e w4 ⟨rfl, hb4⟩) | (go_at_call 33; (with_reducible refine (HRO.out _).mono ?_); rintro e w5 ⟨v5, rfl, hs5, hb5⟩; obtain ⟨a5, c5, rfl⟩ := hs5.shape))
  go_ret
  exact ⟨rfl, on_below (on_below (on_below ((on_below (Below.refl _ _) hb1).alloc (by have := hb1.size; omega) _) hb3) hb4) hb5⟩
end Go.Proofs.YtfgfjofbghfdpaaDoor
