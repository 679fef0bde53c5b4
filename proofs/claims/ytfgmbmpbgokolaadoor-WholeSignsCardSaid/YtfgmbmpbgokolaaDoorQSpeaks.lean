/- The fixed texts of the statements on texts in marks. -/
import Derived.Test.YtfgmbmpbgokolaaDoorQHas
import Derived.Test.YtfgmbmpbgokolaaDoorQUn4
namespace Go.Proofs.YtfgmbmpbgokolaaDoor
open Go.ChangeShapes Go.WideShapes Go.ChangeAt Go.RowKit
open PSign PHex PQuote
set_option linter.unusedVariables false

theorem signs_line : signs [97, 10, 255] = [97, 10, -256] := by
  rw [signs_cons _ (by simp), show sg [97, 10, 255] = 97 by decide, show stp [97, 10, 255] = 1 by decide]
  show 97 :: signs [10, 255] = _
  rw [signs_cons _ (by simp), show sg [10, 255] = 10 by decide, show stp [10, 255] = 1 by decide]
  show 97 :: 10 :: signs [255] = _
  rw [signs_cons _ (by simp), show sg [255] = -256 by decide, show stp [255] = 1 by decide]
  show 97 :: 10 :: -256 :: signs [] = _
  rw [signs_nil]
theorem quote_line : quote [97, 10, 255] = [34, 97, 92, 117, 123, 97, 125, 92, 120, 102, 102, 34] := by
  unfold quote
  rw [signs_line]
  have h1 : told 97 = [97] := by decide
  have h2 : told 10 = [92, 117, 123, 97, 125] := by
    unfold told
    rw [if_neg (by omega), if_pos (by omega), show (10 : Int).toNat = 10 from rfl, hex_low (by omega)]
    decide
  have h3 : told (-256) = [92, 120, 102, 102] := by
    unfold told
    rw [if_pos (by omega), show (-1 - (-256) : Int).toNat = 255 from rfl, hex_high (by omega), hex_low (by omega)]
    decide
  unfold toldAll
  simp only [List.flatMap_cons, List.flatMap_nil, h1, h2, h3]
  rfl
theorem has_two : hasn (signs [195, 164, 98]) 228 = true := by
  rw [signs_cons _ (by simp), show sg [195, 164, 98] = 228 by decide, show stp [195, 164, 98] = 2 by decide]
  unfold hasn
  simp
theorem has_stray : hasn (signs [228]) 228 = false := by
  rw [signs_cons _ (by simp), show sg [228] = -229 by decide, show stp [228] = 1 by decide]
  show hasn (-229 :: signs []) 228 = _
  rw [signs_nil]
  decide

theorem unq_line (w : World) (he : Env w) : Calls Tryd.prog 14 #[.string ⟨#[34, 97, 92, 117, 123, 97, 125, 92, 120, 102, 102, 34]⟩] w fun e w' => e = .returned (.tuple #[.string ⟨#[97, 10, 255]⟩, .bool true]) ∧ Below w.heap.size w w' := by
  have h1 := unq_ok [97, 10, 255] w he (by simp)
  rw [quote_line] at h1
  exact h1
theorem quo_line (w : World) (he : Env w) : Calls Tryd.prog 13 #[.string ⟨#[97, 10, 255]⟩] w fun e w' => e = .returned (.string ⟨#[34, 97, 92, 117, 123, 97, 125, 92, 120, 102, 102, 34]⟩) ∧ Below w.heap.size w w' := by
  have h := q_quote ⟨#[97, 10, 255]⟩ w (by simp [ByteArray.size]) he
  rw [show (ByteArray.mk #[97, 10, 255]).data.toList = [97, 10, 255] from rfl, quote_line] at h
  exact h
theorem has_line (w : World) : Calls Tryd.prog 11 #[.string ⟨#[195, 164, 98]⟩, .int .i64 228] w fun e w' => e = .returned (.bool true) ∧ Below w.heap.size w w' := by
  have h := q_has ⟨#[195, 164, 98]⟩ 228 w (by omega) (by omega)
  rw [show (ByteArray.mk #[195, 164, 98]).data.toList = [195, 164, 98] from rfl, has_two] at h
  exact h
theorem has_line2 (w : World) : Calls Tryd.prog 11 #[.string ⟨#[228]⟩, .int .i64 228] w fun e w' => e = .returned (.bool false) ∧ Below w.heap.size w w' := by
  have h := q_has ⟨#[228]⟩ 228 w (by omega) (by omega)
  rw [show (ByteArray.mk #[228]).data.toList = [228] from rfl, has_stray] at h
  exact h

set_option maxRecDepth 100000 in
set_option maxHeartbeats 1000000 in
theorem speaks4 (w : World) (he : Env w) : Calls Tryd.prog 7 #[] w fun e w' => e = .returned (.bool true) ∧ Below w.heap.size w w' := by
  have H1 := Lib.hid (unq_line w he)
  have H2 := Lib.hid quo_line
  have H3 := Lib.hid has_line
  have H4 := Lib.hid has_line2
  go_enter Tryd.func7, Tryd.ntmps7
  go_wp2_with (first | (go_at_call 14; refine H1.out.mono ?_; rintro e w1 ⟨rfl, hb1⟩; have he1 := he.on hb1) | (go_at_call 13; refine (H2.out _ he1).mono ?_; rintro e w2 ⟨rfl, hb2⟩))
  refine (H3.out _).mono ?_
  rintro e w3 ⟨rfl, hb3⟩
  go_wp2_with (first | (go_at_call 11; refine (H4.out _).mono ?_; rintro e w4 ⟨rfl, hb4⟩))
  go_ret
  exact ⟨rfl, ((hb1.trans (hb2.mono hb1.size)).trans (hb3.mono (Nat.le_trans hb1.size hb2.size))).trans (hb4.mono (Nat.le_trans (Nat.le_trans hb1.size hb2.size) hb3.size))⟩
end Go.Proofs.YtfgmbmpbgokolaaDoor
