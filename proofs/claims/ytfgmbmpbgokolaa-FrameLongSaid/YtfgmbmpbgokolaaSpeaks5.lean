/- frame: the laws' own first question. -/
import Derived.Test.YtfgmbmpbgokolaaFrame2
namespace Go.Proofs.Ytfgmbmpbgokolaa
open Go.ChangeShapes Go.WideShapes Go.ChangeAt Go.RowKit
open PVar PCrc PFrame
set_option linter.unusedVariables false

theorem enc_x : (enc 1 (-1) [120]).length = 8 := by
  rw [enc_len, body_len]
  have h : digs (fold (-1)) = [1] := by rw [show fold (-1) = 1 from rfl, digs_low (by omega)]; rfl
  rw [h]
  have h2 : digs (1 + [(1 : UInt8)].length + [(120 : UInt8)].length) = [3] := by rw [digs_low (by decide)]; rfl
  rw [h2]
  rfl
theorem err_x : err 1 (-1) [120] = 0 := by
  refine err_zero (.inl rfl) ?_
  have := enc_x
  rw [enc_len] at this
  omega
theorem fget_x : fget (enc 1 (-1) [120] ++ [122]) = ((1, -1, [120]), 8, 0) := by
  rw [fget_enc err_x (by omega) (by omega), enc_x]
theorem fget_1 : fget [1] = (zr, 0, 4) := by
  have h : get [1] = (1, 1, 0) := by decide
  unfold fget
  rw [h]
  simp

set_option maxRecDepth 100000 in
set_option maxHeartbeats 1000000 in
theorem speaks5 (w : World) : Calls Try.prog 9 #[] w fun e w' => e = .returned (.bool true) ∧ Below w.heap.size w w' := by
  have h1 := fun w => fr_encode 1 (-1) ⟨#[120]⟩ w (by omega) (by decide)
  have h2 := fun w => fr_get (bstr (enc 1 (-1) [120] ++ [122])) w (by rw [size_bstr, List.length_append, enc_x]; decide)
  have h3 := fun w => fr_get ⟨#[1]⟩ w (by decide)
  have e1 : encS 1 (-1) [120] = enc 1 (-1) [120] := by unfold encS; rw [if_pos err_x]
  simp only [e1, err_x] at h1
  simp only [fget_x] at h2
  simp only [fget_1] at h3
  have hl : (bstr (enc 1 (-1) [120])).size = 8 := by rw [size_bstr, enc_x]
  have hl2 : (enc 1 (-1) [120]).length = 8 := enc_x
  have hca := fun w => cat_run (P := Try.prog) w (bstr (enc 1 (-1) [120])) ⟨#[122]⟩ (bstr (enc 1 (-1) [120] ++ [122])) (by rw [hl]; decide) (bstr_cat _ _)
  have H1 := Lib.hid h1
  have H2 := Lib.hid h2
  have H3 := Lib.hid h3
  clear h1 h2 h3 e1
  generalize enc 1 (-1) [120] = E at *
  go_enter Try.func9, Try.ntmps9
  go_wp2_with (first | (go_at_call 10; refine (H1.out _).mono ?_; rintro e w1 ⟨rfl, b1⟩))
  go_at_call 13
  refine (H2.out _).mono ?_
  rintro e w2 ⟨rfl, b2⟩
  go_wp2_with (first | (go_at_call 13; refine (H3.out _).mono ?_; rintro e w3 ⟨rfl, b3⟩; obtain ⟨hl3, r0, _, r1, _, r2, _⟩ := ((At.alloc w2 [.int .i64 1, .int .i64 (-1), .string ⟨#[120]⟩] 23).on b3).three) | (go_at_call 12; refine (fr_kind 2 _ true (by decide)).mono ?_; rintro e w4 ⟨rfl, rfl⟩))
  go_ret
  have hb3 := on_below ((on_below b1 b2).alloc (on_below b1 b2).size _) b3
  exact ⟨rfl, hb3.alloc hb3.size _⟩
end Go.Proofs.Ytfgmbmpbgokolaa
