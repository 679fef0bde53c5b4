/- log: the laws' own first question. -/
import Derived.Test.YtfgmbmpbgokolaaLog3
namespace Go.Proofs.Ytfgmbmpbgokolaa
open Go.ChangeShapes Go.WideShapes Go.ChangeAt Go.RowKit
open PVar PCrc PFrame
set_option linter.unusedVariables false
set_option linter.unusedSimpArgs false

theorem enc_4 : (enc 1 4 []).length = 7 := by
  rw [enc_len, body_len]
  have h : digs (fold 4) = [8] := by rw [show fold 4 = 8 from rfl, digs_low (by omega)]; rfl
  rw [h]
  have h2 : digs (1 + [(8 : UInt8)].length + ([] : List UInt8).length) = [2] := by rw [digs_low (by decide)]; rfl
  rw [h2]
  rfl
theorem ok_4 : okR (1, 4, []) := by
  refine ⟨err_zero (.inl rfl) ?_, by decide, by decide⟩
  have := enc_4
  rw [enc_len] at this
  show (body 1 4 []).length ≤ 65536
  omega
theorem parse_9 : parse [9] = ([], 0, 1) := by
  have h : get [9] = (9, 1, 0) := by decide
  have hf : fget [9] = (zr, 0, 1) := by
    unfold fget
    rw [h]
    simp
  have := parse_bad (l := [9]) (by simp) (by rw [hf]; simp)
  rw [this, hf]
theorem build_4 : build [(1, 4, [])] = enc 1 4 [] := by show enc 1 4 [] ++ [] = _; rw [List.append_nil]
theorem parse_49 : parse (enc 1 4 [] ++ [9]) = ([(1, 4, [])], 7, 1) := by
  have h := parse_build [(1, 4, [])] (by intro r hr; simp at hr; subst hr; exact ok_4) [9]
  rw [build_4, parse_9, enc_4] at h
  rw [h]
  rfl
theorem berr_4 : berr [(1, 4, [])] = 0 := by
  show (if err 1 4 [] ≠ 0 then err 1 4 [] else 0) = 0
  have := ok_4.1
  simp only at this
  rw [if_neg (by omega)]

set_option maxRecDepth 100000 in
set_option maxHeartbeats 2000000 in
theorem speaks6 (w : World) : Calls Try.prog 16 #[] w fun e w' => e = .returned (.bool true) ∧ Below w.heap.size w w' := by
  have hrow : RowR (w.alloc (.cells #[.int .i64 1, .int .i64 4, .string ⟨#[]⟩] 23)) (some ⟨w.heap.size, 0, none⟩) [(1, 4, [])] := by
    have h := Sl.made (B := 0) w #[.int .i64 1, .int .i64 4, .string ⟨#[]⟩] 23 3 1 1 (Nat.zero_le _) (Nat.le_refl _) (by decide) (by simp)
    obtain ⟨_, a, c, hv, hr⟩ := RowR.of_sl (rs := [(1, 4, [])]) (by simpa [rv, rcells] using h) (by simp)
    cases hv
    exact hr
  have hb0 : Below w.heap.size w (w.alloc (.cells #[.int .i64 1, .int .i64 4, .string ⟨#[]⟩] 23)) := (Below.refl _ _).alloc (Nat.le_refl _) _
  have h1 := log_build (some ⟨w.heap.size, 0, none⟩) 1 1 [(1, 4, [])] _ hrow rfl (by simp) (by omega)
  rw [berr_4, if_pos rfl, build_4] at h1
  have h2 := fun w => log_parse (bstr (enc 1 4 [] ++ [9])) w (by rw [size_bstr, List.length_append, enc_4]; decide)
  rw [show (bstr (enc 1 4 [] ++ [9])).data.toList = enc 1 4 [] ++ [9] from rfl, parse_49] at h2
  have hl : (bstr (enc 1 4 [])).size = 7 := by rw [size_bstr, enc_4]
  have hl2 : (enc 1 4 []).length = 7 := enc_4
  have hca := fun w => cat_run (P := Try.prog) w (bstr (enc 1 4 [])) ⟨#[9]⟩ (bstr (enc 1 4 [] ++ [9])) (by rw [hl]; decide) (bstr_cat _ _)
  have H1 := Lib.hid h1
  have H2 := Lib.hid h2
  clear h1 h2
  generalize enc 1 4 [] = E at *
  go_enter Try.func16, Try.ntmps16
  go_wp2_with (first | (go_at_call 19; refine H1.out.mono ?_; rintro e w1 ⟨rfl, b1⟩; have hb1 := on_below hb0 b1) | (go_at_call 17; refine (H2.out _).mono ?_; rintro e w2 ⟨a, c, rfl, hr2, b2⟩; have hb2 := on_below hb1 b2; obtain ⟨bb, o, rfl, hlt, p0, p1, p2⟩ := hr2.at_ 0 (by simp)) | (go_at_call 21; refine (log_times _ _ _ _ _ hr2 rfl (by simp)).mono ?_; rintro e w3 ⟨a3, c3, rfl, _, b3⟩; have hb3 := on_below hb2 b3))
  go_ret
  exact ⟨rfl, hb3⟩
end Go.Proofs.Ytfgmbmpbgokolaa
