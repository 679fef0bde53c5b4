/- The walk of the law FrameLong. -/
import Derived.Test.YtfgmbmpbgokolaaSpeaks5
import Derived.Test.YtfgmbmpbgokolaaCrcRef
namespace Go.Proofs.Ytfgmbmpbgokolaa
open Go.ChangeShapes Go.WideShapes Go.ChangeAt Go.RowKit
open PVar PCrc PFrame
set_option linter.unusedVariables false
set_option linter.unusedSimpArgs false

set_option maxRecDepth 100000 in
set_option maxHeartbeats 2000000 in
theorem walk_FrameLong (w : World) (a0 : Int) (w0 : (Lit.int .i64 a0).wf = true) (a1 : Int) (w1 : (Lit.int .u8 a1).wf = true) (a2 : ByteArray) (w2 : a2.size ≤ maxLen) :
    Calls Try.prog 5 #[.int .i64 a0, .int .u8 a1, .string a2] w fun e w' => e = .returned (.bool true) ∧ Below w.heap.size w w' := by
  have ht := bounds_i64 w0
  have hb1 := bounds_u8 w1
  clear w0 w1
  by_cases hbig : 100 < a2.size
  · go_enter Try.func5, Try.ntmps5
    go_wp2_with (first | (go_at_call 9; refine (speaks5 _).mono ?_; rintro e w2 ⟨rfl, b2⟩))
    go_ret
    exact ⟨rfl, b2⟩
  have hl : a2.data.toList.length = a2.size := by simp
  have hdl := digs_len (fold_le ht.1 ht.2)
  have hdp := digs_pos (fold a0)
  have hb0 := body_len 2 a0 []
  have he0 : err 2 a0 [] = 0 := err_zero (.inr rfl) (by simp at hb0; omega)
  have hel := enc_len 2 a0 []
  have hd1 : (digs (body 2 a0 []).length).length = 1 := by rw [digs_low (by simp at hb0; omega)]; rfl
  have hh := fun w => fr_encode 2 a0 ⟨#[]⟩ w ht (by decide)
  have hes0 : encS 2 a0 [] = enc 2 a0 [] := by unfold encS; rw [if_pos he0]
  simp only [he0, hes0] at hh
  obtain ⟨D, hD⟩ : ∃ D, (digs (fold a0)).length = D := ⟨_, rfl⟩
  have hE0 : (enc 2 a0 []).length = D + 6 := by rw [hel, hd1, hb0, hD]; simp; omega
  obtain ⟨m, hm⟩ : ∃ m : Nat, (m : Int) = a1 % 5 := ⟨(a1 % 5).toNat, by omega⟩
  obtain ⟨n, hn⟩ : ∃ n : Nat, n + D + a2.size = 65533 + m := ⟨65533 + m - D - a2.size, by omega⟩
  have hm5 : m ≤ 4 := by omega
  have hmk := fun w => run_make_row' (P := Try.prog) 38 5 (.int .u8 0) 1 Try.underlying38 (by kernel_rfl) rfl .i64 .i64 n (by omega) (by omega) w
  have hex : (65536 - ((D : Int) + 6 - 5) - 2 + a1 % 5 - (a2.size : Int)) = (n : Int) := by omega
  have hmk2 : ∀ w, (Instr.makeSlice 38 (.int .i64 (65536 - ((D : Int) + 6 - 5) - 2 + a1 % 5 - (a2.size : Int))) (.int .i64 (65536 - ((D : Int) + 6 - 5) - 2 + a1 % 5 - (a2.size : Int)))).run Try.prog w = .ok (.slice (some ⟨w.heap.size, 0, none⟩) n n) (w.alloc (.cells (madeCells #[.int .u8 0] n) 5)) := by
    rw [hex]; exact hmk
  have hHS := Lib.hid hh
  have hEs : (bstr (enc 2 a0 [])).size = D + 6 := by rw [size_bstr, hE0]
  -- the long record
  have hcv := fun w => own_string (P := Try.prog) (Own.madeRow w (.int .u8 0) n 5) (List.replicate n 0) (by rw [List.length_replicate]; exact Nat.le_refl _) (fun j hj => by rw [List.getElem_replicate]; rfl) n 38 9 5 Try.underlying38 Try.underlying5 Try.underlying9
  simp only [List.length_replicate] at hcv
  have hxl : (List.replicate n 0 ++ a2.data.toList).length = n + a2.size := by rw [List.length_append, List.length_replicate, hl]
  have hxs : (bstr (List.replicate n 0 ++ a2.data.toList)).size = n + a2.size := by rw [size_bstr, hxl]
  have hca := fun w => cat_run (P := Try.prog) w (bstr (List.replicate n 0)) a2 (bstr (List.replicate n 0 ++ a2.data.toList)) (by rw [size_bstr, List.length_replicate]; omega) (bstr_cat _ _)
  have hh2 := fun w => fr_encode 2 a0 (bstr (List.replicate n 0 ++ a2.data.toList)) w ht (by omega)
  rw [show (bstr (List.replicate n 0 ++ a2.data.toList)).data.toList = List.replicate n 0 ++ a2.data.toList from rfl] at hh2
  have hbl2 := body_len 2 a0 (List.replicate n 0 ++ a2.data.toList)
  rw [hxl, hD] at hbl2
  have hfe := fun h => @fget_enc 2 a0 (List.replicate n 0 ++ a2.data.toList) h ht.1 ht.2 []
  have hel2 := enc_len 2 a0 (List.replicate n 0 ++ a2.data.toList)
  have hdl2 := digs_len (n := (body 2 a0 (List.replicate n 0 ++ a2.data.toList)).length) (by omega)
  rw [List.append_nil] at hfe
  generalize List.replicate n 0 ++ a2.data.toList = X at *
  generalize hR : bstr (List.replicate n (0 : UInt8)) = Z at *
  clear hmk hh hes0 hel hd1 hb0 he0 hex hE0 hR hl hdl hdp hD
  generalize enc 2 a0 [] = E0 at *
  by_cases hm2 : 2 < m
  · have he2 : err 2 a0 X = 4 := by unfold err; rw [if_neg (by omega), if_pos (by omega)]
    have hes2 : encS 2 a0 X = [] := by unfold encS; rw [if_neg (by omega)]
    rw [he2, hes2] at hh2
    have hH2 := Lib.hid hh2
    have hz : (bstr [] == (⟨#[]⟩ : ByteArray)) = true := by decide
    have hgt : 2 < a1 % 5 := by omega
    clear hh2 hfe hel2 hdl2 hbl2 he2 hes2
    go_enter Try.func5, Try.ntmps5
    go_wp2_with (first | (go_at_call 9; refine (speaks5 _).mono ?_; rintro e w2 ⟨rfl, b2⟩) | (go_at_call 10; first | ((with_reducible refine (hHS.out _).mono ?_); rintro e w3 ⟨rfl, b3⟩; have hb3 := on_below b2 b3) | ((with_reducible refine (hH2.out _).mono ?_); rintro e w4 ⟨rfl, b4⟩)))
    go_ret
    exact ⟨rfl, on_below ((hb3.alloc hb3.size _).alloc (by have := hb3.size; simp; omega) _) b4⟩
  · have he2 : err 2 a0 X = 0 := err_zero (.inr rfl) (by omega)
    have hes2 : encS 2 a0 X = enc 2 a0 X := by unfold encS; rw [if_pos he2]
    have hfe2 := hfe he2
    have hE2l : (enc 2 a0 X).length ≤ 70000 := by omega
    have hE2s : (bstr (enc 2 a0 X)).size = (enc 2 a0 X).length := size_bstr _
    rw [he2, hes2] at hh2
    have hg := fun w => fr_get (bstr (enc 2 a0 X)) w (by omega)
    rw [show (bstr (enc 2 a0 X)).data.toList = enc 2 a0 X from rfl, hfe2] at hg
    simp only at hg
    clear hfe hfe2 hel2 hdl2 hbl2 he2 hes2
    generalize enc 2 a0 X = E2 at *
    have hH2 := Lib.hid hh2
    have hG := Lib.hid hg
    have hgt : ¬ 2 < a1 % 5 := by omega
    clear hh2 hg
    go_enter Try.func5, Try.ntmps5
    go_wp2_with (first | (go_at_call 9; refine (speaks5 _).mono ?_; rintro e w2 ⟨rfl, b2⟩) | (go_at_call 10; first | ((with_reducible refine (hHS.out _).mono ?_); rintro e w3 ⟨rfl, b3⟩; have hb3 := on_below b2 b3) | ((with_reducible refine (hH2.out _).mono ?_); rintro e w4 ⟨rfl, b4⟩; have hb4 := on_below ((hb3.alloc hb3.size (.cells (madeCells #[.int .u8 0] n) 5)).alloc (by have := hb3.size; simp; omega) (.cells #[.int .i64 2, .int .i64 a0, .string (bstr X)] 23)) b4; have hat4 := (At.alloc (w3.alloc (.cells (madeCells #[.int .u8 0] n) 5)) [.int .i64 2, .int .i64 a0, .string (bstr X)] 23).on b4)) | (go_at_call 13; refine (hG.out _).mono ?_; rintro e w5 ⟨rfl, b5⟩; have hb5 := on_below hb4 b5; obtain ⟨hl5, q0, _, q1, _, q2, _⟩ := (hat4.on b5).three; simp only [World.size_alloc] at hl5 q0 q1 q2))
    go_ret
    exact ⟨rfl, hb5.alloc hb5.size _⟩
end Go.Proofs.Ytfgmbmpbgokolaa
