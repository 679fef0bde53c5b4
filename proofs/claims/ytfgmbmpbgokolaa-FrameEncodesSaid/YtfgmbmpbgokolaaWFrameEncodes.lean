/- The walk of the law FrameEncodes. -/
import Derived.Test.YtfgmbmpbgokolaaSpeaks5
import Derived.Test.YtfgmbmpbgokolaaFrameRef2
import Derived.Test.YtfgmbmpbgokolaaRecs
namespace Go.Proofs.Ytfgmbmpbgokolaa
open Go.ChangeShapes Go.WideShapes Go.ChangeAt Go.RowKit
open PVar PCrc PFrame
set_option linter.unusedVariables false
set_option linter.unusedSimpArgs false

set_option maxRecDepth 100000 in
set_option maxHeartbeats 2000000 in
theorem walk_FrameEncodes (w : World) (c0 : Array Value) (d0 : (Int × Int × ByteArray × Unit)) (w0 : Rd w (.pair (.int .i64) (.pair (.int .i64) (.pair .str .unit))) c0.toList d0) (a1 : ByteArray) (w1 : a1.size ≤ maxLen) :
    Calls Try.prog 3 #[.agg c0, .string a1] w fun e w' => e = .returned (.bool true) ∧ Below w.heap.size w w' := by
  obtain ⟨k, t, s, rfl, hc, wk, wt, hs⟩ := Rd.rec w0
  obtain rfl : c0 = #[.int .i64 k, .int .i64 t, .string s] := by cases c0; simp_all
  have ht := bounds_i64 wt
  have hbx : Below w.heap.size w (w.alloc (.cells #[.int .i64 k, .int .i64 t, .string s] 23)) := (Below.refl _ _).alloc (Nat.le_refl _) _
  have hat := At.alloc w [.int .i64 k, .int .i64 t, .string s] 23
  clear w0 hc wk wt
  by_cases hbig : 300 < s.size ∨ 300 < a1.size
  · go_enter Try.func3, Try.ntmps3
    go_wp2_with (first | (go_at_call 9; refine (speaks5 _).mono ?_; rintro e w2 ⟨rfl, b2⟩; have hb2 := on_below hbx b2; obtain ⟨hl2, q0, f0, q1, f1, q2, f2⟩ := (hat.on b2).three))
    all_goals
      go_ret
      exact ⟨rfl, hb2⟩
  have hs1 : s.size ≤ 300 := by omega
  have hm1 : a1.size ≤ 300 := by omega
  clear hbig
  have hsl : s.data.toList.length = s.size := by simp
  have HE : Hid (∀ w, Calls Try.prog 10 #[rec k t s] w fun e w' => e = .returned (.tuple #[.string (bstr (encS k t s.data.toList)), .int .i64 (err k t s.data.toList : Nat)]) ∧ Below w.heap.size w w') := fun w => fr_encode k t s w ht (by omega)
  have HC : Hid (∀ w, Calls Try.prog 11 #[rec k t s] w fun e w' => e = .returned (.int .i64 (err k t s.data.toList : Nat)) ∧ Below w.heap.size w w') := fun w => ref_check k t s w ht (by omega)
  by_cases hk : k = 1 ∨ k = 2
  · have hbl := body_len k t s.data.toList
    have hdl := digs_len (fold_le ht.1 ht.2)
    have he : err k t s.data.toList = 0 := err_zero hk (by omega)
    have hes : encS k t s.data.toList = enc k t s.data.toList := by unfold encS; rw [if_pos he]
    have hel := enc_len k t s.data.toList
    have hdl2 := digs_len (n := (body k t s.data.toList).length) (by omega)
    rw [he, hes] at HE
    rw [he] at HC
    have HRE : Hid (∀ w, Calls Try.prog 14 #[rec k t s] w fun e w' => e = .returned (.string (bstr (enc k t s.data.toList))) ∧ Below w.heap.size w w') := fun w => ref_encode k t s w hk ht (by omega)
    have hal : a1.data.toList.length = a1.size := by simp
    have hg := fun w => fr_get (bstr (enc k t s.data.toList ++ a1.data.toList)) w (by rw [size_bstr, List.length_append]; omega)
    rw [show (bstr (enc k t s.data.toList ++ a1.data.toList)).data.toList = enc k t s.data.toList ++ a1.data.toList from rfl, fget_enc he ht.1 ht.2] at hg
    have hca := fun w => cat_run (P := Try.prog) w (bstr (enc k t s.data.toList)) a1 (bstr (enc k t s.data.toList ++ a1.data.toList)) (by rw [size_bstr]; omega) (bstr_cat _ _)
    have hsz : (bstr (enc k t s.data.toList)).size = (enc k t s.data.toList).length := size_bstr _
    have HG := Lib.hid hg
    have hrec : frec (k, t, s.data.toList) = rec k t s := rfl
    have hEl : (enc k t s.data.toList).length ≤ 325 := by omega
    rw [hrec] at HG
    clear hal hg he hes hbl hdl hdl2 hel hsl hrec
    generalize enc k t s.data.toList = E at *
    generalize E ++ a1.data.toList = EM at *
    have HK := Lib.hid (fun w => fr_kind k w true (by simpa using hk))
    rcases hk with rfl | rfl
    all_goals
      go_enter Try.func3, Try.ntmps3
      go_wp2_with (first | (go_at_call 9; refine (speaks5 _).mono ?_; rintro e w2 ⟨rfl, b2⟩; have hb2 := on_below hbx b2; have hat2 := hat.on b2; obtain ⟨hl2, q0, f0, q1, f1, q2, f2⟩ := hat2.three) | (go_at_call 10; refine (HE.out _).mono ?_; rintro e w3 ⟨rfl, b3⟩; have hb3 := on_below hb2 b3; have hat3 := hat2.on b3; obtain ⟨hl3, r0, _, r1, _, r2, _⟩ := hat3.three) | (go_at_call 11; refine (HC.out _).mono ?_; rintro e w4 ⟨rfl, b4⟩; have hb4 := on_below hb3 b4; have hat4 := hat3.on b4; obtain ⟨hl4, s0, _, s1, _, s2, _⟩ := hat4.three))
      go_quiet ((go_at_call 12; refine (HK.out _).mono ?_; rintro e wq ⟨rfl, rfl⟩; exact ⟨rfl, _, rfl⟩))
      go_wp2_with (first | (go_at_call 13; refine (HG.out _).mono ?_; rintro e w5 ⟨rfl, b5⟩; have hb5 := on_below (below_drewN hb4 _) b5; have hat5 := (hat4.drewN _).on b5; obtain ⟨hl5, u0, _, u1, _, u2, _⟩ := hat5.three) | (go_at_call 14; refine (HRE.out _).mono ?_; rintro e w6 ⟨rfl, b6⟩; have hb6 := on_below (hb5.alloc hb5.size _) b6; obtain ⟨hlx, x0, _, x1, _, x2, _⟩ := ((At.alloc w5 [_, _, _] _).on b6).three; obtain ⟨hly, y0, _, y1, _, y2, _⟩ := ((hat5.on ((Below.refl _ w5).alloc (Nat.le_refl _) _)).on b6).three))
      go_ret
      exact ⟨rfl, hb6⟩
  · have he : err k t s.data.toList = 3 := by unfold err; rw [if_pos (by omega)]
    have hes : encS k t s.data.toList = [] := by unfold encS; rw [if_neg (by omega)]
    rw [he, hes] at HE
    rw [he] at HC
    have HK := Lib.hid (fun w => fr_kind k w false (by simpa using hk))
    have hk1 : (k == 1) = false := by simp; omega
    have hk2 : (k == 2) = false := by simp; omega
    have hn1 : ¬ k = 1 := by omega
    have hn2 : ¬ k = 2 := by omega
    have hz : (bstr [] == (⟨#[]⟩ : ByteArray)) = true := by decide
    clear hk he hes
    go_enter Try.func3, Try.ntmps3
    go_wp2_with (first | (go_at_call 9; refine (speaks5 _).mono ?_; rintro e w2 ⟨rfl, b2⟩; have hb2 := on_below hbx b2; have hat2 := hat.on b2; obtain ⟨hl2, q0, f0, q1, f1, q2, f2⟩ := hat2.three) | (go_at_call 10; refine (HE.out _).mono ?_; rintro e w3 ⟨rfl, b3⟩; have hb3 := on_below hb2 b3; have hat3 := hat2.on b3; obtain ⟨hl3, r0, _, r1, _, r2, _⟩ := hat3.three) | (go_at_call 11; refine (HC.out _).mono ?_; rintro e w4 ⟨rfl, b4⟩; have hb4 := on_below hb3 b4; have hat4 := hat3.on b4; obtain ⟨hl4, s0, _, s1, _, s2, _⟩ := hat4.three))
    go_quiet ((go_at_call 12; refine (HK.out _).mono ?_; rintro e wq ⟨rfl, rfl⟩; exact ⟨rfl, _, rfl⟩))
    go_wp2
    go_ret
    exact ⟨ret_bool hz, below_drewN hb4 _⟩
end Go.Proofs.Ytfgmbmpbgokolaa
