/- The document's own answers on records: which may be, and their bytes. -/
import Derived.Test.YtfgmbmpbgokolaaFrameRef
namespace Go.Proofs.Ytfgmbmpbgokolaa
open Go.ChangeShapes Go.WideShapes Go.ChangeAt Go.RowKit
open PVar PCrc PFrame
set_option linter.unusedVariables false

set_option maxRecDepth 100000 in
set_option maxHeartbeats 1000000 in
theorem ref_check (k t : Int) (s : ByteArray) (w : World) (ht : -9223372036854775808 ≤ t ∧ t ≤ 9223372036854775807) (hs : s.size ≤ 1000000) :
    Calls Try.prog 11 #[rec k t s] w fun e w' => e = .returned (.int .i64 (err k t s.data.toList : Nat)) ∧ Below w.heap.size w w' := by
  have hbel : Below w.heap.size w (w.alloc (.cells #[.int .i64 k, .int .i64 t, .string s] 23)) := (Below.refl _ _).alloc (Nat.le_refl _) _
  by_cases hk : k = 1 ∨ k = 2
  · have HB := Lib.hid (fun w => ref_body k t s w hk ht hs)
    have he : err k t s.data.toList = if 65536 < (body k t s.data.toList).length then 4 else 0 := by unfold err; rw [if_neg (by omega)]
    have hbs : (bstr (body k t s.data.toList)).size = (body k t s.data.toList).length := size_bstr _
    rw [he]
    clear he
    generalize (body k t s.data.toList).length = L at *
    generalize bstr (body k t s.data.toList) = R at *
    have hk3 : k = 1 ∨ k = 2 := hk
    rcases hk with rfl | rfl
    all_goals
      by_cases hl : 65536 < L
      · rw [if_pos hl]
        go_enter Try.func11, Try.ntmps11
        go_wp2_with (first | (go_at_call 27; refine (HB.out _).mono ?_; rintro e w2 ⟨rfl, b2⟩; have hb2 := on_below hbel b2))
        go_ret
        exact ⟨rfl, hb2⟩
      · rw [if_neg hl]
        go_enter Try.func11, Try.ntmps11
        go_wp2_with (first | (go_at_call 27; refine (HB.out _).mono ?_; rintro e w2 ⟨rfl, b2⟩; have hb2 := on_below hbel b2))
        go_ret
        exact ⟨rfl, hb2⟩
  · have he : err k t s.data.toList = 3 := by unfold err; rw [if_pos (by omega)]
    rw [he]
    have h1 : (k != 1) = true := by simp; omega
    have h2 : (k != 2) = true := by simp; omega
    clear hk he
    go_enter Try.func11, Try.ntmps11
    go_wp2
    go_ret
    exact ⟨rfl, hbel⟩

set_option maxRecDepth 100000 in
set_option maxHeartbeats 1000000 in
theorem ref_encode (k t : Int) (s : ByteArray) (w : World) (hk : k = 1 ∨ k = 2) (ht : -9223372036854775808 ≤ t ∧ t ≤ 9223372036854775807) (hs : s.size ≤ 4000) :
    Calls Try.prog 14 #[rec k t s] w fun e w' => e = .returned (.string (bstr (enc k t s.data.toList))) ∧ Below w.heap.size w w' := by
  have hbel : Below w.heap.size w (w.alloc (.cells #[.int .i64 k, .int .i64 t, .string s] 23)) := (Below.refl _ _).alloc (Nat.le_refl _) _
  have HB := Lib.hid (fun w => ref_body k t s w hk ht (by omega))
  have hbl := body_len k t s.data.toList
  have hdl := digs_len (fold_le ht.1 ht.2)
  have hsl : s.data.toList.length = s.size := by simp
  have hbs : (bstr (body k t s.data.toList)).size = (body k t s.data.toList).length := size_bstr _
  have hL : (body k t s.data.toList).length ≤ 4011 := by omega
  have HP := Lib.hid (fun w => ref_put (body k t s.data.toList).length w (by omega))
  have HS := Lib.hid (fun w => ref_seal (bstr (body k t s.data.toList)) w (by omega))
  have hdl2 := digs_len (n := (body k t s.data.toList).length) (by omega)
  have hca := fun w => cat_run (P := Try.prog) w (bstr (digs (body k t s.data.toList).length)) (bstr (sld (body k t s.data.toList))) (bstr (enc k t s.data.toList)) (by rw [size_bstr, size_bstr, sld_len]; omega) (bstr_cat _ _)
  rw [show (bstr (body k t s.data.toList)).data.toList = body k t s.data.toList from rfl] at HS
  clear hbl hdl hsl
  generalize enc k t s.data.toList = E at *
  generalize (body k t s.data.toList).length = L at *
  generalize body k t s.data.toList = R at *
  go_enter Try.func14, Try.ntmps14
  go_wp2_with (first | (go_at_call 27; refine (HB.out _).mono ?_; rintro e w2 ⟨rfl, b2⟩; have hb2 := on_below hbel b2) | (go_at_call 31; refine (HP.out _).mono ?_; rintro e w3 ⟨rfl, b3⟩; have hb3 := on_below hb2 b3) | (go_at_call 32; refine (HS.out _).mono ?_; rintro e w4 ⟨rfl, b4⟩; have hb4 := on_below hb3 b4))
  go_ret
  exact ⟨rfl, hb4⟩
end Go.Proofs.Ytfgmbmpbgokolaa
