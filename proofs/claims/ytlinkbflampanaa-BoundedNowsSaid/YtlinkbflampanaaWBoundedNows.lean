/- The walk of BoundedNows. -/
import Derived.Test.YtlinkbflampanaaSpeaks10
import Derived.Test.YtlinkbflampanaaBoundRef
import Derived.Test.YtlinkbflampanaaSameI
namespace Go.Proofs.Ytlinkbflampanaa
open Go.ChangeShapes Go.WideShapes Go.ChangeAt Go.RowKit
open PSat PClamp PBound
set_option linter.unusedVariables false
set_option linter.unusedSimpArgs false

set_option maxHeartbeats 2000000 in
theorem walk_BoundedNows (w : World) (a0 : Int) (w0 : (Lit.int .i64 a0).wf = true) (a1 : Option Addr) (n1 c1 : Nat) (l1 : List Int) (w1 : Rd w (.sl (.int .i64)) [.slice a1 n1 c1] l1) :
    Calls Try.prog 5 #[.int .i64 a0, .slice a1 n1 c1] w fun e w' => e = .returned (.bool true) ∧ Below w.heap.size w w' := by
  have hcap := w1.capI
  obtain ⟨rfl, hl⟩ := w1.ints
  clear w1
  have hb := bounds_i64 w0
  by_cases hbig : 200 < l1.length
  · go_enter Try.func5, Try.ntmps5
    go_wp2_with (go_at_call 13; refine (speaks10 _).mono ?_; rintro e w2 ⟨rfl, hb2⟩)
    go_ret
    exact ⟨rfl, hb2⟩
  by_cases hneg : a0 < 0
  · go_enter Try.func5, Try.ntmps5
    go_wp2_with (go_at_call 13; refine (speaks10 _).mono ?_; rintro e w2 ⟨rfl, hb2⟩)
    go_ret
    exact ⟨rfl, hb2⟩
  have hsm : l1.length ≤ 200 := by omega
  have hpos : 0 ≤ a0 := by omega
  clear hbig hneg w0
  have HNV := Lib.hid (after_never hpos)
  have HN := fun w' => Lib.hid (bo_new a0 w')
  go_enter Try.func5, Try.ntmps5
  go_wp2_with (go_at_call 13; refine (speaks10 _).mono ?_; rintro e w2 ⟨rfl, hb2⟩)
  go_wp2_with (go_at_call 14; refine (HN _).out.mono ?_; rintro e w3 ⟨rfl, rfl⟩)
  have hc0 := ClampC.gen w2 a0 hpos 37
  have hb0 := hb2.alloc hb2.size (.cells #[.int .i64 0, .bool false, .int .i64 a0] 37)
  go_loopw [6, 23] (fun z i wr => ∃ k : Nat, k ≤ l1.length ∧ i = .int .i64 k ∧ z = .int .i64 (after (most (-9223372036854775808) (l1.take k)) a0) ∧ ClampC wr w2.heap.size (after (most (-9223372036854775808) (l1.take k)) a0) [.int .i64 a0] ∧ Below w.heap.size w wr) (fun _ i _ => l1.length - (intOf i).toNat)
  case atStart => exact ⟨0, Nat.zero_le _, rfl, by rw [show most (-9223372036854775808) (l1.take 0) = -9223372036854775808 from rfl, HNV.out], hc0, hb0⟩
  case round =>
    obtain ⟨k, hk, rfl, rfl, hcl, hbw⟩ := hrel
    have hsz := hb2.size
    by_cases hlt : k < l1.length
    · obtain ⟨b, off, rfl, hb', hc⟩ := (hl.below hbw).at_ k hlt
      have HT := Lib.hid (most_take l1 (-9223372036854775808) k hlt)
      have hxb := hl.bound k hlt
      have hMge := after_mono a0 (show most (-9223372036854775808) (l1.take k) ≤ most (-9223372036854775808) (l1.take (k + 1)) by rw [most_take l1 _ k hlt]; split <;> omega)
      obtain ⟨M, hM⟩ : ∃ M, M = most (-9223372036854775808) (l1.take (k + 1)) := ⟨_, rfl⟩
      rw [← hM] at HT hMge
      have HM := Lib.hid hM
      clear hM
      generalize l1[k] = x at *
      generalize most (-9223372036854775808) (l1.take k) = m at *
      have HSN := fun kd s => Lib.hid (bo_seen w2.heap.size m a0 kd x s _ hcl hb hxb M HT.out.symm)
      have HNW := fun w' (h : ClampC w' w2.heap.size (after M a0) [.int .i64 a0]) => Lib.hid (cl_now w2.heap.size _ _ w' h)
      have HRN := fun w' (h : Below w.heap.size w w') cc => Lib.hid (ref_now10 (some ⟨b, off, none⟩) (k + 1) cc (l1.take (k + 1)) a0 w' (by rw [List.length_take]; omega) (by omega) (row_part (hl.below h) 0 (k + 1) off (by omega) (by omega) (l1.take (k + 1)) (by simp)) (by rw [List.length_take]; omega) hb M HM.out.symm)
      have hzz : (after M a0 != after M a0) = false := by simp
      have hlast : decide (after M a0 < after m a0) = false := by simp; omega
      generalize hAM : after M a0 = AM at *
      have HAM := Lib.hid hAM
      clear hAM
      go_wp2_with (go_at_call 15; refine (HSN _ _).out.mono ?_; rintro e w4 ⟨rfl, hc4, hu4⟩; have hb4 := hbw.upd hu4 hbw.size (fun i _ h => by omega))
      go_wp2_with (first | (go_at_call 10; refine (HNW _ hc4).out.mono ?_; rintro e w5 ⟨rfl, rfl⟩) | (go_at_call 16; refine (HRN _ hb4 _).out.mono ?_; rintro e w5 ⟨rfl, rfl⟩))
      go_roundw
      case rel => exact ⟨k + 1, by omega, by go_num, by rw [← HM.out, HAM.out], by rw [← HM.out, HAM.out]; exact hc4, hb4⟩
      case measure => simp [intOf]; omega
    · obtain rfl : k = l1.length := by omega
      have hall : l1.take l1.length = l1 := List.take_of_length_le (Nat.le_refl _)
      rw [hall] at hcl
      have HBD := Lib.hid (bo_bound w2.heap.size _ a0 _ hcl)
      have HNW := Lib.hid (cl_now w2.heap.size _ _ _ hcl)
      by_cases h0 : l1.length = 0
      · have hl0 : l1 = [] := List.eq_nil_of_length_eq_zero h0
        have e0 : after (most (-9223372036854775808) l1) a0 = -9223372036854775808 := by rw [hl0]; exact HNV.out
        rw [e0] at HNW
        go_wp2_with (first | (go_at_call 17; refine HBD.out.mono ?_; rintro e w5 ⟨rfl, rfl⟩) | (go_at_call 10; refine HNW.out.mono ?_; rintro e w5 ⟨rfl, rfl⟩))
        go_ret
        exact ⟨rfl, hbw⟩
      · have h00 : 0 < l1.length := by omega
        go_wp2_with (go_at_call 17; refine HBD.out.mono ?_; rintro e w5 ⟨rfl, rfl⟩)
        go_ret
        exact ⟨rfl, hbw⟩
end Go.Proofs.Ytlinkbflampanaa
