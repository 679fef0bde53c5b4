/- The walk of ClampRises. -/
import Derived.Test.YtlinkbflampanaaSpeaks9
import Derived.Test.YtlinkbflampanaaSameI
namespace Go.Proofs.Ytlinkbflampanaa
open Go.ChangeShapes Go.WideShapes Go.ChangeAt Go.RowKit
open PClamp
set_option linter.unusedVariables false
set_option linter.unusedSimpArgs false

set_option maxHeartbeats 2000000 in
theorem walk_ClampRises (w : World) (a0 : Option Addr) (n0 c0 : Nat) (l0 : List Int) (w0 : Rd w (.sl (.int .i64)) [.slice a0 n0 c0] l0) :
    Calls Try.prog 3 #[.slice a0 n0 c0] w fun e w' => e = .returned (.bool true) ∧ Below w.heap.size w w' := by
  obtain ⟨rfl, hl⟩ := w0.ints
  clear w0
  by_cases hbig : 200 < l0.length
  · go_enter Try.func3, Try.ntmps3
    go_wp2_with (go_at_call 8; refine (speaks9 _).mono ?_; rintro e w1 ⟨rfl, hb1⟩)
    go_ret
    exact ⟨rfl, hb1⟩
  obtain ⟨i0, hi0, hz0, hz1, hz2⟩ := info_parts info_int
  have hsm : l0.length ≤ 200 := by omega
  clear hbig
  go_enter Try.func3, Try.ntmps3
  go_wp2_with (go_at_call 8; refine (speaks9 _).mono ?_; rintro e w1 ⟨rfl, hb1⟩)
  have hc0 := ClampC.made w1 [] 25
  have hb0 := hb1.alloc hb1.size (.cells #[.int .i64 0, .bool false] 25)
  go_loopw [4, 5, 16] (fun v m i wr => ∃ k : Nat, k ≤ l0.length ∧ i = .int .i64 k ∧ m = .int .i64 (most (-9223372036854775808) (l0.take k)) ∧ Sl (w1.heap.size + 1) wr 1 v (rise (-9223372036854775808) (l0.take k)).length (iv (rise (-9223372036854775808) (l0.take k))) ∧ ClampC wr w1.heap.size (most (-9223372036854775808) (l0.take k)) [] ∧ Below w.heap.size w wr) (fun _ _ i _ => l0.length - (intOf i).toNat)
  case atStart => exact ⟨0, Nat.zero_le _, rfl, rfl, Sl.nil _ _ _, hc0, hb0⟩
  case round =>
    obtain ⟨k, hk, rfl, rfl, hs, hcl, hbw⟩ := hrel
    have hsz := hb1.size
    have hw1 : w1.heap.size < _ := hcl.lt
    by_cases hlt : k < l0.length
    · obtain ⟨b, off, rfl, hb', hc⟩ := (hl.below hbw).at_ k hlt
      have HT := Lib.hid (most_take l0 (-9223372036854775808) k hlt)
      have HR := Lib.hid (rise_take l0 (-9223372036854775808) k hlt)
      have hrl := rise_len (l0.take k) (-9223372036854775808)
      rw [List.length_take] at hrl
      generalize l0[k] = x at *
      generalize most (-9223372036854775808) (l0.take k) = m at *
      generalize rise (-9223372036854775808) (l0.take k) = R at *
      by_cases hx : m < x
      · have hxx : (x != x) = false := by simp
        go_wp2_with (first | (go_at_call 9; refine (cl_up _ m x _ _ hc1 hx).mono ?_; rintro e w2 ⟨rfl, hc2, hu2⟩; have hs2 := k1.upd hu2 (fun k hk => by have := (k1.lt k hk).1; omega); have hb2 := hbA.upd hu2 hbA.size (fun i _ e => by omega)) | (go_at_call 10; refine (cl_now _ _ _ _ hc2).mono ?_; rintro e w3 ⟨rfl, rfl⟩) | (at_builtin; refine wpList_append_sl _ rfl (.tmp 24) (.tmp 26) 22 22 rfl 3 i0 (.int .i64 0) 8 Try.underlying22 hi0 hz0 hz1 hz2 rfl rfl (hs.alloc _) _ 1 [.int .i64 x] rfl (src_oneN Try.underlying22 _ (.int .i64 x) _ _ (by simp) rfl) (by unfold maxLen; omega) (by omega) (by have := hcl.lt; simp; omega) ?_; intro v1 wA k1 k2 k3; have hc1 := (hcl.alloc (.cells #[.int .i64 x] 3)).upd k2 (fun hk => by have := (hs.lt _ hk).1; omega); have hbA := (hbw.alloc hbw.size (.cells #[.int .i64 x] 3)).upd k2 (by have := hbw.size; simp; omega) (fun i _ h => by have := (hs.lt i h).1; omega)))
        go_roundw
        case rel =>
          refine ⟨k + 1, by omega, by go_num, ?_, ?_, ?_, hb2⟩
          · rw [HT.out, if_pos hx]
          · rw [HR.out, if_pos hx, List.length_append, iv_snoc']
            exact hs2
          · rw [HT.out, if_pos hx]
            exact hc2
        case measure => simp [intOf]; omega
      · have hxm : x ≤ m := by omega
        go_wp2_with (first | (go_at_call 9; refine (cl_stay _ m x _ _ hcl hxm).mono ?_; rintro e w2 ⟨rfl, rfl⟩) | (go_at_call 10; refine (cl_now _ _ _ _ hcl).mono ?_; rintro e w3 ⟨rfl, rfl⟩))
        go_roundw
        case rel =>
          refine ⟨k + 1, by omega, by go_num, ?_, ?_, ?_, hbw⟩
          · rw [HT.out, if_neg (show ¬ m < x by omega)]
          · rw [HR.out, if_neg (show ¬ m < x by omega), List.append_nil]
            exact hs
          · rw [HT.out, if_neg (show ¬ m < x by omega)]
            exact hcl
        case measure => simp [intOf]; omega
    · obtain rfl : k = l0.length := by omega
      have hall : l0.take l0.length = l0 := List.take_of_length_le (Nat.le_refl _)
      rw [hall] at hs
      have hrl := rise_len l0 (-9223372036854775808)
      obtain ⟨hk2, a1, c1, hv, hrow⟩ := rowi_of_sl hs (fun x hx => by
        obtain ⟨i, hi, rfl⟩ := List.mem_iff_getElem.1 (rise_mem _ _ x hx)
        exact hl.bound i hi)
      subst hv
      have HA := Lib.hid (cl_all a0 _ c0 l0 _ rfl (hl.below hbw) (by omega) _ rfl)
      clear hall hk2 hs hcl
      generalize rise (-9223372036854775808) l0 = R at *
      go_wp2_with (go_at_call 12; refine HA.out.mono ?_; intro e w3 h3; obtain ⟨a3, c3, rfl, hr3, hb3⟩ := h3; have hrow3 := hrow.below hb3)
      go_wp2_with (go_at_call 11; refine (ref_sameI R _ _ _ _ _ _ _ hr3 hrow3 rfl rfl (by omega)).mono ?_; rintro e w6 ⟨rfl, n6, rfl⟩)
      go_ret
      exact ⟨rfl, (hbw.trans (hb3.mono hbw.size)).upd (S := fun _ => False) ((Upd.refl _ _).drewN n6) (Nat.le_trans hbw.size hb3.size) (fun _ _ h => h.elim)⟩
end Go.Proofs.Ytlinkbflampanaa
