/- The walk of the law RingAt. -/
import Derived.Test.YthlhbkcbemgkeaaRingS2
namespace Go.Proofs.Ythlhbkcbemgkeaa
open Go.ChangeShapes Go.WideShapes Go.ChangeAt Go.RowKit
open PRing
set_option linter.unusedVariables false
set_option linter.unusedSimpArgs false

set_option maxRecDepth 100000 in
set_option maxHeartbeats 4000000 in
theorem walk_RingAt (w : World) (a0 : Option Addr) (n0 c0 : Nat) (l0 : List ByteArray) (w0 : Rd w (.sl .str) [.slice a0 n0 c0] l0) (a1 : Int) (w1 : (Lit.int .u8 a1).wf = true) (a2 : Int) (w2 : (Lit.int .i64 a2).wf = true) :
    Calls Try.prog 4 #[.slice a0 n0 c0, .int .u8 a1, .int .i64 a2] w fun e w' => e = .returned (.bool true) ∧ Below w.heap.size w w' := by
  obtain ⟨rfl, hc, hcm, hl⟩ := w0.strs
  obtain ⟨i1, i2⟩ := bounds_i64 w2
  have hu : 0 ≤ a1 ∧ a1 ≤ 255 := by simpa [Lit.wf, IntKind.min, IntKind.max, IntKind.bits, IntKind.signed] using w1
  clear w0 w1 w2
  obtain ⟨u1, u2⟩ := hu
  by_cases hbig : 200 < l0.length
  · go_enter Try.func4, Try.ntmps4
    go_wp2_with (first | (go_at_call 8; refine (speaks7 _).mono ?_; rintro e w1 ⟨rfl, b1⟩))
    go_ret
    exact ⟨rfl, b1⟩
  obtain ⟨r, hr⟩ : ∃ r : Nat, 1 + a1 % 20 = (r : Int) := ⟨(1 + a1 % 20).toNat, by omega⟩
  have hr1 : 1 ≤ r := by omega
  have hr2 : r ≤ 20 := by omega
  have hm0 : 0 ≤ a1 % 20 := by omega
  have hm1 : a1 % 20 ≤ 20 := by omega
  go_enter Try.func4, Try.ntmps4
  go_wp2_with (first | (go_at_call 8; refine (speaks7 _).mono ?_; rintro e w1 ⟨rfl, b1⟩) | (go_at_call 16; refine (rs_new _ r (by omega) (by omega) _).mono ?_; rintro e w2 ⟨rfl, hr0, b2⟩; have hb2 := on_below b1 b2; change Ring w2 _ _ r (sv []) at hr0))
  go_loopw [27] (fun i wr => ∃ (k : Nat) (F : Nat → Prop), k ≤ l0.length ∧ i = .int .i64 k ∧ Ring wr F w1.heap.size r (sv (last r (l0.take k))) ∧ (∀ q, F q → w.heap.size ≤ q) ∧ Below w.heap.size w wr) (fun i _ => l0.length - (intOf i).toNat)
  case atStart => exact ⟨0, _, Nat.zero_le _, rfl, by rw [List.take_zero, last_nil]; exact hr0, fun q hq => by subst hq; exact b1.size, hb2⟩
  case round =>
    obtain ⟨k, F, hk, rfl, hrg, hF, hbw⟩ := hrel
    by_cases hlt : k < l0.length
    · obtain ⟨b, off, rfl, hb, hcell⟩ := (hl.below hbw).at_ k hlt
      have HP0 := Lib.hid (rs_push F w1.heap.size r (last r (l0.take k)) l0[k] wr hrg (by omega))
      rw [last_push r hr1, ← List.take_succ_eq_append_getElem hlt] at HP0
      have hwr := hbw.size
      generalize l0[k] = x at *
      go_wp2_with (first | (go_at_call 17; refine HP0.out.mono ?_; rintro e w3 ⟨v, rfl, p3⟩; obtain ⟨F3, hr3, f3, b3, _⟩ := p3.below hbw hwr hF))
      go_roundw
      case rel => exact ⟨k + 1, F3, by omega, by go_num, hr3, f3, b3⟩
      case measure => simp [intOf]; omega
    · obtain rfl : k = l0.length := by omega
      rw [List.take_length] at hrg
      clear hlt hk
      have hll : (last r l0).length = min r l0.length := last_len r l0
      have hln : (sv (last r l0)).length = min r l0.length := by rw [sv_len, hll]
      have HL := fun wx (h : Ring wx F w1.heap.size r (sv (last r l0))) => rs_len F w1.heap.size r _ wx h
      rw [hln] at HL
      by_cases hlr : l0.length ≤ r
      · have hmn : min r l0.length = l0.length := by omega
        rw [hmn] at HL hln hll
        by_cases hin : 0 ≤ a2 ∧ a2 < l0.length
        · obtain ⟨j, rfl⟩ : ∃ j : Nat, a2 = j := ⟨a2.toNat, by omega⟩
          obtain ⟨q1, q2⟩ := hin
          have hj : j < l0.length := by omega
          have hget : (sv (last r l0))[j]? = some (.string (l0[j]'(by omega))) := by
            unfold sv; rw [List.getElem?_map, last_get, show l0.length - r + j = j by omega, List.getElem?_eq_getElem (by omega)]; rfl
          have HA := Lib.hid (rs_at F w1.heap.size r (sv (last r l0)) j _ wr hrg (by rw [hln]; exact hj) hget (by omega))
          obtain ⟨b, off, rfl, hb, hcell⟩ := (hl.below hbw).at_ (j) (by omega)
          generalize l0[j]'(by omega) = z at *
          go_wp2_with (first | (go_at_call 18; refine HA.out.mono ?_; rintro e w3 ⟨rfl, n3, rfl⟩))
          all_goals (go_ret; exact ⟨ret_true (by simp), below_drewN hbw _⟩)
        · have HA := Lib.hid (rs_at_none F w1.heap.size r (sv (last r l0)) a2 wr hrg (by rw [hln]; omega) i1 i2 (by omega))
          go_wp2_with (first | (go_at_call 18; refine HA.out.mono ?_; rintro e w3 ⟨rfl, rfl⟩) | (go_at_call 19; refine (HL _ hrg).mono ?_; rintro e w4 ⟨rfl, rfl⟩))
          all_goals (go_ret; exact ⟨ret_true (by simp), hbw⟩)
      · have hmn : min r l0.length = r := by omega
        rw [hmn] at HL hln hll
        have hmr : l0.length - (l0.length - r) = r := by omega
        by_cases hin : 0 ≤ a2 ∧ a2 < r
        · obtain ⟨j, rfl⟩ : ∃ j : Nat, a2 = j := ⟨a2.toNat, by omega⟩
          obtain ⟨q1, q2⟩ := hin
          have hj : j < r := by omega
          have hget : (sv (last r l0))[j]? = some (.string (l0[l0.length - r + j]'(by omega))) := by
            unfold sv; rw [List.getElem?_map, last_get, List.getElem?_eq_getElem (by omega)]; rfl
          have HA := Lib.hid (rs_at F w1.heap.size r (sv (last r l0)) j _ wr hrg (by rw [hln]; exact hj) hget (by omega))
          obtain ⟨b, off, rfl, hb, hcell⟩ := (hl.below hbw).at_ (l0.length - r + j) (by omega)
          generalize l0[l0.length - r + j]'(by omega) = z at *
          rw [← Nat.add_assoc] at hcell
          go_wp2_with (first | (go_at_call 18; refine HA.out.mono ?_; rintro e w3 ⟨rfl, n3, rfl⟩))
          all_goals (go_ret; exact ⟨ret_true (by simp), below_drewN hbw _⟩)
        · have HA := Lib.hid (rs_at_none F w1.heap.size r (sv (last r l0)) a2 wr hrg (by rw [hln]; omega) i1 i2 (by omega))
          go_wp2_with (first | (go_at_call 18; refine HA.out.mono ?_; rintro e w3 ⟨rfl, rfl⟩) | (go_at_call 19; refine (HL _ hrg).mono ?_; rintro e w4 ⟨rfl, rfl⟩))
          all_goals (go_ret; exact ⟨ret_true (by simp), hbw⟩)
end Go.Proofs.Ythlhbkcbemgkeaa
