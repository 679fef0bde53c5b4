/- The walk of BoundedTrue. -/
import Derived.Test.YtlinkbflampanaaSpeaks10
import Derived.Test.YtlinkbflampanaaBoundRef
import Derived.Test.YtlinkbflampanaaSameI
namespace Go.Proofs.Ytlinkbflampanaa
open Go.ChangeShapes Go.WideShapes Go.ChangeAt Go.RowKit
open PSat PClamp PBound
set_option linter.unusedVariables false
set_option linter.unusedSimpArgs false

set_option maxHeartbeats 2000000 in
theorem walk_BoundedTrue (w : World) (a0 : Int) (w0 : (Lit.int .i64 a0).wf = true) (a1 : Option Addr) (n1 c1 : Nat) (l1 : List Int) (w1 : Rd w (.sl (.int .i64)) [.slice a1 n1 c1] l1) :
    Calls Try.prog 6 #[.int .i64 a0, .slice a1 n1 c1] w fun e w' => e = .returned (.bool true) ∧ Below w.heap.size w w' := by
  have hcap := w1.capI
  obtain ⟨rfl, hl⟩ := w1.ints
  clear w1
  have hb := bounds_i64 w0
  by_cases hbig : 200 < l1.length
  · go_enter Try.func6, Try.ntmps6
    go_wp2_with (go_at_call 13; refine (speaks10 _).mono ?_; rintro e w2 ⟨rfl, hb2⟩)
    go_ret
    exact ⟨rfl, hb2⟩
  by_cases hneg : a0 < 0
  · go_enter Try.func6, Try.ntmps6
    go_wp2_with (go_at_call 13; refine (speaks10 _).mono ?_; rintro e w2 ⟨rfl, hb2⟩)
    go_ret
    exact ⟨rfl, hb2⟩
  by_cases hmost : 4611686018427387904 < a0
  · go_enter Try.func6, Try.ntmps6
    go_wp2_with (go_at_call 13; refine (speaks10 _).mono ?_; rintro e w2 ⟨rfl, hb2⟩)
    go_ret
    exact ⟨rfl, hb2⟩
  have hsm : l1.length ≤ 200 := by omega
  have hpos : 0 ≤ a0 := by omega
  have hle : a0 ≤ 4611686018427387904 := by omega
  clear hbig hneg w0 hmost
  have HNV := Lib.hid (after_never hpos)
  have HN := fun w' => Lib.hid (bo_new a0 w')
  go_enter Try.func6, Try.ntmps6
  go_wp2_with (go_at_call 13; refine (speaks10 _).mono ?_; rintro e w2 ⟨rfl, hb2⟩)
  go_wp2_with (go_at_call 14; refine (HN _).out.mono ?_; rintro e w3 ⟨rfl, rfl⟩)
  have hc0 := ClampC.gen w2 a0 hpos 37
  have hb0 := hb2.alloc hb2.size (.cells #[.int .i64 0, .bool false, .int .i64 a0] 37)
  go_loopw [25] (fun i wr => ∃ k : Nat, k ≤ l1.length ∧ i = .int .i64 k ∧ ClampC wr w2.heap.size (after (most (-9223372036854775808) (l1.take k)) a0) [.int .i64 a0] ∧ Below w.heap.size w wr) (fun i _ => l1.length - (intOf i).toNat)
  case atStart => exact ⟨0, Nat.zero_le _, rfl, hc0, hb0⟩
  case round =>
    obtain ⟨k, hk, rfl, hcl, hbw⟩ := hrel
    have hsz := hb2.size
    by_cases hlt : k < l1.length
    · obtain ⟨b, off, rfl, hb', hc⟩ := (hl.below hbw).at_ k hlt
      have HT := Lib.hid (most_take l1 (-9223372036854775808) k hlt)
      have hxb := hl.bound k hlt
      have HMT := fun cc => Lib.hid (ref_most (some ⟨b, off, none⟩) k cc (l1.take k) _ (by rw [List.length_take]; omega) (row_part (hl.below hbw) 0 k off (by omega) (by omega) (l1.take k) (by simp)) (by rw [List.length_take]; omega) _ rfl)
      have hmb := most_in64 (l1.take k) (fun x hx => by
        obtain ⟨i, hi, rfl⟩ := List.mem_iff_getElem.1 (List.mem_of_mem_take hx)
        exact hl.bound i hi)
      have hm0 : k = 0 → most (-9223372036854775808) (l1.take k) = -9223372036854775808 := fun h => by subst h; rfl
      generalize l1[k] = x at *
      generalize most (-9223372036854775808) (l1.take k) = m at *
      have hwr : IntKind.i64.wrap (-9223372036854775808 + a0) = -9223372036854775808 + a0 := by rw [IntKind.wrap_i64]; omega
      have hwr2 : IntKind.i64.wrap (-9223372036854775808 + a0 + 1) = -9223372036854775808 + a0 + 1 := by rw [IntKind.wrap_i64]; omega
      have HNW := Lib.hid (cl_now w2.heap.size _ _ _ hcl)
      have HSN := fun kd s => Lib.hid (bo_seen w2.heap.size m a0 kd x s _ hcl hb hxb _ rfl)
      have HSB := fun w' => Lib.hid (ref_sub m a0 w' hmb hb)
      have HAL := Lib.hid (fun h1 h2 => after_lt (m := m) (b := a0) (t := x) h1 h2)
      have hmM : ∀ M, M = (if m < x then x else m) → most (-9223372036854775808) (l1.take (k + 1)) = M := fun M hM => by rw [HT.out, hM]
      have HMM := Lib.hid hmM
      clear hmM
      by_cases hk0 : k = 0
      · have hm0 := hm0 hk0
        subst hm0
        have hkf : (k : Int) ≤ 0 := by omega
        clear hk0
        by_cases hx : x < -9223372036854775808 + a0 + 1
        · go_wp2
          go_ret
          exact ⟨rfl, hbw⟩
        · have hnow : after (-9223372036854775808) a0 < x := by rw [HNV.out]; omega
          have hnow2 : decide (x ≤ after (-9223372036854775808) a0) = false := by simp; omega
          go_wp2_with (go_at_call 10; refine HNW.out.mono ?_; rintro e w5 ⟨rfl, rfl⟩)
          go_wp2_with (go_at_call 15; refine (HSN _ _).out.mono ?_; rintro e w4 ⟨rfl, hc4, hu4⟩; have hb4 := hbw.upd hu4 hbw.size (fun i _ h => by omega))
          go_roundw
          case rel => exact ⟨k + 1, by omega, by go_num, by rw [HMM.out _ rfl]; exact hc4, hb4⟩
          case measure => simp [intOf]; omega
      · have hk1 : 0 < (k : Int) := by omega
        by_cases hs : x < sub m a0
        · generalize sub m a0 = s at *
          go_wp2_with (first | (go_at_call 19; refine (HMT _).out.mono ?_; rintro e w5 ⟨rfl, rfl⟩) | (go_at_call 18; refine (HSB _).out.mono ?_; rintro e w5 ⟨rfl, rfl⟩))
          go_ret
          exact ⟨rfl, hbw⟩
        · have hs' : sub m a0 ≤ x := by omega
          have hx0 : -9223372036854775808 + a0 + 1 ≤ x → after m a0 < x := fun h => HAL.out hs' (by omega)
          generalize sub m a0 = s at *
          by_cases hx : x < -9223372036854775808 + a0 + 1
          · go_wp2_with (first | (go_at_call 19; refine (HMT _).out.mono ?_; rintro e w5 ⟨rfl, rfl⟩) | (go_at_call 18; refine (HSB _).out.mono ?_; rintro e w5 ⟨rfl, rfl⟩))
            go_ret
            exact ⟨rfl, hbw⟩
          · have hnow := hx0 (by omega)
            have hnow2 : decide (x ≤ after m a0) = false := by simp; omega
            clear hx0
            go_wp2_with (first | (go_at_call 19; refine (HMT _).out.mono ?_; rintro e w5 ⟨rfl, rfl⟩) | (go_at_call 18; refine (HSB _).out.mono ?_; rintro e w5 ⟨rfl, rfl⟩) | (go_at_call 10; refine HNW.out.mono ?_; rintro e w5 ⟨rfl, rfl⟩))
            go_wp2_with (go_at_call 15; refine (HSN _ _).out.mono ?_; rintro e w4 ⟨rfl, hc4, hu4⟩; have hb4 := hbw.upd hu4 hbw.size (fun i _ h => by omega))
            go_roundw
            case rel => exact ⟨k + 1, by omega, by go_num, by rw [HMM.out _ rfl]; exact hc4, hb4⟩
            case measure => simp [intOf]; omega
    · obtain rfl : k = l1.length := by omega
      go_wp2
      go_ret
      exact ⟨rfl, hbw⟩
end Go.Proofs.Ytlinkbflampanaa
