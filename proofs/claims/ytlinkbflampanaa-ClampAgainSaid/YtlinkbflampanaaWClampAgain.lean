/- The walk of ClampAgain. -/
import Derived.Test.YtlinkbflampanaaSpeaks9
import Derived.Test.YtlinkbflampanaaSameI
namespace Go.Proofs.Ytlinkbflampanaa
open Go.ChangeShapes Go.WideShapes Go.ChangeAt Go.RowKit
open PClamp
set_option linter.unusedVariables false
set_option linter.unusedSimpArgs false

set_option maxHeartbeats 2000000 in
theorem walk_ClampAgain (w : World) (a0 : Option Addr) (n0 c0 : Nat) (l0 : List Int) (w0 : Rd w (.sl (.int .i64)) [.slice a0 n0 c0] l0) :
    Calls Try.prog 4 #[.slice a0 n0 c0] w fun e w' => e = .returned (.bool true) ∧ Below w.heap.size w w' := by
  obtain ⟨rfl, hl⟩ := w0.ints
  clear w0
  by_cases hbig : 200 < l0.length
  · go_enter Try.func4, Try.ntmps4
    go_wp2_with (go_at_call 8; refine (speaks9 _).mono ?_; rintro e w1 ⟨rfl, hb1⟩)
    go_ret
    exact ⟨rfl, hb1⟩
  have hsm : l0.length ≤ 200 := by omega
  clear hbig
  have hrl := rise_len l0 (-9223372036854775808)
  have HS := Lib.hid (rise_sorted l0 (-9223372036854775808))
  have HRR := Lib.hid (rise_rise l0 (-9223372036854775808))
  have HA := fun w' (h : RowI w' .i64 a0 l0) => Lib.hid (cl_all a0 _ c0 l0 w' rfl h (by omega) _ rfl)
  generalize rise (-9223372036854775808) l0 = R at *
  go_enter Try.func4, Try.ntmps4
  go_wp2_with (go_at_call 8; refine (speaks9 _).mono ?_; rintro e w1 ⟨rfl, hb1⟩)
  go_wp2_with (go_at_call 12; refine (HA _ (hl.below hb1)).out.mono ?_; intro e w2 h2; obtain ⟨a2, c2, rfl, hr2, hb2⟩ := h2; have hbb := hb1.trans (hb2.mono hb1.size))
  go_loopw [4] (fun i wr => ∃ k n : Nat, 1 ≤ k ∧ k ≤ R.length + 1 ∧ i = .int .i64 k ∧ wr = w2.drewN n) (fun i _ => R.length + 1 - (intOf i).toNat)
  case atStart => exact ⟨1, 0, Nat.le_refl _, by omega, rfl, rfl⟩
  case round =>
    obtain ⟨k, n, hk1, hk, rfl, rfl⟩ := hrel
    by_cases hlt : k < R.length
    · obtain ⟨b, off, rfl, hb, hcA⟩ := hr2.at_ k hlt
      obtain ⟨b', off', eb, hb', hcB⟩ := hr2.at_ (k - 1) (by omega)
      cases eb
      have hlt2 := List.pairwise_iff_getElem.1 HS.out (k - 1) k (by omega) hlt (by omega)
      generalize R[k] = x at *
      generalize R[k - 1] = y at *
      have hw : IntKind.i64.wrap ((k : Int) - 1) = ((k - 1 : Nat) : Int) := by rw [IntKind.wrap_i64]; omega
      have hyx : decide (x ≤ y) = false := by simp; omega
      clear hr2 HA hl
      go_wp2
      go_quiet (fail)
      go_wp2
      go_roundw
      case rel => exact ⟨k + 1, _, by omega, by omega, by go_num, rfl⟩
      case measure => simp [intOf]; omega
    · have HB := fun n => Lib.hid (cl_all a2 _ c2 R (w2.drewN n) rfl (hr2.below (below_drewN (Below.refl w2.heap.size w2) n)) (by omega) R HRR.out)
      go_wp2_with (go_at_call 12; refine (HB _).out.mono ?_; intro e w3 h3; obtain ⟨a3, c3, rfl, hr3, hb3⟩ := h3)
      have hr23 := (hr2.below (below_drewN (Below.refl w2.heap.size w2) n)).below hb3
      go_wp2_with (go_at_call 11; refine (ref_sameI R _ _ _ _ _ _ _ hr3 hr23 rfl rfl (by omega)).mono ?_; rintro e w6 ⟨rfl, n6, rfl⟩)
      go_ret
      exact ⟨rfl, below_drewN ((hbb.trans ((below_drewN (Below.refl w2.heap.size w2) n).mono hbb.size)).trans (hb3.mono hbb.size)) n6⟩
end Go.Proofs.Ytlinkbflampanaa
