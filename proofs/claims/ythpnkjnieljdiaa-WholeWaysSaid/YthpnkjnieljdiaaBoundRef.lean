/- The document's own answers of layer 10. -/
import Derived.Test.YthpnkjnieljdiaaSatSub
import Derived.Test.YthpnkjnieljdiaaBoundPlain
import Derived.Test.YthpnkjnieljdiaaClamp
namespace Go.Proofs.Ythpnkjnieljdiaa
open Go.ChangeShapes Go.WideShapes Go.ChangeAt Go.RowKit
open PSat PClamp PBound
set_option linter.unusedVariables false
set_option linter.unusedSimpArgs false

theorem most_in64 (l : List Int) (hb : ∀ x ∈ l, -9223372036854775808 ≤ x ∧ x ≤ 9223372036854775807) : -9223372036854775808 ≤ most (-9223372036854775808) l ∧ most (-9223372036854775808) l ≤ 9223372036854775807 := by
  refine ⟨most_ge l _, ?_⟩
  rcases most_in l (-9223372036854775808) with h | h
  · omega
  · exact (hb _ h).2

set_option maxHeartbeats 1000000 in
theorem ref_most (a : Option Addr) (n c : Nat) (l : List Int) (w : World) (hn : n = l.length) (hl : RowI w .i64 a l) (hb : l.length ≤ 100000) (M : Int) (hM : most (-9223372036854775808) l = M) :
    Calls Try.prog 42 #[.slice a n c] w fun e w' => e = .returned (.int .i64 M) ∧ w = w' := by
  subst hn
  have HM := Lib.hid hM
  clear hM
  go_enter Try.func42, Try.ntmps42
  go_wp2
  go_loop [3, 4] (fun m i => ∃ k : Nat, k ≤ l.length ∧ i = .int .i64 k ∧ m = .int .i64 (most (-9223372036854775808) (l.take k))) (fun _ i => l.length - (intOf i).toNat)
  case atStart => exact ⟨0, Nat.zero_le _, rfl, rfl⟩
  case round =>
    obtain ⟨k, hk, rfl, rfl⟩ := hrel
    by_cases hlt : k < l.length
    · obtain ⟨b, off, rfl, hb', hc⟩ := hl.at_ k hlt
      have HT := Lib.hid (most_take l (-9223372036854775808) k hlt)
      generalize l[k] = x at *
      generalize most (-9223372036854775808) (l.take k) = m at *
      by_cases hx : m < x
      · go_wp2
        go_round
        case rel => exact ⟨k + 1, by omega, by go_num, by rw [HT.out, if_pos hx]⟩
        case measure => simp [intOf]; omega
      · have hxm : x ≤ m := by omega
        go_wp2
        go_round
        case rel => exact ⟨k + 1, by omega, by go_num, by rw [HT.out, if_neg (show ¬ m < x by omega)]⟩
        case measure => simp [intOf]; omega
    · obtain rfl : k = l.length := by omega
      have hall : l.take l.length = l := List.take_of_length_le (Nat.le_refl _)
      rw [hall, HM.out]
      clear hall
      go_wp2
      go_ret
      exact ⟨rfl, rfl⟩

set_option maxHeartbeats 1000000 in
theorem ref_now10 (a : Option Addr) (n c : Nat) (l : List Int) (b : Int) (w : World) (hn : n = l.length) (h0 : 0 < n) (hl : RowI w .i64 a l) (hlen : l.length ≤ 100000) (hb : -9223372036854775808 ≤ b ∧ b ≤ 9223372036854775807) (M : Int) (hM : most (-9223372036854775808) l = M) :
    Calls Try.prog 33 #[.slice a n c, .int .i64 b] w fun e w' => e = .returned (.int .i64 (after M b)) ∧ w = w' := by
  have hMb := most_in64 l (fun x hx => by
        obtain ⟨i, hi, rfl⟩ := List.mem_iff_getElem.1 hx
        exact hl.bound i hi)
  rw [hM] at hMb
  have HM := Lib.hid (ref_most a n c l w hn hl hlen M hM)
  have h1 := sub_in M b
  unfold inR at h1
  have HS := Lib.hid (show after M b = sub (sub M b) 1 from rfl)
  have HC := Lib.hid (ref_sub M b w hMb hb)
  have HC2 := Lib.hid (ref_sub (sub M b) 1 w h1 (by omega))
  generalize sub M b = s at *
  generalize sub s 1 = s2 at *
  have hn0 : ((n : Int) == 0) = false := by simp; omega
  clear hn hM hl
  go_enter Try.func33, Try.ntmps33
  go_wp2_with (go_at_call 42; (with_reducible refine HM.out.mono ?_); rintro e w' ⟨rfl, rfl⟩)
  go_wp2_with (go_at_call 41; (with_reducible refine HC.out.mono ?_); rintro e w' ⟨rfl, rfl⟩)
  go_wp2_with (go_at_call 41; (with_reducible refine HC2.out.mono ?_); rintro e w' ⟨rfl, rfl⟩)
  go_ret
  exact ⟨ret_int (by rw [HS.out]), rfl⟩
end Go.Proofs.Ythpnkjnieljdiaa
