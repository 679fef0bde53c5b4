/- sat: a sum of many, and a number within a range. -/
import Derived.Test.YtodnmaoelagdhaaSat
namespace Go.Proofs.Ytodnmaoelagdhaa
open Go.ChangeShapes Go.WideShapes Go.ChangeAt Go.RowKit
open PSat

set_option maxHeartbeats 400000 in
theorem sat_sum (a : Option Addr) (n c : Nat) (l : List Int) (w : World) (hn : n = l.length) (hl : RowI w .i64 a l) :
    Calls Try.prog 15 #[.slice a n c] w fun e w' => e = .returned (.int .i64 (sum l)) ∧ w = w' := by
  subst hn
  have hlen := hl.len
  unfold maxLen at hlen
  go_enter Try.func15, Try.ntmps15
  go_wp2
  go_loop [3, 8] (fun s i => ∃ k : Nat, k ≤ l.length ∧ i = .int .i64 k ∧ s = .int .i64 (sum (l.take k))) (fun _ i => l.length - (intOf i).toNat)
  case atStart => exact ⟨0, Nat.zero_le _, rfl, rfl⟩
  case round =>
    obtain ⟨k, hk, rfl, rfl⟩ := hrel
    by_cases hlt : k < l.length
    · obtain ⟨b, off, rfl, hb, hc⟩ := hl.at_ k hlt
      have HS := Lib.hid (sum_take l k hlt)
      have hb1 := hl.bound k hlt
      have hb2 := sum_in (l.take k)
      unfold inR at hb2
      go_wp2_with (go_at_call 10; refine (sat_add _ _ _ hb2 hb1).mono ?_; rintro e w' ⟨rfl, rfl⟩)
      go_round
      case rel => exact ⟨k + 1, by omega, by go_num, by rw [HS.out]⟩
      case measure => simp [intOf]; omega
    · go_wp2
      go_ret
      exact ⟨ret_int (by rw [List.take_of_length_le (by omega)]), rfl⟩

def within (n a b : Int) : Int := if n < a then a else if b < n then b else n

set_option maxHeartbeats 400000 in
theorem sat_within (n a b : Int) (w : World) : Calls Try.prog 14 #[.int .i64 n, .int .i64 a, .int .i64 b] w fun e w' => e = .returned (.int .i64 (within n a b)) ∧ w = w' := by
  go_enter Try.func14, Try.ntmps14
  go_wp2
  all_goals go_ret
  all_goals refine ⟨ret_int ?_, rfl⟩
  all_goals (unfold within; (repeat' split) <;> omega)

theorem within_case (n a b : Int) (v : Int) (w : World) (h : within n a b = v) : Calls Try.prog 14 #[.int .i64 n, .int .i64 a, .int .i64 b] w fun e w' => e = .returned (.int .i64 v) ∧ w = w' := by
  rw [← h]; exact sat_within n a b w
theorem sat_sum_v (v : Int) (a : Option Addr) (n c : Nat) (l : List Int) (w : World) (hn : n = l.length) (hl : RowI w .i64 a l) (hv : sum l = v) :
    Calls Try.prog 15 #[.slice a n c] w fun e w' => e = .returned (.int .i64 v) ∧ w = w' := by
  rw [← hv]; exact sat_sum a n c l w hn hl
end Go.Proofs.Ytodnmaoelagdhaa
