/- The walk of ClockGoes. -/
import Derived.Test.YteimpeeghjeogaaSpeaks14
import Derived.Test.YteimpeeghjeogaaKBase
namespace Go.Proofs.Yteimpeeghjeogaa
set_option maxRecDepth 4000
open Go.ChangeShapes Go.WideShapes Go.ChangeAt Go.RowKit
open PSat
set_option linter.unusedVariables false
set_option linter.unusedSimpArgs false

set_option maxHeartbeats 4000000 in
theorem walk_ClockGoes (w : World) (a0 : Option Addr) (n0 c0 : Nat) (l0 : List Int) (w0 : Rd w (.sl (.int .i64)) [.slice a0 n0 c0] l0) (a1 : Int) (w1 : (Lit.int .i64 a1).wf = true) (a2 : Int) (w2 : (Lit.int .i64 a2).wf = true) :
    Calls Try.prog 5 #[.slice a0 n0 c0, .int .i64 a1, .int .i64 a2] w fun e w' => e = .returned (.bool true) ∧ Below w.heap.size w w' := by
  obtain ⟨rfl, hl⟩ := w0.ints
  have h1 := bounds_i64 w1
  have h2 := bounds_i64 w2
  clear w0 w1 w2
  by_cases hbig : 200 < l0.length
  · go_enter Try.func5, Try.ntmps5
    go_wp2_with (go_at_call 15; refine (speaks14 _).mono ?_; rintro e w1 ⟨rfl, hb1⟩)
    go_ret
    exact ⟨rfl, hb1⟩
  have hsm : l0.length ≤ 200 := by omega
  clear hbig
  obtain ⟨b, hb⟩ : ∃ b, b = max a1 0 := ⟨_, rfl⟩
  have hbb : -9223372036854775808 ≤ b ∧ b ≤ 9223372036854775807 := by omega
  have HUU := fun g m w' (h : ClockC w' g m) hm => Lib.hid (ck_until g m a1 w' h hm h1)
  rw [← hb] at HUU
  have HB := Lib.hid hb
  clear hb h1
  go_enter Try.func5, Try.ntmps5
  go_wp2_with (go_at_call 15; refine (speaks14 _).mono ?_; rintro e w1 ⟨rfl, hb1⟩)
  have hc0 := ClockC.made w1 45
  have hb0 := hb1.alloc hb1.size (.cells #[.int .i64 0] 45)
  have hsz := hb1.size
  go_loopw [8, 18] (fun m i wr => ∃ (k : Nat) (n : Int), k ≤ l0.length ∧ i = .int .i64 k ∧ m = .int .i64 n ∧ (-9223372036854775808 ≤ n ∧ n ≤ 9223372036854775807) ∧ ClockC wr w1.heap.size n ∧ Below w.heap.size w wr) (fun _ i _ => l0.length - (intOf i).toNat)
  case atStart => exact ⟨0, 0, Nat.zero_le _, rfl, rfl, by omega, hc0, hb0⟩
  case round =>
    obtain ⟨k, n, hk, rfl, rfl, hn, hcl, hbw⟩ := hrel
    by_cases hlt : k < l0.length
    · obtain ⟨c, off, rfl, hb', hc⟩ := (hl.below hbw).at_ k hlt
      have hxb := hl.bound k hlt
      generalize l0[k] = x at *
      rcases (show (0 ≤ a1 ∧ b = a1) ∨ (a1 < 0 ∧ b = 0) by have := HB.out; omega) with ⟨ha, hb2⟩ | ⟨ha, hb2⟩
      · subst hb2
        clear HB
        by_cases hx : x < 0
        · have HG := fun w' h => Lib.hid (ck_none w1.heap.size n x w' h hx)
          have HN := fun w' h => Lib.hid (ck_now w1.heap.size n w' h)
          have HU := fun w' h => HUU w1.heap.size n w' h hn
          have HP := fun w' h => Lib.hid (ck_past w1.heap.size n a2 w' h)
          have HP2 := fun w' h => Lib.hid (ck_past w1.heap.size n n w' h)
          have HRB := fun w' => Lib.hid (ref_add n b w' hn hbb)
          have hnn : (n != n) = false := by simp
          have haa : (add n b != add n b) = false := by simp
          have hdn : decide (n ≤ n) = true := by simp
          have hdd : (decide (a2 ≤ n) != decide (a2 ≤ n)) = false := by simp
          have HNB := Lib.hid (And.intro hn hbb)
          generalize add n b = u at *
          clear HUU hbb
          go_wp2_with (go_at_call 16; refine (HG _ hcl).out.mono ?_; rintro e w3 ⟨rfl, rfl⟩)
          go_wp2_with (first | (go_at_call 18; refine (HN _ hcl).out.mono ?_; rintro e w3 ⟨rfl, rfl⟩) | (go_at_call 19; refine (HU _ hcl).out.mono ?_; rintro e w3 ⟨rfl, rfl⟩) | (go_at_call 17; (with_reducible refine (HRB _).out.mono ?_); rintro e w3 ⟨rfl, rfl⟩) | (go_at_call 20; (with_reducible refine (HP _ hcl).out.mono ?_); rintro e w3 ⟨rfl, rfl⟩) | (go_at_call 20; (with_reducible refine (HP2 _ hcl).out.mono ?_); rintro e w3 ⟨rfl, rfl⟩))
          go_roundw
          case rel => exact ⟨k + 1, n, by omega, by go_num, rfl, HNB.out.1, hcl, hbw⟩
          case measure => simp [intOf]; omega
        · have hx0 : 0 ≤ x := by omega
          have HG := fun w' h => Lib.hid (ck_go w1.heap.size n x w' h hn hxb hx0)
          have HRA := fun w' => Lib.hid (ref_add n x w' hn hxb)
          have hm := add_in n x
          unfold inR at hm
          generalize add n x = m at *
          have HN := fun w' h => Lib.hid (ck_now w1.heap.size m w' h)
          have HU := fun w' h => HUU w1.heap.size m w' h hm
          have HP := fun w' h => Lib.hid (ck_past w1.heap.size m a2 w' h)
          have HP2 := fun w' h => Lib.hid (ck_past w1.heap.size m m w' h)
          have HRB := fun w' => Lib.hid (ref_add m b w' hm hbb)
          have hnn : (m != m) = false := by simp
          have haa : (add m b != add m b) = false := by simp
          have hdn : decide (m ≤ m) = true := by simp
          have hdd : (decide (a2 ≤ m) != decide (a2 ≤ m)) = false := by simp
          have HNB := Lib.hid (And.intro hn hbb)
          generalize add m b = u at *
          clear HUU hbb
          go_wp2_with (first | (go_at_call 16; refine (HG _ hcl).out.mono ?_; rintro e w3 ⟨rfl, hc3, hu3⟩; have hb3 := hbw.upd hu3 hbw.size (fun i _ h => by omega)) | (go_at_call 17; (with_reducible refine (HRA _).out.mono ?_); rintro e w3 ⟨rfl, rfl⟩))
          go_wp2_with (first | (go_at_call 18; refine (HN _ hc3).out.mono ?_; rintro e w3 ⟨rfl, rfl⟩) | (go_at_call 19; refine (HU _ hc3).out.mono ?_; rintro e w3 ⟨rfl, rfl⟩) | (go_at_call 17; (with_reducible refine (HRB _).out.mono ?_); rintro e w3 ⟨rfl, rfl⟩) | (go_at_call 20; (with_reducible refine (HP _ hc3).out.mono ?_); rintro e w3 ⟨rfl, rfl⟩) | (go_at_call 20; (with_reducible refine (HP2 _ hc3).out.mono ?_); rintro e w3 ⟨rfl, rfl⟩))
          go_roundw
          case rel => exact ⟨k + 1, m, by omega, by go_num, rfl, hm, hc3, hb3⟩
          case measure => simp [intOf]; omega
      · subst hb2
        clear HB
        by_cases hx : x < 0
        · have HG := fun w' h => Lib.hid (ck_none w1.heap.size n x w' h hx)
          have HN := fun w' h => Lib.hid (ck_now w1.heap.size n w' h)
          have HU := fun w' h => HUU w1.heap.size n w' h hn
          have HP := fun w' h => Lib.hid (ck_past w1.heap.size n a2 w' h)
          have HP2 := fun w' h => Lib.hid (ck_past w1.heap.size n n w' h)
          have HRB := fun w' => Lib.hid (ref_add n 0 w' hn hbb)
          have hnn : (n != n) = false := by simp
          have haa : (add n 0 != add n 0) = false := by simp
          have hdn : decide (n ≤ n) = true := by simp
          have hdd : (decide (a2 ≤ n) != decide (a2 ≤ n)) = false := by simp
          have HNB := Lib.hid (And.intro hn hbb)
          generalize add n 0 = u at *
          clear HUU hbb
          go_wp2_with (go_at_call 16; refine (HG _ hcl).out.mono ?_; rintro e w3 ⟨rfl, rfl⟩)
          go_wp2_with (first | (go_at_call 18; refine (HN _ hcl).out.mono ?_; rintro e w3 ⟨rfl, rfl⟩) | (go_at_call 19; refine (HU _ hcl).out.mono ?_; rintro e w3 ⟨rfl, rfl⟩) | (go_at_call 17; (with_reducible refine (HRB _).out.mono ?_); rintro e w3 ⟨rfl, rfl⟩) | (go_at_call 20; (with_reducible refine (HP _ hcl).out.mono ?_); rintro e w3 ⟨rfl, rfl⟩) | (go_at_call 20; (with_reducible refine (HP2 _ hcl).out.mono ?_); rintro e w3 ⟨rfl, rfl⟩))
          go_roundw
          case rel => exact ⟨k + 1, n, by omega, by go_num, rfl, HNB.out.1, hcl, hbw⟩
          case measure => simp [intOf]; omega
        · have hx0 : 0 ≤ x := by omega
          have HG := fun w' h => Lib.hid (ck_go w1.heap.size n x w' h hn hxb hx0)
          have HRA := fun w' => Lib.hid (ref_add n x w' hn hxb)
          have hm := add_in n x
          unfold inR at hm
          generalize add n x = m at *
          have HN := fun w' h => Lib.hid (ck_now w1.heap.size m w' h)
          have HU := fun w' h => HUU w1.heap.size m w' h hm
          have HP := fun w' h => Lib.hid (ck_past w1.heap.size m a2 w' h)
          have HP2 := fun w' h => Lib.hid (ck_past w1.heap.size m m w' h)
          have HRB := fun w' => Lib.hid (ref_add m 0 w' hm hbb)
          have hnn : (m != m) = false := by simp
          have haa : (add m 0 != add m 0) = false := by simp
          have hdn : decide (m ≤ m) = true := by simp
          have hdd : (decide (a2 ≤ m) != decide (a2 ≤ m)) = false := by simp
          have HNB := Lib.hid (And.intro hn hbb)
          generalize add m 0 = u at *
          clear HUU hbb
          go_wp2_with (first | (go_at_call 16; refine (HG _ hcl).out.mono ?_; rintro e w3 ⟨rfl, hc3, hu3⟩; have hb3 := hbw.upd hu3 hbw.size (fun i _ h => by omega)) | (go_at_call 17; (with_reducible refine (HRA _).out.mono ?_); rintro e w3 ⟨rfl, rfl⟩))
          go_wp2_with (first | (go_at_call 18; refine (HN _ hc3).out.mono ?_; rintro e w3 ⟨rfl, rfl⟩) | (go_at_call 19; refine (HU _ hc3).out.mono ?_; rintro e w3 ⟨rfl, rfl⟩) | (go_at_call 17; (with_reducible refine (HRB _).out.mono ?_); rintro e w3 ⟨rfl, rfl⟩) | (go_at_call 20; (with_reducible refine (HP _ hc3).out.mono ?_); rintro e w3 ⟨rfl, rfl⟩) | (go_at_call 20; (with_reducible refine (HP2 _ hc3).out.mono ?_); rintro e w3 ⟨rfl, rfl⟩))
          go_roundw
          case rel => exact ⟨k + 1, m, by omega, by go_num, rfl, hm, hc3, hb3⟩
          case measure => simp [intOf]; omega
    · obtain rfl : k = l0.length := by omega
      have HN := fun w' h => Lib.hid (ck_now w1.heap.size n w' h)
      go_wp2_with (go_at_call 18; refine (HN _ hcl).out.mono ?_; rintro e w3 ⟨rfl, rfl⟩)
      go_ret
      exact ⟨rfl, hbw⟩
end Go.Proofs.Yteimpeeghjeogaa
