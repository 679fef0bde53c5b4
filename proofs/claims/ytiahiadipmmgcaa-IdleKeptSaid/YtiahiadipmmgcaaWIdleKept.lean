/- The walk of IdleKept. -/
import Derived.Test.YtiahiadipmmgcaaIdI
import Derived.Test.YtiahiadipmmgcaaKBase
namespace Go.Proofs.Ytiahiadipmmgcaa
set_option maxRecDepth 4000
open Go.ChangeShapes Go.WideShapes Go.ChangeAt Go.RowKit
open PSat
set_option linter.unusedVariables false
set_option linter.unusedSimpArgs false

theorem add_small {n b : Int} (hn : 0 ≤ n ∧ n ≤ 100000000) (hb : 0 ≤ b ∧ b ≤ 65536) : add n b = n + b := by
  unfold add clampI
  rw [if_neg (by omega), if_neg (by omega)]
theorem add_later {n t m : Int} (hn : 0 ≤ n ∧ n ≤ 100000000) (hm : 0 ≤ m ∧ m ≤ 65536) (h : m < t) : n + m < add n t := by
  unfold add clampI
  (repeat' split) <;> omega

set_option maxHeartbeats 4000000 in
theorem walk_IdleKept (w : World) (a0 : Int) (w0 : (Lit.int .i64 a0).wf = true) (a1 : Option Addr) (n1 c1 : Nat) (l1 : List Int) (w1 : Rd w (.sl (.int .u16)) [.slice a1 n1 c1] l1) :
    Calls Try.prog 4 #[.int .i64 a0, .slice a1 n1 c1] w fun e w' => e = .returned (.bool true) ∧ Below w.heap.size w w' := by
  obtain ⟨rfl, hl⟩ := w1.ints
  have h0 := bounds_i64 w0
  clear w0 w1
  by_cases ht1 : a0 < 1
  · go_enter Try.func4, Try.ntmps4
    go_wp2_with (go_at_call 8; refine (speaks15 _).mono ?_; rintro e w1 ⟨rfl, hb1⟩)
    go_ret
    exact ⟨rfl, hb1⟩
  by_cases hbig : 200 < l1.length
  · have ht2 : ¬ a0 < 1 := ht1
    go_enter Try.func4, Try.ntmps4
    go_wp2_with (go_at_call 8; refine (speaks15 _).mono ?_; rintro e w1 ⟨rfl, hb1⟩)
    go_ret
    exact ⟨rfl, hb1⟩
  have hsm : l1.length ≤ 200 := by omega
  clear hbig
  obtain ⟨m, hm, hmt⟩ : ∃ m : Int, min a0 65536 = m ∧ (1 ≤ m ∧ m ≤ 65536 ∧ m ≤ a0) := ⟨_, rfl, by omega⟩
  have HM := Lib.hid hm
  have hmx : max a0 0 = a0 := by omega
  have HMX := Lib.hid hmx
  clear hm hmx
  go_enter Try.func4, Try.ntmps4
  go_wp2_with (go_at_call 8; refine (speaks15 _).mono ?_; rintro e w1 ⟨rfl, hb1⟩)
  have hc0 := ClockC.made w1 25
  have hb0 := hb1.alloc hb1.size (.cells #[.int .i64 0] 25)
  have hsz := hb1.size
  have HN := Lib.hid (id_new w1.heap.size 0 a0 _ hc0 (by omega) h0 _ rfl)
  rw [HMX.out] at HN
  go_wp2_with (go_at_call 10; (with_reducible refine HN.out.mono ?_); intro e w2 h2; have i2 := IdI.made _ hb0 hc0 hsz h2; obtain ⟨rfl, -⟩ := h2; generalize (w1.alloc (.cells #[.int .i64 0] 25)).heap.size = gs at *)
  clear HN hc0 hb0
  go_loopw [22] (fun i wr => ∃ (k : Nat) (n : Int), k ≤ l1.length ∧ i = .int .i64 k ∧ (0 ≤ n ∧ n ≤ 65536 * k) ∧ IdI w wr w1.heap.size gs n 0 a0 (add n a0)) (fun i _ => l1.length - (intOf i).toNat)
  case atStart => exact ⟨0, 0, Nat.zero_le _, rfl, by omega, i2⟩
  case round =>
    obtain ⟨k, n, hk, rfl, hn, hI⟩ := hrel
    by_cases hlt : k < l1.length
    · obtain ⟨b, off, rfl, hb', hc⟩ := (hl.below (hI.new)).at_ k hlt
      have hxb := bounds_u16 (hl.wf _ (List.getElem_mem hlt))
      generalize l1[k] = x at *
      obtain ⟨y, hy, hy2⟩ : ∃ y : Int, x % m = y ∧ (0 ≤ y ∧ y < m) := ⟨_, rfl, Int.emod_nonneg _ (by omega), Int.emod_lt_of_pos _ (by omega)⟩
      have hadd := add_small (n := n) (b := y) (by omega) (by omega)
      have hlater := add_later (n := n) (t := a0) (m := y) (by omega) (by omega) (by omega)
      have HG := fun w' h => Lib.hid (ck_go w1.heap.size n y w' h (by omega) (by omega) hy2.1)
      rw [hadd] at HG
      have HT := fun w' (h : IdI w w' w1.heap.size gs (n + y) 0 a0 (add n a0)) => Lib.hid (id_tick_not w1.heap.size (n + y) gs 0 a0 (add n a0) w' h.ck h.st (fun _ => hlater))
      have HI := fun w' (h : IdI w w' w1.heap.size gs (n + y) 0 a0 (add n a0)) => Lib.hid (id_is gs 0 a0 (add n a0) w' h.st)
      have HR := fun w' (h : IdI w w' w1.heap.size gs (n + y) 0 a0 (add n a0)) => Lib.hid (id_read w1.heap.size (n + y) gs 0 a0 (add n a0) w' h.ck h.ne (by omega) h0 h.st (by omega) (by omega) (add (n + y) a0) (by rw [HMX.out]))
      have hny : 0 ≤ n + y ∧ n + y ≤ 65536 * ((k : Int) + 1) := by omega
      have HNY := Lib.hid hny
      clear hadd hlater hny hn
      generalize n + y = n' at *
      clear hmt
      rcases (show (a0 ≤ 65536 ∧ m = a0) ∨ (65536 < a0 ∧ m = 65536) by have := HM.out; omega) with ⟨hc1, hc2⟩ | ⟨hc1, hc2⟩
      · subst hc2
        go_wp2_with (go_at_call 9; (with_reducible refine (HG _ hI.ck).out.mono ?_); rintro e w3 ⟨rfl, h3⟩; have i3 := hI.went h3)
        go_wp2_with (first | (go_at_call 15; (with_reducible refine (HT _ i3).out.mono ?_); rintro e w4 ⟨rfl, rfl⟩) | (go_at_call 16; (with_reducible refine (HI _ i3).out.mono ?_); rintro e w4 ⟨rfl, rfl⟩) | (go_at_call 14; (with_reducible refine (HR _ i3).out.mono ?_); rintro e w4 ⟨rfl, h4⟩; have i4 := i3.did h4))
        go_roundw
        case rel => exact ⟨k + 1, n', by omega, by go_num, by have := HNY.out; omega, i4⟩
        case measure => simp [intOf]; omega
      · subst hc2
        go_wp2_with (go_at_call 9; (with_reducible refine (HG _ hI.ck).out.mono ?_); rintro e w3 ⟨rfl, h3⟩; have i3 := hI.went h3)
        go_wp2_with (first | (go_at_call 15; (with_reducible refine (HT _ i3).out.mono ?_); rintro e w4 ⟨rfl, rfl⟩) | (go_at_call 16; (with_reducible refine (HI _ i3).out.mono ?_); rintro e w4 ⟨rfl, rfl⟩) | (go_at_call 14; (with_reducible refine (HR _ i3).out.mono ?_); rintro e w4 ⟨rfl, h4⟩; have i4 := i3.did h4))
        go_roundw
        case rel => exact ⟨k + 1, n', by omega, by go_num, by have := HNY.out; omega, i4⟩
        case measure => simp [intOf]; omega
    · have hb9 := hI.new
      obtain rfl : k = l1.length := by omega
      go_wp2
      go_ret
      exact ⟨rfl, hb9⟩
end Go.Proofs.Ytiahiadipmmgcaa
