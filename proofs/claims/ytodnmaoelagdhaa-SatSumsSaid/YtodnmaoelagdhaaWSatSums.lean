/- The walk of the law SatSums. -/
import Derived.Test.YtodnmaoelagdhaaSat2
namespace Go.Proofs.Ytodnmaoelagdhaa
open Go.ChangeShapes Go.WideShapes Go.ChangeAt Go.RowKit
open PSat

set_option maxHeartbeats 4000000 in
theorem walk_SatSums (w : World) (a0 : Option Addr) (n0 c0 : Nat) (l0 : List Int) (w0 : Rd w (.sl (.int .i64)) [.slice a0 n0 c0] l0) (a1 : Int) (w1 : (Lit.int .i64 a1).wf = true) (c2 : Array Value) (d2 : (List Int)) (w2 : Rd w (.arr 2 (.int .i64)) c2.toList d2) :
    Calls Try.prog 4 #[.slice a0 n0 c0, .int .i64 a1, .agg c2] w fun e w' => e = .returned (.bool true) ∧ Below w.heap.size w w' := by
  obtain ⟨rfl, hl⟩ := w0.ints
  obtain ⟨x, y, rfl, wx, wy⟩ := w2.two
  have hb0 := bounds_i64 w1
  have hbx := bounds_i64 wx
  have hby := bounds_i64 wy
  have hlen := hl.len
  unfold maxLen at hlen
  clear w0 w2 w1 wx wy
  by_cases hbig : 1000 < l0.length
  · go_enter Try.func4, Try.ntmps4
    go_wp2_with (go_at_call 9; refine (speaks1 _).mono ?_; rintro e w' ⟨rfl, rfl⟩)
    go_ret
    exact ⟨rfl, (Below.refl _ _).alloc (Nat.le_refl _) _⟩
  · have hl1 := hl.below ((Below.refl _ w).alloc (Nat.le_refl _) (.cells #[.int .i64 x, .int .i64 y] 26))
    have hl2 := fun n => hl1.below (below_drewN (Below.refl _ _) n)
    go_enter Try.func4, Try.ntmps4
    go_wp2_with (go_at_call 9; refine (speaks1 _).mono ?_; rintro e w' ⟨rfl, rfl⟩)
    go_loop [7, 20] (fun s i => ∃ k : Nat, k ≤ l0.length ∧ i = .int .i64 k ∧ s = .int .i64 (sum (l0.take k))) (fun _ i => l0.length - (intOf i).toNat)
    case atStart => exact ⟨0, Nat.zero_le _, rfl, rfl⟩
    case round =>
      obtain ⟨k, hk, rfl, rfl⟩ := hrel
      have hb2 := sum_in (l0.take k)
      unfold inR at hb2
      by_cases hlt : k < l0.length
      · obtain ⟨b, off, rfl, hb, hc⟩ := hl1.at_ k hlt
        have HS := Lib.hid (sum_take l0 k hlt)
        have hb1 := hl.bound k hlt
        go_wp2_with (go_at_call 11; refine (ref_add _ _ _ hb2 hb1).mono ?_; rintro e w' ⟨rfl, rfl⟩)
        go_round
        case rel => exact ⟨k + 1, by omega, by go_num, by rw [HS.out]⟩
        case measure => simp [intOf]; omega
      · have hkl : k = l0.length := by omega
        subst hkl
        clear hlt hk hbig
        have HS : Hid (sum l0 = sum (l0.take l0.length)) := by rw [List.take_length]; rfl
        generalize sum (l0.take l0.length) = s at *
        have hs : (s == s) = true := by simp
        have fin : ∀ (lo hi v : Int), lo ≤ hi → (a1 < lo ∧ v = lo ∨ hi < a1 ∧ v = hi ∨ lo ≤ a1 ∧ a1 ≤ hi ∧ v = a1) → within a1 lo hi = v := by
          intro lo hi v h1 h2; unfold within; rcases h2 with ⟨h2, rfl⟩ | ⟨h2, rfl⟩ | ⟨h2, h3, rfl⟩ <;> (repeat' split) <;> omega
        rcases Int.lt_trichotomy x y with hxy | hxy | hxy
        · rcases (by omega : a1 < x ∨ x = a1 ∨ (x < a1 ∧ a1 < y) ∨ a1 = y ∨ y < a1) with h | h | ⟨h, h'⟩ | h | h
          · have cw := fun w => within_case a1 x y x w (fin _ _ _ (by omega) (by omega))
            have h2 : a1 < y := by omega
            clear fin
            go_wp2
            go_quiet (fail)
            go_wp2_with (first | (go_at_call 14; refine (cw _).mono ?_; rintro e w' ⟨rfl, rfl⟩) | (go_at_call 15; refine (sat_sum_v s _ _ _ l0 _ rfl (hl2 _) HS.out).mono ?_; rintro e w' ⟨rfl, rfl⟩))
            all_goals go_ret
            all_goals exact ⟨rfl, below_drewN ((Below.refl _ w).alloc (Nat.le_refl _) _) _⟩
          · subst h
            have cw := fun w => within_case x x y x w (fin _ _ _ (by omega) (by omega))
            clear fin
            go_wp2
            go_quiet (fail)
            go_wp2_with (first | (go_at_call 14; refine (cw _).mono ?_; rintro e w' ⟨rfl, rfl⟩) | (go_at_call 15; refine (sat_sum_v s _ _ _ l0 _ rfl (hl2 _) HS.out).mono ?_; rintro e w' ⟨rfl, rfl⟩))
            all_goals go_ret
            all_goals exact ⟨rfl, below_drewN ((Below.refl _ w).alloc (Nat.le_refl _) _) _⟩
          · have cw := fun w => within_case a1 x y a1 w (fin _ _ _ (by omega) (by omega))
            clear fin
            go_wp2
            go_quiet (fail)
            go_wp2_with (first | (go_at_call 14; refine (cw _).mono ?_; rintro e w' ⟨rfl, rfl⟩) | (go_at_call 15; refine (sat_sum_v s _ _ _ l0 _ rfl (hl2 _) HS.out).mono ?_; rintro e w' ⟨rfl, rfl⟩))
            all_goals go_ret
            all_goals exact ⟨rfl, below_drewN ((Below.refl _ w).alloc (Nat.le_refl _) _) _⟩
          · subst h
            have cw := fun w => within_case a1 x a1 a1 w (fin _ _ _ (by omega) (by omega))
            clear fin
            go_wp2
            go_quiet (fail)
            go_wp2_with (first | (go_at_call 14; refine (cw _).mono ?_; rintro e w' ⟨rfl, rfl⟩) | (go_at_call 15; refine (sat_sum_v s _ _ _ l0 _ rfl (hl2 _) HS.out).mono ?_; rintro e w' ⟨rfl, rfl⟩))
            all_goals go_ret
            all_goals exact ⟨rfl, below_drewN ((Below.refl _ w).alloc (Nat.le_refl _) _) _⟩
          · have cw := fun w => within_case a1 x y y w (fin _ _ _ (by omega) (by omega))
            have h2 : x < a1 := by omega
            clear fin
            go_wp2
            go_quiet (fail)
            go_wp2_with (first | (go_at_call 14; refine (cw _).mono ?_; rintro e w' ⟨rfl, rfl⟩) | (go_at_call 15; refine (sat_sum_v s _ _ _ l0 _ rfl (hl2 _) HS.out).mono ?_; rintro e w' ⟨rfl, rfl⟩))
            all_goals go_ret
            all_goals exact ⟨rfl, below_drewN ((Below.refl _ w).alloc (Nat.le_refl _) _) _⟩
        · subst hxy
          rcases (by omega : a1 < x ∨ x = a1 ∨ x < a1) with h | h | h
          · have cw := fun w => within_case a1 x x x w (fin _ _ _ (by omega) (by omega))
            clear fin
            go_wp2
            go_quiet (fail)
            go_wp2_with (first | (go_at_call 14; refine (cw _).mono ?_; rintro e w' ⟨rfl, rfl⟩) | (go_at_call 15; refine (sat_sum_v s _ _ _ l0 _ rfl (hl2 _) HS.out).mono ?_; rintro e w' ⟨rfl, rfl⟩))
            all_goals go_ret
            all_goals exact ⟨rfl, below_drewN ((Below.refl _ w).alloc (Nat.le_refl _) _) _⟩
          · subst h
            have cw := fun w => within_case x x x x w (fin _ _ _ (by omega) (by omega))
            clear fin
            go_wp2
            go_quiet (fail)
            go_wp2_with (first | (go_at_call 14; refine (cw _).mono ?_; rintro e w' ⟨rfl, rfl⟩) | (go_at_call 15; refine (sat_sum_v s _ _ _ l0 _ rfl (hl2 _) HS.out).mono ?_; rintro e w' ⟨rfl, rfl⟩))
            all_goals go_ret
            all_goals exact ⟨rfl, below_drewN ((Below.refl _ w).alloc (Nat.le_refl _) _) _⟩
          · have cw := fun w => within_case a1 x x x w (fin _ _ _ (by omega) (by omega))
            clear fin
            go_wp2
            go_quiet (fail)
            go_wp2_with (first | (go_at_call 14; refine (cw _).mono ?_; rintro e w' ⟨rfl, rfl⟩) | (go_at_call 15; refine (sat_sum_v s _ _ _ l0 _ rfl (hl2 _) HS.out).mono ?_; rintro e w' ⟨rfl, rfl⟩))
            all_goals go_ret
            all_goals exact ⟨rfl, below_drewN ((Below.refl _ w).alloc (Nat.le_refl _) _) _⟩
        · rcases (by omega : a1 < y ∨ y = a1 ∨ (y < a1 ∧ a1 < x) ∨ a1 = x ∨ x < a1) with h | h | ⟨h, h'⟩ | h | h
          · have cw := fun w => within_case a1 y x y w (fin _ _ _ (by omega) (by omega))
            have h2 : a1 < x := by omega
            clear fin
            go_wp2
            go_quiet (fail)
            go_wp2_with (first | (go_at_call 14; refine (cw _).mono ?_; rintro e w' ⟨rfl, rfl⟩) | (go_at_call 15; refine (sat_sum_v s _ _ _ l0 _ rfl (hl2 _) HS.out).mono ?_; rintro e w' ⟨rfl, rfl⟩))
            all_goals go_ret
            all_goals exact ⟨rfl, below_drewN ((Below.refl _ w).alloc (Nat.le_refl _) _) _⟩
          · subst h
            have cw := fun w => within_case y y x y w (fin _ _ _ (by omega) (by omega))
            clear fin
            go_wp2
            go_quiet (fail)
            go_wp2_with (first | (go_at_call 14; refine (cw _).mono ?_; rintro e w' ⟨rfl, rfl⟩) | (go_at_call 15; refine (sat_sum_v s _ _ _ l0 _ rfl (hl2 _) HS.out).mono ?_; rintro e w' ⟨rfl, rfl⟩))
            all_goals go_ret
            all_goals exact ⟨rfl, below_drewN ((Below.refl _ w).alloc (Nat.le_refl _) _) _⟩
          · have cw := fun w => within_case a1 y x a1 w (fin _ _ _ (by omega) (by omega))
            clear fin
            go_wp2
            go_quiet (fail)
            go_wp2_with (first | (go_at_call 14; refine (cw _).mono ?_; rintro e w' ⟨rfl, rfl⟩) | (go_at_call 15; refine (sat_sum_v s _ _ _ l0 _ rfl (hl2 _) HS.out).mono ?_; rintro e w' ⟨rfl, rfl⟩))
            all_goals go_ret
            all_goals exact ⟨rfl, below_drewN ((Below.refl _ w).alloc (Nat.le_refl _) _) _⟩
          · subst h
            have cw := fun w => within_case a1 y a1 a1 w (fin _ _ _ (by omega) (by omega))
            clear fin
            go_wp2
            go_quiet (fail)
            go_wp2_with (first | (go_at_call 14; refine (cw _).mono ?_; rintro e w' ⟨rfl, rfl⟩) | (go_at_call 15; refine (sat_sum_v s _ _ _ l0 _ rfl (hl2 _) HS.out).mono ?_; rintro e w' ⟨rfl, rfl⟩))
            all_goals go_ret
            all_goals exact ⟨rfl, below_drewN ((Below.refl _ w).alloc (Nat.le_refl _) _) _⟩
          · have cw := fun w => within_case a1 y x x w (fin _ _ _ (by omega) (by omega))
            have h2 : y < a1 := by omega
            clear fin
            go_wp2
            go_quiet (fail)
            go_wp2_with (first | (go_at_call 14; refine (cw _).mono ?_; rintro e w' ⟨rfl, rfl⟩) | (go_at_call 15; refine (sat_sum_v s _ _ _ l0 _ rfl (hl2 _) HS.out).mono ?_; rintro e w' ⟨rfl, rfl⟩))
            all_goals go_ret
            all_goals exact ⟨rfl, below_drewN ((Below.refl _ w).alloc (Nat.le_refl _) _) _⟩
end Go.Proofs.Ytodnmaoelagdhaa
