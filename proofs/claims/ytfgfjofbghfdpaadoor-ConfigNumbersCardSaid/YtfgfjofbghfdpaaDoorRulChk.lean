/- gen: Check; the document's Check. -/
import Derived.Test.YtfgfjofbghfdpaaDoorRulPlain
import Derived.Test.YtfgfjofbghfdpaaDoorKBase
import Derived.WalkKit
import Derived.ProofKit
import Derived.OpenShut
import Derived.Handy
import Derived.IntWalk
import Derived.Outline
import Derived.Lib.Hide
import Derived.WalkLawsBesides
namespace Go.Proofs.YtfgfjofbghfdpaaDoor
set_option maxRecDepth 4000
open Go.ChangeShapes Go.WideShapes Go.ChangeAt Go.RowKit
set_option linter.unusedVariables false
set_option linter.unusedSimpArgs false

set_option maxHeartbeats 400000 in
theorem gn_within (n a b : Int) (w : World) (o : Bool) (ho : decide (a ≤ n ∧ n ≤ b) = o) :
    Calls Tryd.prog 48 #[.int .i64 n, .int .i64 a, .int .i64 b] w fun e w' => e = .returned (.bool o) ∧ w = w' := by
  subst ho
  by_cases h1 : a ≤ n
  · by_cases h2 : n ≤ b
    · go_enter Tryd.func48, Tryd.ntmps48
      go_wp2
      go_ret
      exact ⟨ret_bool (by simp [h1, h2]), rfl⟩
    · have h2' : b < n := by omega
      go_enter Tryd.func48, Tryd.ntmps48
      go_wp2
      go_ret
      exact ⟨ret_bool (by simp [h1, h2]), rfl⟩
  · have h1' : n < a := by omega
    go_enter Tryd.func48, Tryd.ntmps48
    go_wp2
    go_ret
    exact ⟨ret_bool (by simp; omega), rfl⟩

set_option maxHeartbeats 2000000 in
theorem gn_check (r : Rul) (w : World) (z : Int) (hz : rcheck r = z) :
    Calls Tryd.prog 35 #[r.val] w fun e w' => e = .returned (.int .i64 z) ∧ Below w.heap.size w w' := by
  obtain ⟨k, b, p, n, s⟩ := r
  unfold Rul.val
  simp only
  have hA := At.alloc w [.int .i64 k, .int .i64 b, .int .i64 p, .int .i64 n, .int .i64 s] 31
  have hb0 : Below w.heap.size w (w.alloc (.cells #[.int .i64 k, .int .i64 b, .int .i64 p, .int .i64 n, .int .i64 s] 31)) := (Below.refl _ _).alloc (Nat.le_refl _) _
  obtain ⟨hg, c0, z0, c1, z1, c2, z2, c3, z3, c4, z4⟩ := hA.five
  clear hA z0 z1 z2 z3 z4
  have HZ := Lib.hid hz
  clear hz
  by_cases k0 : k = 0
  · subst k0
    by_cases h : b < 0
    · obtain rfl : z = 7 := by rw [← HZ.out]; simp [rcheck, h]
      have hd : decide (0 ≤ b) = false := by simp; omega
      go_enter Tryd.func35, Tryd.ntmps35
      go_wp2
      go_ret
      exact ⟨rfl, hb0⟩
    · obtain rfl : z = 0 := by rw [← HZ.out]; simp [rcheck, h]
      have h' : 0 ≤ b := by omega
      go_enter Tryd.func35, Tryd.ntmps35
      go_wp2
      go_ret
      exact ⟨rfl, hb0⟩
  by_cases k1 : k = 1
  · subst k1
    by_cases h : s < 0 ∨ 1114111 < s
    · obtain rfl : z = 7 := by rw [← HZ.out]; simp [rcheck, h]
      have HW := fun w' => Lib.hid (gn_within s 0 1114111 w' false (by simp; omega))
      go_enter Tryd.func35, Tryd.ntmps35
      go_wp2_with (go_at_call 48; refine (HW _).out.mono ?_; rintro e w' ⟨rfl, rfl⟩)
      go_ret
      exact ⟨rfl, hb0⟩
    · obtain rfl : z = 0 := by rw [← HZ.out]; simp [rcheck, h]
      have HW := fun w' => Lib.hid (gn_within s 0 1114111 w' true (by simp; omega))
      go_enter Tryd.func35, Tryd.ntmps35
      go_wp2_with (go_at_call 48; refine (HW _).out.mono ?_; rintro e w' ⟨rfl, rfl⟩)
      go_ret
      exact ⟨rfl, hb0⟩
  by_cases k2 : k = 2
  · subst k2
    by_cases hp : p < 0 ∨ 100 < p
    · obtain rfl : z = 7 := by rw [← HZ.out]; simp [rcheck]; omega
      have HW := fun w' => Lib.hid (gn_within p 0 100 w' false (by simp; omega))
      clear HZ
      go_enter Tryd.func35, Tryd.ntmps35
      go_wp2_with (go_at_call 48; refine (HW _).out.mono ?_; rintro e w' ⟨rfl, rfl⟩)
      go_ret
      exact ⟨rfl, hb0⟩
    by_cases hn : n < 1 ∨ 4096 < n
    · obtain rfl : z = 7 := by rw [← HZ.out]; simp [rcheck]; omega
      have HW := fun w' => Lib.hid (gn_within p 0 100 w' true (by simp; omega))
      have HW2 := fun w' => Lib.hid (gn_within n 1 4096 w' false (by simp; omega))
      clear HZ
      go_enter Tryd.func35, Tryd.ntmps35
      go_wp2_with (first | (go_at_call 48; (with_reducible refine (HW _).out.mono ?_); rintro e w' ⟨rfl, rfl⟩) | (go_at_call 48; (with_reducible refine (HW2 _).out.mono ?_); rintro e w' ⟨rfl, rfl⟩))
      go_ret
      exact ⟨rfl, hb0⟩
    · obtain rfl : z = 0 := by rw [← HZ.out]; simp [rcheck]; omega
      have HW := fun w' => Lib.hid (gn_within p 0 100 w' true (by simp; omega))
      have HW2 := fun w' => Lib.hid (gn_within n 1 4096 w' true (by simp; omega))
      clear HZ
      go_enter Tryd.func35, Tryd.ntmps35
      go_wp2_with (first | (go_at_call 48; (with_reducible refine (HW _).out.mono ?_); rintro e w' ⟨rfl, rfl⟩) | (go_at_call 48; (with_reducible refine (HW2 _).out.mono ?_); rintro e w' ⟨rfl, rfl⟩))
      go_ret
      exact ⟨rfl, hb0⟩
  · obtain rfl : z = 3 := by rw [← HZ.out]; simp [rcheck, k0, k1, k2]
    have q0 : (k == 0) = false := by simpa using k0
    have q1 : (k == 1) = false := by simpa using k1
    have q2 : (k == 2) = false := by simpa using k2
    clear HZ
    go_enter Tryd.func35, Tryd.ntmps35
    go_wp2
    go_ret
    exact ⟨rfl, hb0⟩

set_option maxHeartbeats 2000000 in
theorem ref_check13 (r : Rul) (w : World) (z : Int) (hz : rcheck r = z) :
    Calls Tryd.prog 36 #[r.val] w fun e w' => e = .returned (.int .i64 z) ∧ Below w.heap.size w w' := by
  obtain ⟨k, b, p, n, s⟩ := r
  unfold Rul.val
  simp only
  have hA := At.alloc w [.int .i64 k, .int .i64 b, .int .i64 p, .int .i64 n, .int .i64 s] 31
  have hb0 : Below w.heap.size w (w.alloc (.cells #[.int .i64 k, .int .i64 b, .int .i64 p, .int .i64 n, .int .i64 s] 31)) := (Below.refl _ _).alloc (Nat.le_refl _) _
  obtain ⟨hg, c0, z0, c1, z1, c2, z2, c3, z3, c4, z4⟩ := hA.five
  clear hA z0 z1 z2 z3 z4
  have HZ := Lib.hid hz
  clear hz
  have q0 : k ≠ 0 → (k == 0) = false := fun h => by simpa using h
  have q1 : k ≠ 1 → (k == 1) = false := fun h => by simpa using h
  have q2 : k ≠ 2 → (k == 2) = false := fun h => by simpa using h
  by_cases k0 : k = 0
  · subst k0
    clear q0 q1 q2
    by_cases h : b < 0
    · obtain rfl : z = 7 := by rw [← HZ.out]; simp [rcheck, h]
      go_enter Tryd.func36, Tryd.ntmps36
      go_wp2
      go_ret
      exact ⟨rfl, hb0⟩
    · obtain rfl : z = 0 := by rw [← HZ.out]; simp [rcheck, h]
      have h' : 0 ≤ b := by omega
      go_enter Tryd.func36, Tryd.ntmps36
      go_wp2
      go_ret
      exact ⟨rfl, hb0⟩
  have q0 := q0 k0
  by_cases k1 : k = 1
  · subst k1
    clear q1 q2
    by_cases h : s < 0
    · obtain rfl : z = 7 := by rw [← HZ.out]; simp [rcheck, h]
      go_enter Tryd.func36, Tryd.ntmps36
      go_wp2
      go_ret
      exact ⟨rfl, hb0⟩
    have h' : 0 ≤ s := by omega
    by_cases h2 : 1114111 < s
    · obtain rfl : z = 7 := by rw [← HZ.out]; simp [rcheck, h2]
      go_enter Tryd.func36, Tryd.ntmps36
      go_wp2
      go_ret
      exact ⟨rfl, hb0⟩
    · obtain rfl : z = 0 := by rw [← HZ.out]; simp [rcheck]; omega
      have h2' : s ≤ 1114111 := by omega
      clear HZ
      go_enter Tryd.func36, Tryd.ntmps36
      go_wp2
      go_ret
      exact ⟨rfl, hb0⟩
  have q1 := q1 k1
  by_cases k2 : k = 2
  · subst k2
    clear q2 k0 k1
    by_cases hp : p < 0
    · obtain rfl : z = 7 := by rw [← HZ.out]; simp [rcheck]; omega
      clear HZ
      go_enter Tryd.func36, Tryd.ntmps36
      go_wp2
      go_ret
      exact ⟨rfl, hb0⟩
    have hp' : 0 ≤ p := by omega
    by_cases hp2 : 100 < p
    · obtain rfl : z = 7 := by rw [← HZ.out]; simp [rcheck]; omega
      clear HZ
      go_enter Tryd.func36, Tryd.ntmps36
      go_wp2
      go_ret
      exact ⟨rfl, hb0⟩
    have hp2' : p ≤ 100 := by omega
    by_cases hn : n < 1
    · obtain rfl : z = 7 := by rw [← HZ.out]; simp [rcheck]; omega
      clear HZ
      go_enter Tryd.func36, Tryd.ntmps36
      go_wp2
      go_ret
      exact ⟨rfl, hb0⟩
    have hn' : 1 ≤ n := by omega
    by_cases hn2 : 4096 < n
    · obtain rfl : z = 7 := by rw [← HZ.out]; simp [rcheck]; omega
      clear HZ
      go_enter Tryd.func36, Tryd.ntmps36
      go_wp2
      go_ret
      exact ⟨rfl, hb0⟩
    have hn2' : n ≤ 4096 := by omega
    obtain rfl : z = 0 := by rw [← HZ.out]; simp [rcheck]; omega
    clear HZ
    go_enter Tryd.func36, Tryd.ntmps36
    go_wp2
    go_ret
    exact ⟨rfl, hb0⟩
  · have q2 := q2 k2
    obtain rfl : z = 3 := by rw [← HZ.out]; simp [rcheck, k0, k1, k2]
    clear HZ
    go_enter Tryd.func36, Tryd.ntmps36
    go_wp2
    go_ret
    exact ⟨rfl, hb0⟩
end Go.Proofs.YtfgfjofbghfdpaaDoor
