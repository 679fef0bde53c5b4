/- gen: Check, Of and Slack; the document's Check. -/
import Derived.Test.YteimpeeghjeogaaGen
namespace Go.Proofs.Yteimpeeghjeogaa
set_option maxRecDepth 4000
open Go.ChangeShapes Go.WideShapes Go.ChangeAt Go.RowKit
open PHist PRing PSat PClamp PBound PFrame PSign
set_option linter.unusedVariables false
set_option linter.unusedSimpArgs false

set_option maxHeartbeats 400000 in
theorem gn_within (n a b : Int) (w : World) (o : Bool) (ho : decide (a ≤ n ∧ n ≤ b) = o) :
    Calls Try.prog 24 #[.int .i64 n, .int .i64 a, .int .i64 b] w fun e w' => e = .returned (.bool o) ∧ w = w' := by
  subst ho
  by_cases h1 : a ≤ n
  · by_cases h2 : n ≤ b
    · go_enter Try.func24, Try.ntmps24
      go_wp2
      go_ret
      exact ⟨ret_bool (by simp [h1, h2]), rfl⟩
    · have h2' : b < n := by omega
      go_enter Try.func24, Try.ntmps24
      go_wp2
      go_ret
      exact ⟨ret_bool (by simp [h1, h2]), rfl⟩
  · have h1' : n < a := by omega
    go_enter Try.func24, Try.ntmps24
    go_wp2
    go_ret
    exact ⟨ret_bool (by simp; omega), rfl⟩

set_option maxHeartbeats 2000000 in
theorem gn_check (r : Rul) (w : World) (z : Int) (hz : rcheck r = z) :
    Calls Try.prog 11 #[r.val] w fun e w' => e = .returned (.int .i64 z) ∧ Below w.heap.size w w' := by
  obtain ⟨k, b, p, n, s⟩ := r
  unfold Rul.val
  simp only
  have hA := At.alloc w [.int .i64 k, .int .i64 b, .int .i64 p, .int .i64 n, .int .i64 s] 23
  have hb0 : Below w.heap.size w (w.alloc (.cells #[.int .i64 k, .int .i64 b, .int .i64 p, .int .i64 n, .int .i64 s] 23)) := (Below.refl _ _).alloc (Nat.le_refl _) _
  obtain ⟨hg, c0, z0, c1, z1, c2, z2, c3, z3, c4, z4⟩ := hA.five
  clear hA z0 z1 z2 z3 z4
  have HZ := Lib.hid hz
  clear hz
  by_cases k0 : k = 0
  · subst k0
    by_cases h : b < 0
    · obtain rfl : z = 7 := by rw [← HZ.out]; simp [rcheck, h]
      have hd : decide (0 ≤ b) = false := by simp; omega
      go_enter Try.func11, Try.ntmps11
      go_wp2
      go_ret
      exact ⟨rfl, hb0⟩
    · obtain rfl : z = 0 := by rw [← HZ.out]; simp [rcheck, h]
      have h' : 0 ≤ b := by omega
      go_enter Try.func11, Try.ntmps11
      go_wp2
      go_ret
      exact ⟨rfl, hb0⟩
  by_cases k1 : k = 1
  · subst k1
    by_cases h : s < 0 ∨ 1114111 < s
    · obtain rfl : z = 7 := by rw [← HZ.out]; simp [rcheck, h]
      have HW := fun w' => Lib.hid (gn_within s 0 1114111 w' false (by simp; omega))
      go_enter Try.func11, Try.ntmps11
      go_wp2_with (go_at_call 24; refine (HW _).out.mono ?_; rintro e w' ⟨rfl, rfl⟩)
      go_ret
      exact ⟨rfl, hb0⟩
    · obtain rfl : z = 0 := by rw [← HZ.out]; simp [rcheck, h]
      have HW := fun w' => Lib.hid (gn_within s 0 1114111 w' true (by simp; omega))
      go_enter Try.func11, Try.ntmps11
      go_wp2_with (go_at_call 24; refine (HW _).out.mono ?_; rintro e w' ⟨rfl, rfl⟩)
      go_ret
      exact ⟨rfl, hb0⟩
  by_cases k2 : k = 2
  · subst k2
    by_cases hp : p < 0 ∨ 100 < p
    · obtain rfl : z = 7 := by rw [← HZ.out]; simp [rcheck]; omega
      have HW := fun w' => Lib.hid (gn_within p 0 100 w' false (by simp; omega))
      clear HZ
      go_enter Try.func11, Try.ntmps11
      go_wp2_with (go_at_call 24; refine (HW _).out.mono ?_; rintro e w' ⟨rfl, rfl⟩)
      go_ret
      exact ⟨rfl, hb0⟩
    by_cases hn : n < 1 ∨ 4096 < n
    · obtain rfl : z = 7 := by rw [← HZ.out]; simp [rcheck]; omega
      have HW := fun w' => Lib.hid (gn_within p 0 100 w' true (by simp; omega))
      have HW2 := fun w' => Lib.hid (gn_within n 1 4096 w' false (by simp; omega))
      clear HZ
      go_enter Try.func11, Try.ntmps11
      go_wp2_with (first | (go_at_call 24; (with_reducible refine (HW _).out.mono ?_); rintro e w' ⟨rfl, rfl⟩) | (go_at_call 24; (with_reducible refine (HW2 _).out.mono ?_); rintro e w' ⟨rfl, rfl⟩))
      go_ret
      exact ⟨rfl, hb0⟩
    · obtain rfl : z = 0 := by rw [← HZ.out]; simp [rcheck]; omega
      have HW := fun w' => Lib.hid (gn_within p 0 100 w' true (by simp; omega))
      have HW2 := fun w' => Lib.hid (gn_within n 1 4096 w' true (by simp; omega))
      clear HZ
      go_enter Try.func11, Try.ntmps11
      go_wp2_with (first | (go_at_call 24; (with_reducible refine (HW _).out.mono ?_); rintro e w' ⟨rfl, rfl⟩) | (go_at_call 24; (with_reducible refine (HW2 _).out.mono ?_); rintro e w' ⟨rfl, rfl⟩))
      go_ret
      exact ⟨rfl, hb0⟩
  · obtain rfl : z = 3 := by rw [← HZ.out]; simp [rcheck, k0, k1, k2]
    have q0 : (k == 0) = false := by simpa using k0
    have q1 : (k == 1) = false := by simpa using k1
    have q2 : (k == 2) = false := by simpa using k2
    clear HZ
    go_enter Try.func11, Try.ntmps11
    go_wp2
    go_ret
    exact ⟨rfl, hb0⟩

set_option maxHeartbeats 2000000 in
theorem ref_check13 (r : Rul) (w : World) (z : Int) (hz : rcheck r = z) :
    Calls Try.prog 10 #[r.val] w fun e w' => e = .returned (.int .i64 z) ∧ Below w.heap.size w w' := by
  obtain ⟨k, b, p, n, s⟩ := r
  unfold Rul.val
  simp only
  have hA := At.alloc w [.int .i64 k, .int .i64 b, .int .i64 p, .int .i64 n, .int .i64 s] 23
  have hb0 : Below w.heap.size w (w.alloc (.cells #[.int .i64 k, .int .i64 b, .int .i64 p, .int .i64 n, .int .i64 s] 23)) := (Below.refl _ _).alloc (Nat.le_refl _) _
  obtain ⟨hg, c0, z0, c1, z1, c2, z2, c3, z3, c4, z4⟩ := hA.five
  clear hA z0 z1 z2 z3 z4
  have HZ := Lib.hid hz
  clear hz
  have q0 : k ≠ 0 → (k == 0) = false := fun h => by simpa using h
  have q1 : k ≠ 1 → (k == 1) = false := fun h => by simpa using h
  have q2 : k ≠ 2 → (k == 2) = false := fun h => by simpa using h
  by_cases k0 : k = 0
  · subst k0
    clear q0 q1 q2
    by_cases h : b < 0
    · obtain rfl : z = 7 := by rw [← HZ.out]; simp [rcheck, h]
      go_enter Try.func10, Try.ntmps10
      go_wp2
      go_ret
      exact ⟨rfl, hb0⟩
    · obtain rfl : z = 0 := by rw [← HZ.out]; simp [rcheck, h]
      have h' : 0 ≤ b := by omega
      go_enter Try.func10, Try.ntmps10
      go_wp2
      go_ret
      exact ⟨rfl, hb0⟩
  have q0 := q0 k0
  by_cases k1 : k = 1
  · subst k1
    clear q1 q2
    by_cases h : s < 0
    · obtain rfl : z = 7 := by rw [← HZ.out]; simp [rcheck, h]
      go_enter Try.func10, Try.ntmps10
      go_wp2
      go_ret
      exact ⟨rfl, hb0⟩
    have h' : 0 ≤ s := by omega
    by_cases h2 : 1114111 < s
    · obtain rfl : z = 7 := by rw [← HZ.out]; simp [rcheck, h2]
      go_enter Try.func10, Try.ntmps10
      go_wp2
      go_ret
      exact ⟨rfl, hb0⟩
    · obtain rfl : z = 0 := by rw [← HZ.out]; simp [rcheck]; omega
      have h2' : s ≤ 1114111 := by omega
      clear HZ
      go_enter Try.func10, Try.ntmps10
      go_wp2
      go_ret
      exact ⟨rfl, hb0⟩
  have q1 := q1 k1
  by_cases k2 : k = 2
  · subst k2
    clear q2 k0 k1
    by_cases hp : p < 0
    · obtain rfl : z = 7 := by rw [← HZ.out]; simp [rcheck]; omega
      clear HZ
      go_enter Try.func10, Try.ntmps10
      go_wp2
      go_ret
      exact ⟨rfl, hb0⟩
    have hp' : 0 ≤ p := by omega
    by_cases hp2 : 100 < p
    · obtain rfl : z = 7 := by rw [← HZ.out]; simp [rcheck]; omega
      clear HZ
      go_enter Try.func10, Try.ntmps10
      go_wp2
      go_ret
      exact ⟨rfl, hb0⟩
    have hp2' : p ≤ 100 := by omega
    by_cases hn : n < 1
    · obtain rfl : z = 7 := by rw [← HZ.out]; simp [rcheck]; omega
      clear HZ
      go_enter Try.func10, Try.ntmps10
      go_wp2
      go_ret
      exact ⟨rfl, hb0⟩
    have hn' : 1 ≤ n := by omega
    by_cases hn2 : 4096 < n
    · obtain rfl : z = 7 := by rw [← HZ.out]; simp [rcheck]; omega
      clear HZ
      go_enter Try.func10, Try.ntmps10
      go_wp2
      go_ret
      exact ⟨rfl, hb0⟩
    have hn2' : n ≤ 4096 := by omega
    obtain rfl : z = 0 := by rw [← HZ.out]; simp [rcheck]; omega
    clear HZ
    go_enter Try.func10, Try.ntmps10
    go_wp2
    go_ret
    exact ⟨rfl, hb0⟩
  · have q2 := q2 k2
    obtain rfl : z = 3 := by rw [← HZ.out]; simp [rcheck, k0, k1, k2]
    clear HZ
    go_enter Try.func10, Try.ntmps10
    go_wp2
    go_ret
    exact ⟨rfl, hb0⟩

/-- What Of answers: a way that nothing has come to as yet. -/
def OfPost (r : Rul) (w : World) (e : Ending) (w' : World) : Prop :=
  ∃ t g S, e = .returned (.tuple #[.iface t (.pointer (some ⟨g, 0, none⟩)), .int .i64 0]) ∧ GenC w' S t g r [] ∧ (∀ k, S k → w.heap.size ≤ k) ∧ Below w.heap.size w w'

set_option maxHeartbeats 2000000 in
theorem gn_of_none (r : Rul) (w : World) (z : Int) (hz : rcheck r = z) (h0 : z ≠ 0) :
    Calls Try.prog 9 #[r.val] w fun e w' => e = .returned (.tuple #[.nilIface, .int .i64 z]) ∧ Below w.heap.size w w' := by
  have HC := fun w' => Lib.hid (gn_check r w' z hz)
  obtain ⟨k, b, p, n, s⟩ := r
  unfold Rul.val at *
  simp only at *
  have hA := At.alloc w [.int .i64 k, .int .i64 b, .int .i64 p, .int .i64 n, .int .i64 s] 23
  have hb0 : Below w.heap.size w (w.alloc (.cells #[.int .i64 k, .int .i64 b, .int .i64 p, .int .i64 n, .int .i64 s] 23)) := (Below.refl _ _).alloc (Nat.le_refl _) _
  obtain ⟨hg, c0, z0, c1, z1, c2, z2, c3, z3, c4, z4⟩ := hA.five
  have hz0 : (z != 0) = true := by simpa using h0
  clear hA hz
  go_enter Try.func9, Try.ntmps9
  go_wp2_with (go_at_call 11; refine (HC _).out.mono ?_; rintro e w1 ⟨rfl, hb1⟩)
  go_ret2
  exact ⟨rfl, on_below hb0 hb1⟩

set_option maxHeartbeats 2000000 in
theorem gn_of (r : Rul) (w : World) (hok : rcheck r = 0) : Calls Try.prog 9 #[r.val] w (OfPost r w) := by
  have HC := fun w' => Lib.hid (gn_check r w' 0 hok)
  have HK := rcheck_some hok
  obtain ⟨k, b, p, n, s⟩ := r
  have hA := At.alloc w [.int .i64 k, .int .i64 b, .int .i64 p, .int .i64 n, .int .i64 s] 23
  have hb0 : Below w.heap.size w (w.alloc (.cells #[.int .i64 k, .int .i64 b, .int .i64 p, .int .i64 n, .int .i64 s] 23)) := (Below.refl _ _).alloc (Nat.le_refl _) _
  have HA := Lib.hid hA
  unfold Rul.val at *
  simp only at *
  clear hA
  rcases HK with ⟨rfl, h1⟩ | ⟨rfl, h1, h2⟩ | ⟨rfl, ⟨h1, h2⟩, h3, h4⟩
  · have HN := fun w' => Lib.hid (bo_new b w')
    have HV := Lib.hid (after_never h1)
    go_enter Try.func9, Try.ntmps9
    go_wp2_with (go_at_call 11; refine (HC _).out.mono ?_; rintro e w1 ⟨rfl, hb1⟩; obtain ⟨hg, c0, z0, c1, z1, c2, z2, c3, z3, c4, z4⟩ := (HA.out.on hb1).five)
    go_wp2_with (go_at_call 21; refine (HN _).out.mono ?_; rintro e w2 ⟨rfl, rfl⟩)
    go_ret2
    have hbw := on_below hb0 hb1
    refine ⟨_, _, fun j => j = w1.heap.size, rfl, .inl ⟨rfl, rfl, fun _ => Iff.rfl, ?_⟩, fun j hj => by rw [hj]; exact hbw.size, hbw.alloc hbw.size _⟩
    show ClampC _ _ (after (-9223372036854775808) b) [.int .i64 b]
    rw [HV.out]
    exact ClampC.made w1 [.int .i64 b] _
  · have HN := fun w' => Lib.hid (pu_new s w')
    go_enter Try.func9, Try.ntmps9
    go_wp2_with (go_at_call 11; refine (HC _).out.mono ?_; rintro e w1 ⟨rfl, hb1⟩; obtain ⟨hg, c0, z0, c1, z1, c2, z2, c3, z3, c4, z4⟩ := (HA.out.on hb1).five)
    go_wp2_with (go_at_call 22; refine (HN _).out.mono ?_; rintro e w2 ⟨rfl, rfl⟩)
    go_ret2
    have hbw := on_below hb0 hb1
    exact ⟨_, _, fun j => j = w1.heap.size, rfl, .inr (.inl ⟨rfl, rfl, fun _ => Iff.rfl, ClampC.made w1 [.int .i64 s] _⟩), fun j hj => by rw [hj]; exact hbw.size, hbw.alloc hbw.size _⟩
  · have HN := fun w' => Lib.hid (pc_new p n n.toNat (by omega) (by omega) (by omega) w')
    have hpp : (p.toNat : Int) = p := by omega
    have HP := Lib.hid hpp
    clear hpp
    go_enter Try.func9, Try.ntmps9
    go_wp2_with (go_at_call 11; refine (HC _).out.mono ?_; rintro e w1 ⟨rfl, hb1⟩; obtain ⟨hg, c0, z0, c1, z1, c2, z2, c3, z3, c4, z4⟩ := (HA.out.on hb1).five)
    go_wp2_with (go_at_call 23; refine (HN _).out.mono ?_; rintro e w2 ⟨g, S, rfl, hp1, hS1, hb2⟩)
    go_ret2
    have hbw := on_below hb0 hb1
    have hbw2 := on_below hbw hb2
    refine ⟨_, _, S, rfl, .inr (.inr ⟨rfl, rfl, ?_⟩), fun j hj => Nat.le_trans hbw.size (hS1 j hj), hbw2⟩
    rw [← HP.out] at hp1
    exact perAt_zero [] hp1

theorem ta_b_yes (g : Nat) (w : World) : (Instr.typeAssert (.iface 52 (.pointer (some ⟨g, 0, none⟩))) 26 52 true).run Try.prog w = .ok (.tuple #[.pointer (some ⟨g, 0, none⟩), .bool true]) w := by kernel_rfl
theorem ta_b_no1 (g : Nat) (w : World) : (Instr.typeAssert (.iface 54 (.pointer (some ⟨g, 0, none⟩))) 26 52 true).run Try.prog w = .ok (.tuple #[.pointer none, .bool false]) w := by kernel_rfl
theorem ta_b_no2 (g : Nat) (w : World) : (Instr.typeAssert (.iface 56 (.pointer (some ⟨g, 0, none⟩))) 26 52 true).run Try.prog w = .ok (.tuple #[.pointer none, .bool false]) w := by kernel_rfl
theorem ta_p_yes (g : Nat) (w : World) : (Instr.typeAssert (.iface 56 (.pointer (some ⟨g, 0, none⟩))) 26 56 true).run Try.prog w = .ok (.tuple #[.pointer (some ⟨g, 0, none⟩), .bool true]) w := by kernel_rfl
theorem ta_p_no1 (g : Nat) (w : World) : (Instr.typeAssert (.iface 54 (.pointer (some ⟨g, 0, none⟩))) 26 56 true).run Try.prog w = .ok (.tuple #[.pointer none, .bool false]) w := by kernel_rfl

set_option maxHeartbeats 1000000 in
theorem gn_slack (S : Nat → Prop) (t : TypeId) (g : Nat) (r : Rul) (l : List R) (w : World) (h : GenC w S t g r l) (hok : rcheck r = 0) (hl : l.length ≤ 800) (z : Int) (hz : gslack r l = z) (o : Bool) (ho : decide (r.kind ≠ 1) = o) :
    Calls Try.prog 12 #[.iface t (.pointer (some ⟨g, 0, none⟩))] w fun e w' => e = .returned (.tuple #[.int .i64 z, .bool o]) ∧ Below w.heap.size w w' := by
  unfold gslack at hz
  rcases h with ⟨h1, rfl, h3, h4⟩ | ⟨h1, rfl, h3, h4⟩ | ⟨h1, rfl, h3⟩
  · rw [if_pos h1] at hz
    obtain rfl : o = true := by rw [← ho]; simp [h1]
    subst hz
    have HB := Lib.hid (bo_bound g _ r.bound w h4)
    have t1 := ta_b_yes g
    clear h4 h3 h1 ho
    generalize r.bound = b at *
    go_enter Try.func12, Try.ntmps12
    go_wp2_with (go_at_call 25; refine HB.out.mono ?_; rintro e w' ⟨rfl, rfl⟩)
    go_ret2
    exact ⟨rfl, Below.refl _ _⟩
  · rw [if_neg (by omega), if_pos h1] at hz
    obtain rfl : o = false := by rw [← ho]; simp [h1]
    subst hz
    have t1 := ta_b_no1 g
    have t2 := ta_p_no1 g
    clear h4 h3 h1 ho
    go_enter Try.func12, Try.ntmps12
    go_wp2
    go_ret2
    exact ⟨rfl, Below.refl _ _⟩
  · rw [if_neg (by omega), if_neg (by omega)] at hz
    obtain rfl : o = true := by rw [← ho]; simp [h1]
    have hp : r.pct.toNat ≤ 100 := by rcases rcheck_some hok with h | h | h <;> omega
    have HL := pc_at_lag S g _ _ _ _ w h3 hp (by rw [times_len]; exact hl)
    rw [← times_len l, List.take_length, hz] at HL
    have HL := Lib.hid HL
    have t1 := ta_b_no2 g
    have t2 := ta_p_yes g
    clear h3 h1 ho hz hp hok
    go_enter Try.func12, Try.ntmps12
    go_wp2_with (go_at_call 26; refine HL.out.mono ?_; rintro e w' ⟨rfl, hb⟩)
    go_ret2
    exact ⟨rfl, hb⟩
end Go.Proofs.Yteimpeeghjeogaa
