/- Which rules can be told; two sources that are one; the error of a source. -/
import Derived.Test.YtfgfjofbghfdpaaDoorConf8
import Derived.Test.YtfgfjofbghfdpaaDoorRulChk
namespace Go.Proofs.YtfgfjofbghfdpaaDoor
set_option maxRecDepth 4000
open Go.ChangeShapes Go.WideShapes Go.ChangeAt Go.RowKit
open PWord
set_option linter.unusedVariables false
set_option linter.unusedSimpArgs false

set_option maxRecDepth 100000 in
set_option maxHeartbeats 4000000 in
theorem ref_only (r : Rul) (o : Bool) (ho : only r = o) (w : World) :
    Calls Tryd.prog 16 #[r.val] w fun e w' => e = .returned (.bool o) ∧ Below w.heap.size w w' := by
  have HO := Lib.hid ho
  clear ho
  obtain ⟨k, b, p, n, s⟩ := r
  unfold Rul.val
  simp only at *
  have hA := At.alloc w [.int .i64 k, .int .i64 b, .int .i64 p, .int .i64 n, .int .i64 s] 31
  have hb0 : Below w.heap.size w (w.alloc (.cells #[.int .i64 k, .int .i64 b, .int .i64 p, .int .i64 n, .int .i64 s] 31)) := (Below.refl _ _).alloc (Nat.le_refl _) _
  obtain ⟨hg, c0, z0, c1, z1, c2, z2, c3, z3, c4, z4⟩ := hA.five
  clear hA z0 z1 z2 z3 z4
  by_cases k0 : k = 0
  · subst k0
    by_cases e1 : s = 0
    · by_cases e2 : p = 0
      · by_cases e3 : n = 0
        · obtain rfl : o = true := by rw [← HO.out]; simp [only, e1, e2, e3]
          go_enter Tryd.func16, Tryd.ntmps16
          go_wp2
          go_ret
          exact ⟨by first | rfl | (refine ret_bool ?_; simp_all), (Below.refl _ _).alloc (Nat.le_refl _) _⟩
        · obtain rfl : o = false := by rw [← HO.out]; simp [only, e3]
          go_enter Tryd.func16, Tryd.ntmps16
          go_wp2
          go_ret
          exact ⟨by first | rfl | (refine ret_bool ?_; simp_all), (Below.refl _ _).alloc (Nat.le_refl _) _⟩
      · obtain rfl : o = false := by rw [← HO.out]; simp [only, e2]
        go_enter Tryd.func16, Tryd.ntmps16
        go_wp2
        go_ret
        exact ⟨by first | rfl | (refine ret_bool ?_; simp_all), (Below.refl _ _).alloc (Nat.le_refl _) _⟩
    · obtain rfl : o = false := by rw [← HO.out]; simp [only, e1]
      go_enter Tryd.func16, Tryd.ntmps16
      go_wp2
      go_ret
      exact ⟨by first | rfl | (refine ret_bool ?_; simp_all), (Below.refl _ _).alloc (Nat.le_refl _) _⟩
  by_cases k1 : k = 1
  · subst k1
    by_cases e1 : b = 0
    · by_cases e2 : p = 0
      · by_cases e3 : n = 0
        · obtain rfl : o = true := by rw [← HO.out]; simp [only, e1, e2, e3]
          go_enter Tryd.func16, Tryd.ntmps16
          go_wp2
          go_ret
          exact ⟨by first | rfl | (refine ret_bool ?_; simp_all), (Below.refl _ _).alloc (Nat.le_refl _) _⟩
        · obtain rfl : o = false := by rw [← HO.out]; simp [only, e3]
          go_enter Tryd.func16, Tryd.ntmps16
          go_wp2
          go_ret
          exact ⟨by first | rfl | (refine ret_bool ?_; simp_all), (Below.refl _ _).alloc (Nat.le_refl _) _⟩
      · obtain rfl : o = false := by rw [← HO.out]; simp [only, e2]
        go_enter Tryd.func16, Tryd.ntmps16
        go_wp2
        go_ret
        exact ⟨by first | rfl | (refine ret_bool ?_; simp_all), (Below.refl _ _).alloc (Nat.le_refl _) _⟩
    · obtain rfl : o = false := by rw [← HO.out]; simp [only, e1]
      go_enter Tryd.func16, Tryd.ntmps16
      go_wp2
      go_ret
      exact ⟨by first | rfl | (refine ret_bool ?_; simp_all), (Below.refl _ _).alloc (Nat.le_refl _) _⟩
  by_cases k2 : k = 2
  · subst k2
    by_cases e1 : b = 0
    · by_cases e2 : s = 0
      · obtain rfl : o = true := by rw [← HO.out]; simp [only, e1, e2]
        go_enter Tryd.func16, Tryd.ntmps16
        go_wp2
        go_ret
        exact ⟨by first | rfl | (refine ret_bool ?_; simp_all), (Below.refl _ _).alloc (Nat.le_refl _) _⟩
      · obtain rfl : o = false := by rw [← HO.out]; simp [only, e2]
        go_enter Tryd.func16, Tryd.ntmps16
        go_wp2
        go_ret
        exact ⟨by first | rfl | (refine ret_bool ?_; simp_all), (Below.refl _ _).alloc (Nat.le_refl _) _⟩
    · obtain rfl : o = false := by rw [← HO.out]; simp [only, e1]
      go_enter Tryd.func16, Tryd.ntmps16
      go_wp2
      go_ret
      exact ⟨by first | rfl | (refine ret_bool ?_; simp_all), (Below.refl _ _).alloc (Nat.le_refl _) _⟩
  obtain rfl : o = false := by rw [← HO.out]; simp [only, k0, k1, k2]
  go_enter Tryd.func16, Tryd.ntmps16
  go_wp2
  go_ret
  exact ⟨by first | rfl | (refine ret_bool ?_; simp_all), (Below.refl _ _).alloc (Nat.le_refl _) _⟩

set_option maxRecDepth 100000 in
set_option maxHeartbeats 4000000 in
/-- Two that are one. -/
theorem ref_same19 (rs : List Rul) (t d : Int) (a1 a2 : Option Addr) (n c1 c2 : Nat) (w : World) (h1 : RowU w a1 rs) (h2 : RowU w a2 rs) (hn : n = rs.length) (hl : n ≤ 10000) :
    Calls Tryd.prog 21 #[.agg #[.slice a1 n c1, .int .i64 t, .int .i64 d], .agg #[.slice a2 n c2, .int .i64 t, .int .i64 d]] w fun e w' => e = .returned (.bool true) ∧ Below w.heap.size w w' := by
  have HN := Lib.hid hn
  clear hn
  have hA := At.alloc w [.slice a1 n c1, .int .i64 t, .int .i64 d] 24
  have hb0 : Below w.heap.size w (w.alloc (.cells #[.slice a1 n c1, .int .i64 t, .int .i64 d] 24)) := (Below.refl _ _).alloc (Nat.le_refl _) _
  have hA1 := hA.on ((Below.refl _ _).alloc (Nat.le_refl _) (.cells #[.slice a2 n c2, .int .i64 t, .int .i64 d] 24))
  have hA2 := At.alloc (w.alloc (.cells #[.slice a1 n c1, .int .i64 t, .int .i64 d] 24)) [.slice a2 n c2, .int .i64 t, .int .i64 d] 24
  have hb2 := hb0.alloc (by simp) (.cells #[.slice a2 n c2, .int .i64 t, .int .i64 d] 24)
  rw [show (w.alloc (.cells #[.slice a1 n c1, .int .i64 t, .int .i64 d] 24)).heap.size = w.heap.size + 1 by simp] at hA2
  clear hA hb0
  go_enter Tryd.func21, Tryd.ntmps21
  go_wp2
  have hr1 := h1.below hb2
  have hr2 := h2.below hb2
  obtain ⟨hg1, c0, z0, q1, z1, q2, z2⟩ := hA1.three
  obtain ⟨hg2, d0, y0, s1, y1, s2, y2⟩ := hA2.three
  clear hA1 hA2 h1 h2 z0 z1 z2 y0 y1 y2 q1 q2 s1 s2
  generalize (w.alloc (.cells #[.slice a1 n c1, .int .i64 t, .int .i64 d] 24)).alloc (.cells #[.slice a2 n c2, .int .i64 t, .int .i64 d] 24) = w2 at *
  go_loopw [5] (fun i wr => ∃ k m : Nat, k ≤ n ∧ i = .int .i64 k ∧ wr = w2.drewN m) (fun i _ => n - (intOf i).toNat)
  case atStart => exact ⟨0, 0, Nat.zero_le _, rfl, rfl⟩
  case round =>
    obtain ⟨k, m, hk, rfl, rfl⟩ := hrel
    by_cases hlt : k < n
    · have hk1 : k < rs.length := by rw [← HN.out]; exact hlt
      obtain ⟨b1, o1, rfl, -, -⟩ := hr1.at_ k hk1
      obtain ⟨b2, o2, rfl, -, -⟩ := hr2.at_ k hk1
      obtain ⟨hbl1, p0, p1, p2, p3, p4⟩ := RowU.cells hr1 k hk1
      obtain ⟨hbl2, r0, r1, r2, r3, r4⟩ := RowU.cells hr2 k hk1
      clear hr1 hr2
      generalize rs[k] = r at *
      obtain ⟨rk, rb, rp, rn, rs'⟩ := r
      simp only at p0 p1 p2 p3 p4 r0 r1 r2 r3 r4
      clear hk1
      go_wp2
      go_region
      go_wp2
      go_roundw
      case rel => exact ⟨k + 1, m + 1, by omega, by go_num, rfl⟩
      case measure => simp [intOf]; omega
    · have hkn : k = n := by omega
      subst hkn
      go_wp2
      go_ret
      exact ⟨rfl, hb2.upd ((Upd.refl (fun _ => False) _).drewN m) hb2.size (fun _ _ h => h.elim)⟩

/-- The first error of rules, 0 of none. -/
def firstErr : List Rul → Int
  | [] => 0
  | r :: rs => if rcheck r ≠ 0 then rcheck r else firstErr rs
/-- The error of a source. -/
def ccheck (rs : List Rul) (t d : Int) : Int :=
  if rs.length < 1 ∨ 4096 < rs.length then 6 else if t < 1 ∨ d < 0 then 7 else firstErr rs
theorem firstErr_drop (rs : List Rul) (k : Nat) (hk : k < rs.length) : firstErr (rs.drop k) = if rcheck rs[k] ≠ 0 then rcheck rs[k] else firstErr (rs.drop (k + 1)) := by
  rw [List.drop_eq_getElem_cons hk]
  rfl

set_option maxRecDepth 100000 in
set_option maxHeartbeats 4000000 in
theorem ref_check19 (rs : List Rul) (t d : Int) (a : Option Addr) (n c : Nat) (w : World) (h1 : RowU w a rs) (hn : n = rs.length) (hl : n ≤ 10000) (z : Int) (hz : ccheck rs t d = z) :
    Calls Tryd.prog 13 #[.agg #[.slice a n c, .int .i64 t, .int .i64 d]] w fun e w' => e = .returned (.int .i64 z) ∧ Below w.heap.size w w' := by
  unfold ccheck at hz
  rw [← hn] at hz
  have HN := Lib.hid hn
  clear hn
  have hA := At.alloc w [.slice a n c, .int .i64 t, .int .i64 d] 24
  have hb0 : Below w.heap.size w (w.alloc (.cells #[.slice a n c, .int .i64 t, .int .i64 d] 24)) := (Below.refl _ _).alloc (Nat.le_refl _) _
  obtain ⟨hg, c0, z0, c1, z1, c2, z2⟩ := hA.three
  clear z0 z1 z2
  by_cases k0 : n < 1 ∨ 4096 < n
  · rw [if_pos k0] at hz
    subst hz
    by_cases k1 : n < 1
    · have k1' : (n : Int) < 1 := by omega
      clear k0 k1
      go_enter Tryd.func13, Tryd.ntmps13
      go_wp2
      go_ret
      exact ⟨rfl, hb0⟩
    · have k1' : ¬ (n : Int) < 1 := by omega
      have k2' : (4096 : Int) < n := by omega
      clear k0 k1
      go_enter Tryd.func13, Tryd.ntmps13
      go_wp2
      go_ret
      exact ⟨rfl, hb0⟩
  rw [if_neg k0] at hz
  have k1' : ¬ (n : Int) < 1 := by omega
  have k2' : ¬ (4096 : Int) < n := by omega
  clear k0
  by_cases k3 : t < 1 ∨ d < 0
  · rw [if_pos k3] at hz
    subst hz
    by_cases k4 : t < 1
    · clear k3
      go_enter Tryd.func13, Tryd.ntmps13
      go_wp2
      go_ret
      exact ⟨rfl, hb0⟩
    · have k5 : d < 0 := by omega
      clear k3
      go_enter Tryd.func13, Tryd.ntmps13
      go_wp2
      go_ret
      exact ⟨rfl, hb0⟩
  rw [if_neg k3] at hz
  have k4 : ¬ t < 1 := by omega
  have k5 : ¬ d < 0 := by omega
  have HZ : Hid (firstErr (rs.drop 0) = z) := hz
  clear k3 hz
  go_enter Tryd.func13, Tryd.ntmps13
  go_wp2
  generalize w.alloc (.cells #[.slice a n c, .int .i64 t, .int .i64 d] 24) = w2 at *
  go_loopw [3] (fun i wr => ∃ k : Nat, k ≤ n ∧ i = .int .i64 k ∧ Hid (firstErr (rs.drop k) = z) ∧ At wr w.heap.size [.slice a n c, .int .i64 t, .int .i64 d] ∧ Below w.heap.size w wr) (fun i _ => n - (intOf i).toNat)
  case atStart => exact ⟨0, Nat.zero_le _, rfl, HZ, hA, hb0⟩
  case round =>
    clear hA hb0 hg c0 c1 c2 HZ
    obtain ⟨k, hk, rfl, HZ, hAt, hb⟩ := hrel
    obtain ⟨hg, c0, z0, c1, z1, c2, z2⟩ := hAt.three
    clear z0 z1 z2
    by_cases hlt : k < n
    · have hk1 : k < rs.length := by rw [← HN.out]; exact hlt
      have hrow := h1.below hb
      obtain ⟨b1, o1, rfl, -, -⟩ := hrow.at_ k hk1
      obtain ⟨hbl1, p0, p1, p2, p3, p4⟩ := RowU.cells hrow k hk1
      have hz1 := HZ.out
      rw [firstErr_drop rs k hk1] at hz1
      have HC := fun (y : Int) (hy : rcheck rs[k] = y) => Lib.hid (ref_check13 rs[k] wr y hy)
      clear hrow
      generalize rs[k] = r at *
      obtain ⟨rk, rb, rp, rn, rs'⟩ := r
      simp only at p0 p1 p2 p3 p4
      by_cases he : rcheck ⟨rk, rb, rp, rn, rs'⟩ = 0
      · rw [if_neg (by simp [he])] at hz1
        have HZ1 := Lib.hid hz1
        have HC0 : Hid (Calls Tryd.prog 36 #[.agg #[.int .i64 rk, .int .i64 rb, .int .i64 rp, .int .i64 rn, .int .i64 rs']] wr fun e w' => e = .returned (.int .i64 0) ∧ Below wr.heap.size wr w') := HC 0 he
        clear HC he hz1 hk1 HZ
        go_wp2_with (go_at_call 36; (with_reducible refine HC0.out.mono ?_); rintro e w3 ⟨rfl, hb3⟩)
        go_roundw
        case rel => exact ⟨k + 1, by omega, by go_num, HZ1, hAt.on hb3, on_below hb hb3⟩
        case measure => simp [intOf]; omega
      · rw [if_pos he] at hz1
        have HC0 : Hid (Calls Tryd.prog 36 #[.agg #[.int .i64 rk, .int .i64 rb, .int .i64 rp, .int .i64 rn, .int .i64 rs']] wr fun e w' => e = .returned (.int .i64 z) ∧ Below wr.heap.size wr w') := HC z hz1
        have hz0 : (z == 0) = false := by simp; rw [← hz1]; exact he
        clear HC he hz1 hk1 HZ
        go_wp2_with (go_at_call 36; (with_reducible refine HC0.out.mono ?_); rintro e w3 ⟨rfl, hb3⟩)
        go_ret
        exact ⟨rfl, on_below hb hb3⟩
    · obtain rfl : k = n := by omega
      have hz1 := HZ.out
      rw [List.drop_of_length_le (by rw [← HN.out]; exact Nat.le_refl _)] at hz1
      obtain rfl : z = 0 := hz1.symm
      go_wp2
      go_ret
      exact ⟨rfl, hb⟩

set_option maxRecDepth 100000 in
set_option maxHeartbeats 4000000 in
theorem cf_check (rs : List Rul) (t d : Int) (a : Option Addr) (n c : Nat) (w : World) (h1 : RowU w a rs) (hn : n = rs.length) (hl : n ≤ 10000) (z : Int) (hz : ccheck rs t d = z) :
    Calls Tryd.prog 12 #[.agg #[.slice a n c, .int .i64 t, .int .i64 d]] w fun e w' => e = .returned (.int .i64 z) ∧ Below w.heap.size w w' := by
  unfold ccheck at hz
  rw [← hn] at hz
  have HN := Lib.hid hn
  clear hn
  have hA := At.alloc w [.slice a n c, .int .i64 t, .int .i64 d] 24
  have hb0 : Below w.heap.size w (w.alloc (.cells #[.slice a n c, .int .i64 t, .int .i64 d] 24)) := (Below.refl _ _).alloc (Nat.le_refl _) _
  obtain ⟨hg, c0, z0, c1, z1, c2, z2⟩ := hA.three
  clear z0 z1 z2
  by_cases k0 : n < 1 ∨ 4096 < n
  · rw [if_pos k0] at hz
    subst hz
    by_cases k1 : n < 1
    · have k1' : (n : Int) < 1 := by omega
      clear k0 k1
      go_enter Tryd.func12, Tryd.ntmps12
      go_wp2
      go_ret
      exact ⟨rfl, hb0⟩
    · have k1' : ¬ (n : Int) < 1 := by omega
      have k2' : (4096 : Int) < n := by omega
      clear k0 k1
      go_enter Tryd.func12, Tryd.ntmps12
      go_wp2
      go_ret
      exact ⟨rfl, hb0⟩
  rw [if_neg k0] at hz
  have k1' : ¬ (n : Int) < 1 := by omega
  have k2' : ¬ (4096 : Int) < n := by omega
  clear k0
  by_cases k3 : t < 1 ∨ d < 0
  · rw [if_pos k3] at hz
    subst hz
    by_cases k4 : t < 1
    · clear k3
      go_enter Tryd.func12, Tryd.ntmps12
      go_wp2
      go_ret
      exact ⟨rfl, hb0⟩
    · have k5 : d < 0 := by omega
      clear k3
      go_enter Tryd.func12, Tryd.ntmps12
      go_wp2
      go_ret
      exact ⟨rfl, hb0⟩
  rw [if_neg k3] at hz
  have k4 : ¬ t < 1 := by omega
  have k5 : ¬ d < 0 := by omega
  have HZ : Hid (firstErr (rs.drop 0) = z) := hz
  clear k3 hz
  go_enter Tryd.func12, Tryd.ntmps12
  go_wp2
  generalize w.alloc (.cells #[.slice a n c, .int .i64 t, .int .i64 d] 24) = w2 at *
  go_loopw [27] (fun i wr => ∃ k : Nat, k ≤ n ∧ i = .int .i64 k ∧ Hid (firstErr (rs.drop k) = z) ∧ Below w.heap.size w wr) (fun i _ => n - (intOf i).toNat)
  case atStart => exact ⟨0, Nat.zero_le _, rfl, HZ, hb0⟩
  case round =>
    clear hA hb0 hg c0 c1 c2 HZ
    obtain ⟨k, hk, rfl, HZ, hb⟩ := hrel
    by_cases hlt : k < n
    · have hk1 : k < rs.length := by rw [← HN.out]; exact hlt
      have hrow := h1.below hb
      obtain ⟨b1, o1, rfl, -, -⟩ := hrow.at_ k hk1
      obtain ⟨hbl1, p0, p1, p2, p3, p4⟩ := RowU.cells hrow k hk1
      have hz1 := HZ.out
      rw [firstErr_drop rs k hk1] at hz1
      have HC := fun (y : Int) (hy : rcheck rs[k] = y) (w : World) => Lib.hid (gn_check rs[k] w y hy)
      clear hrow
      generalize rs[k] = r at *
      obtain ⟨rk, rb, rp, rn, rs'⟩ := r
      simp only at p0 p1 p2 p3 p4
      have hbx := hb.alloc hb.size (.cells #[.int .i64 rk, .int .i64 rb, .int .i64 rp, .int .i64 rn, .int .i64 rs'] 31)
      by_cases he : rcheck ⟨rk, rb, rp, rn, rs'⟩ = 0
      · rw [if_neg (by simp [he])] at hz1
        have HZ1 := Lib.hid hz1
        have HC0 : ∀ w, Hid (Calls Tryd.prog 35 #[.agg #[.int .i64 rk, .int .i64 rb, .int .i64 rp, .int .i64 rn, .int .i64 rs']] w fun e w' => e = .returned (.int .i64 0) ∧ Below w.heap.size w w') := HC 0 he
        clear HC he hz1 hk1 HZ
        go_wp2_with (go_at_call 35; (with_reducible refine (HC0 _).out.mono ?_); rintro e w3 ⟨rfl, hb3⟩)
        go_roundw
        case rel => exact ⟨k + 1, by omega, by go_num, HZ1, on_below hbx hb3⟩
        case measure => simp [intOf]; omega
      · rw [if_pos he] at hz1
        have HC0 : ∀ w, Hid (Calls Tryd.prog 35 #[.agg #[.int .i64 rk, .int .i64 rb, .int .i64 rp, .int .i64 rn, .int .i64 rs']] w fun e w' => e = .returned (.int .i64 z) ∧ Below w.heap.size w w') := HC z hz1
        have hz0 : (z == 0) = false := by simp; rw [← hz1]; exact he
        clear HC he hz1 hk1 HZ
        go_wp2_with (go_at_call 35; (with_reducible refine (HC0 _).out.mono ?_); rintro e w3 ⟨rfl, hb3⟩)
        go_ret
        exact ⟨rfl, on_below hbx hb3⟩
    · obtain rfl : k = n := by omega
      have hz1 := HZ.out
      rw [List.drop_of_length_le (by rw [← HN.out]; exact Nat.le_refl _)] at hz1
      obtain rfl : z = 0 := hz1.symm
      go_wp2
      go_ret
      exact ⟨rfl, hb⟩
end Go.Proofs.YtfgfjofbghfdpaaDoor
