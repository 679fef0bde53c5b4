/- The document's own signs, and its text in marks. -/
import Derived.Test.YtcigklninmddaaaGreatDoorQQuote
import Derived.Deep.OwnRows
namespace Go.Proofs.YtcigklninmddaaaGreatDoor
set_option maxRecDepth 4000
open Go.ChangeShapes Go.WideShapes Go.ChangeAt Go.RowKit
open PSign PHex PQuote
set_option linter.unusedVariables false

set_option maxRecDepth 100000 in
set_option maxHeartbeats 400000 in
theorem ref_more (t : ByteArray) (k : Nat) (w : World) (hs : t.size ≤ 4096) (hk : k ≤ 4) :
    Calls Tryz.prog 84 #[.string t, .int .i64 k] w fun e w' => e = .returned (.int .i64 (if con t.data.toList k then ((byt t.data.toList k : Int) - 128) else -1)) ∧ w = w' := by
  have hlen : t.data.toList.length = t.size := by simp
  by_cases hlt : k < t.size
  · have hb := byt_get t k hlt
    have hb2 := byt_lt t.data.toList k
    have hc : con t.data.toList k ↔ 128 ≤ byt t.data.toList k ∧ byt t.data.toList k < 192 := by rw [con_iff, hlen]; simp [hlt]
    generalize byt t.data.toList k = b at *
    by_cases h1 : b < 128
    · have hr : (if con t.data.toList k then ((b : Int) - 128) else -1) = -1 := if_neg (by rw [hc]; omega)
      rw [hr]
      have h1' : (b : Int) < 128 := by omega
      clear hc hr h1 hb2 hs hk
      go_enter Tryz.func84, Tryz.ntmps84
      go_wp2
      go_ret
      exact ⟨rfl, rfl⟩
    · by_cases h2 : b < 192
      · have hr : (if con t.data.toList k then ((b : Int) - 128) else -1) = (b : Int) - 128 := if_pos (by rw [hc]; omega)
        rw [hr]
        have h1' : ¬ (b : Int) < 128 := by omega
        have h2' : (b : Int) < 192 := by omega
        have h3' : (128 : Int) ≤ (b : Int) := by omega
        have h4' : IntKind.i64.wrap ((b : Int) - 128) = (b : Int) - 128 := by rw [IntKind.wrap_i64]; omega
        clear hc hr h1 h2 hb2 hs hk
        go_enter Tryz.func84, Tryz.ntmps84
        go_wp2
        go_ret
        exact ⟨rfl, rfl⟩
      · have hr : (if con t.data.toList k then ((b : Int) - 128) else -1) = -1 := if_neg (by rw [hc]; omega)
        rw [hr]
        have h1' : ¬ (b : Int) < 128 := by omega
        have h2' : ¬ (b : Int) < 192 := by omega
        clear hc hr h1 h2 hb2 hs hk
        go_enter Tryz.func84, Tryz.ntmps84
        go_wp2
        go_ret
        exact ⟨rfl, rfl⟩
  · have hr : (if con t.data.toList k then ((byt t.data.toList k : Int) - 128) else -1) = -1 := if_neg (by rw [con_iff, hlen]; omega)
    rw [hr]
    clear hr hlen
    go_enter Tryz.func84, Tryz.ntmps84
    go_wp2
    go_ret
    exact ⟨rfl, rfl⟩

def accn (l : List UInt8) (n0 : Nat) : Nat → Nat
  | 0 => n0
  | k + 1 => accn l n0 k * 64 + (byt l (k + 1) - 128)

theorem fit_small {n least m : Nat} (h : n < least ∨ 1114111 < n ∨ (55296 ≤ n ∧ n ≤ 57343)) : fit n least m = (0, 0) := by unfold fit; rw [if_pos h]
theorem fit_ok {n least m : Nat} (h : ¬ (n < least ∨ 1114111 < n ∨ (55296 ≤ n ∧ n ≤ 57343))) : fit n least m = (n, m) := by unfold fit; rw [if_neg h]
theorem first_2 (l : List UInt8) (h1 : 192 ≤ byt l 0) (h2 : byt l 0 < 224) : first l = if con l 1 then fit (accn l (byt l 0 - 192) 1) 128 2 else (0, 0) := by
  unfold first
  rw [if_neg (by omega), if_pos ⟨h1, h2⟩]; rfl
theorem first_3 (l : List UInt8) (h1 : 224 ≤ byt l 0) (h2 : byt l 0 < 240) : first l = if con l 1 ∧ con l 2 then fit (accn l (byt l 0 - 224) 2) 2048 3 else (0, 0) := by
  unfold first
  rw [if_neg (by omega), if_neg (by omega), if_pos ⟨h1, h2⟩]; rfl
theorem first_4 (l : List UInt8) (h1 : 240 ≤ byt l 0) (h2 : byt l 0 < 248) : first l = if con l 1 ∧ con l 2 ∧ con l 3 then fit (accn l (byt l 0 - 240) 3) 65536 4 else (0, 0) := by
  unfold first
  rw [if_neg (by omega), if_neg (by omega), if_neg (by omega), if_pos ⟨h1, h2⟩]; rfl
theorem ret_two {a b : Int} {f : Nat × Nat} (h1 : a = f.1) (h2 : b = f.2) : Ending.returned (.tuple #[.int .i64 a, .int .i64 b]) = .returned (.tuple #[.int .i64 (f.1 : Nat), .int .i64 (f.2 : Nat)]) := by rw [h1, h2]


set_option maxRecDepth 100000 in
set_option maxHeartbeats 1000000 in
theorem ref_first2 (t : ByteArray) (w : World) (hs : t.size ≤ 4096) (hne : 0 < t.size) (h1 : 192 ≤ byt t.data.toList 0) (h2 : byt t.data.toList 0 < 224) :
    Calls Tryz.prog 62 #[.string t] w fun e w' => e = .returned (.tuple #[.int .i64 ((first t.data.toList).1 : Nat), .int .i64 ((first t.data.toList).2 : Nat)]) ∧ w = w' := by
  have hb := byt_get t 0 hne
  have hF := first_2 t.data.toList h1 h2
  have hmore := fun k w hk => ref_more t k w hs hk
  have HM := Lib.hid hmore
  have HF := Lib.hid hF
  have hn0 : accn t.data.toList (byt t.data.toList 0 - 192) 0 = byt t.data.toList 0 - 192 := rfl
  have hacc : ∀ k, accn t.data.toList (byt t.data.toList 0 - 192) (k + 1) = accn t.data.toList (byt t.data.toList 0 - 192) k * 64 + (byt t.data.toList (k + 1) - 128) := fun k => rfl
  have HACC := Lib.hid hacc
  have HN0 := Lib.hid hn0
  clear hmore hF hacc hn0
  generalize t.data.toList = l at *
  generalize hc : byt l 0 = c at *
  have HC := Lib.hid hc
  clear hc
  have k1 : ((192 : Int) ≤ (c : Int)) := by omega
  have k2 : ((c : Int) < 224) := by omega
  have k3 : (c : Int) - 192 = ((c - 192 : Nat) : Int) := by omega
  have hcb : c - 192 ≤ 31 := by omega
  clear h1 h2
  go_enter Tryz.func62, Tryz.ntmps62
  go_wp2
  go_loop [6, 8] (fun n i => ∃ k x : Nat, k + 1 ≤ 2 ∧ i = .int .i64 ((k : Int) + 1) ∧ n = .int .i64 x ∧ x < 32 * 64 ^ k ∧ Hid (x = accn l (c - 192) k) ∧ Hid (∀ j, j < k → con l (j + 1))) (fun _ i => 2 - (intOf i).toNat)
  case atStart => exact ⟨0, c - 192, by omega, rfl, by go_num, by omega, HN0.out.symm, fun j hj => by omega⟩
  case round =>
    obtain ⟨k, x, hk, rfl, rfl, hx, HX, HJ⟩ := hrel
    by_cases hlt : k + 1 < 2
    · have hlI : (k : Int) + 1 < 2 := by omega
      have hx64 : x < 32 * 64 ^ 3 := Nat.lt_of_lt_of_le hx (Nat.mul_le_mul_left _ (Nat.pow_le_pow_right (by decide) (by omega)))
      have hx65 : x < 8388608 := by omega
      have hbk := byt_lt l (k + 1)
      have hm := fun w => HM.out (k + 1) w (by omega)
      by_cases hcon : con l (k + 1)
      · have hci := (con_iff l (k + 1)).1 hcon
        have hm2 : ∀ w, Calls Tryz.prog 84 #[.string t, .int .i64 ((k : Int) + 1)] w fun e w' => e = .returned (.int .i64 ((byt l (k + 1) - 128 : Nat) : Int)) ∧ w = w' := by
          intro w
          have h := hm w
          rw [if_pos hcon, show (byt l (k + 1) : Int) - 128 = ((byt l (k + 1) - 128 : Nat) : Int) by omega] at h
          exact h
        have HM2 := Lib.hid hm2
        have hd : byt l (k + 1) - 128 < 64 := by omega
        have HD : Hid (accn l (c - 192) (k + 1) = x * 64 + (byt l (k + 1) - 128)) := by show _ = _; rw [HACC.out, ← HX.out]
        have hpow : x * 64 + (byt l (k + 1) - 128) < 32 * 64 ^ (k + 1) := by rw [Nat.pow_succ]; omega
        have HPOW := Lib.hid hpow
        have HCON := Lib.hid hcon
        clear hm hm2 hci hcon hpow hx hx64
        generalize byt l (k + 1) - 128 = d at *
        go_wp2_with (first | (go_at_call 84; refine (HM2.out _).mono ?_; rintro e w1 ⟨rfl, rfl⟩))
        go_round
        case rel => exact ⟨k + 1, x * 64 + d, by omega, by go_num, by go_num, HPOW.out, HD.out.symm, fun j hj => by
          by_cases e : j = k
          · subst e; exact HCON.out
          · exact HJ.out j (by omega)⟩
        case measure => simp [intOf]; omega
      · have hm2 : ∀ w, Calls Tryz.prog 84 #[.string t, .int .i64 ((k : Int) + 1)] w fun e w' => e = .returned (.int .i64 (-1)) ∧ w = w' := by
          intro w
          have h := hm w
          rw [if_neg hcon] at h
          exact h
        have HM2 := Lib.hid hm2
        have hz : first l = (0, 0) := by
          rw [HF.out, if_neg]
          intro h
          apply hcon
          obtain rfl : k = 0 := by omega
          exact h
        have HZ := Lib.hid hz
        clear hm hm2 hcon hz hx hx64
        go_wp2_with (first | (go_at_call 84; refine (HM2.out _).mono ?_; rintro e w1 ⟨rfl, rfl⟩))
        go_ret2
        exact ⟨ret_two (by rw [HZ.out]; rfl) (by rw [HZ.out]; rfl), rfl⟩
    · obtain rfl : k = 1 := by omega
      have hz : first l = fit x 128 2 := by
        rw [HF.out, if_pos (by exact HJ.out 0 (by omega)), HX.out]
      have HZ := Lib.hid hz
      clear hz
      have hx2 : x < 8388608 := by omega
      clear hx
      by_cases hbad : x < 128 ∨ 1114111 < x ∨ (55296 ≤ x ∧ x ≤ 57343)
      · have HB := Lib.hid (fit_small (m := 2) hbad)
        have hend : ∀ e : Ending, e = .returned (.tuple #[.int .i64 0, .int .i64 0]) → e = .returned (.tuple #[.int .i64 ((first l).1 : Nat), .int .i64 ((first l).2 : Nat)]) := fun e he => he.trans (ret_two (by rw [HZ.out, HB.out]; rfl) (by rw [HZ.out, HB.out]; rfl))
        have HEND := Lib.hid hend
        clear hend
        rcases hbad with h | h | h
        · have h' : (x : Int) < 128 := by omega
          clear h hx2
          go_wp2
          go_ret2
          exact ⟨HEND.out _ rfl, rfl⟩
        · have h' : (1114111 : Int) < x := by omega
          have h'' : ¬ (x : Int) < 128 := by omega
          clear h hx2
          go_wp2
          go_ret2
          exact ⟨HEND.out _ rfl, rfl⟩
        · by_cases hl : x < 128
          · have h' : (x : Int) < 128 := by omega
            clear h hx2 hl
            go_wp2
            go_ret2
            exact ⟨HEND.out _ rfl, rfl⟩
          · have h0 : ¬ (x : Int) < 128 := by omega
            have h1 : ¬ (1114111 : Int) < x := by omega
            have h2 : (55296 : Int) ≤ x := by omega
            have h3 : (x : Int) ≤ 57343 := by omega
            clear h hx2 hl
            go_wp2
            go_ret2
            exact ⟨HEND.out _ rfl, rfl⟩
      · have HB := Lib.hid (fit_ok (m := 2) hbad)
        have h0 : ¬ (x : Int) < 128 := by omega
        have h1 : ¬ (1114111 : Int) < x := by omega
        by_cases h5 : 55296 ≤ x
        · have h2 : (55296 : Int) ≤ x := by omega
          have h3 : ¬ (x : Int) ≤ 57343 := by omega
          clear hbad hx2 h5
          go_wp2
          go_ret2
          exact ⟨ret_two (by rw [HZ.out, HB.out]) (by rw [HZ.out, HB.out]; rfl), rfl⟩
        · have h2 : ¬ (55296 : Int) ≤ x := by omega
          clear hbad hx2 h5
          go_wp2
          go_ret2
          exact ⟨ret_two (by rw [HZ.out, HB.out]) (by rw [HZ.out, HB.out]; rfl), rfl⟩

set_option maxRecDepth 100000 in
set_option maxHeartbeats 1000000 in
theorem ref_first3 (t : ByteArray) (w : World) (hs : t.size ≤ 4096) (hne : 0 < t.size) (h1 : 224 ≤ byt t.data.toList 0) (h2 : byt t.data.toList 0 < 240) :
    Calls Tryz.prog 62 #[.string t] w fun e w' => e = .returned (.tuple #[.int .i64 ((first t.data.toList).1 : Nat), .int .i64 ((first t.data.toList).2 : Nat)]) ∧ w = w' := by
  have hb := byt_get t 0 hne
  have hF := first_3 t.data.toList h1 h2
  have hmore := fun k w hk => ref_more t k w hs hk
  have HM := Lib.hid hmore
  have HF := Lib.hid hF
  have hn0 : accn t.data.toList (byt t.data.toList 0 - 224) 0 = byt t.data.toList 0 - 224 := rfl
  have hacc : ∀ k, accn t.data.toList (byt t.data.toList 0 - 224) (k + 1) = accn t.data.toList (byt t.data.toList 0 - 224) k * 64 + (byt t.data.toList (k + 1) - 128) := fun k => rfl
  have HACC := Lib.hid hacc
  have HN0 := Lib.hid hn0
  clear hmore hF hacc hn0
  generalize t.data.toList = l at *
  generalize hc : byt l 0 = c at *
  have HC := Lib.hid hc
  clear hc
  have k1 : ((224 : Int) ≤ (c : Int)) := by omega
  have k2 : ((c : Int) < 240) := by omega
  have k3 : (c : Int) - 224 = ((c - 224 : Nat) : Int) := by omega
  have hcb : c - 224 ≤ 31 := by omega
  clear h1 h2
  go_enter Tryz.func62, Tryz.ntmps62
  go_wp2
  go_loop [6, 8] (fun n i => ∃ k x : Nat, k + 1 ≤ 3 ∧ i = .int .i64 ((k : Int) + 1) ∧ n = .int .i64 x ∧ x < 32 * 64 ^ k ∧ Hid (x = accn l (c - 224) k) ∧ Hid (∀ j, j < k → con l (j + 1))) (fun _ i => 3 - (intOf i).toNat)
  case atStart => exact ⟨0, c - 224, by omega, rfl, by go_num, by omega, HN0.out.symm, fun j hj => by omega⟩
  case round =>
    obtain ⟨k, x, hk, rfl, rfl, hx, HX, HJ⟩ := hrel
    by_cases hlt : k + 1 < 3
    · have hlI : (k : Int) + 1 < 3 := by omega
      have hx64 : x < 32 * 64 ^ 3 := Nat.lt_of_lt_of_le hx (Nat.mul_le_mul_left _ (Nat.pow_le_pow_right (by decide) (by omega)))
      have hx65 : x < 8388608 := by omega
      have hbk := byt_lt l (k + 1)
      have hm := fun w => HM.out (k + 1) w (by omega)
      by_cases hcon : con l (k + 1)
      · have hci := (con_iff l (k + 1)).1 hcon
        have hm2 : ∀ w, Calls Tryz.prog 84 #[.string t, .int .i64 ((k : Int) + 1)] w fun e w' => e = .returned (.int .i64 ((byt l (k + 1) - 128 : Nat) : Int)) ∧ w = w' := by
          intro w
          have h := hm w
          rw [if_pos hcon, show (byt l (k + 1) : Int) - 128 = ((byt l (k + 1) - 128 : Nat) : Int) by omega] at h
          exact h
        have HM2 := Lib.hid hm2
        have hd : byt l (k + 1) - 128 < 64 := by omega
        have HD : Hid (accn l (c - 224) (k + 1) = x * 64 + (byt l (k + 1) - 128)) := by show _ = _; rw [HACC.out, ← HX.out]
        have hpow : x * 64 + (byt l (k + 1) - 128) < 32 * 64 ^ (k + 1) := by rw [Nat.pow_succ]; omega
        have HPOW := Lib.hid hpow
        have HCON := Lib.hid hcon
        clear hm hm2 hci hcon hpow hx hx64
        generalize byt l (k + 1) - 128 = d at *
        go_wp2_with (first | (go_at_call 84; refine (HM2.out _).mono ?_; rintro e w1 ⟨rfl, rfl⟩))
        go_round
        case rel => exact ⟨k + 1, x * 64 + d, by omega, by go_num, by go_num, HPOW.out, HD.out.symm, fun j hj => by
          by_cases e : j = k
          · subst e; exact HCON.out
          · exact HJ.out j (by omega)⟩
        case measure => simp [intOf]; omega
      · have hm2 : ∀ w, Calls Tryz.prog 84 #[.string t, .int .i64 ((k : Int) + 1)] w fun e w' => e = .returned (.int .i64 (-1)) ∧ w = w' := by
          intro w
          have h := hm w
          rw [if_neg hcon] at h
          exact h
        have HM2 := Lib.hid hm2
        have hz : first l = (0, 0) := by
          rw [HF.out, if_neg]
          intro h
          apply hcon
          rcases (by omega : k = 0 ∨ k = 1) with rfl | rfl
          · exact h.1
          · exact h.2
        have HZ := Lib.hid hz
        clear hm hm2 hcon hz hx hx64
        go_wp2_with (first | (go_at_call 84; refine (HM2.out _).mono ?_; rintro e w1 ⟨rfl, rfl⟩))
        go_ret2
        exact ⟨ret_two (by rw [HZ.out]; rfl) (by rw [HZ.out]; rfl), rfl⟩
    · obtain rfl : k = 2 := by omega
      have hz : first l = fit x 2048 3 := by
        rw [HF.out, if_pos (by exact ⟨HJ.out 0 (by omega), HJ.out 1 (by omega)⟩), HX.out]
      have HZ := Lib.hid hz
      clear hz
      have hx2 : x < 8388608 := by omega
      clear hx
      by_cases hbad : x < 2048 ∨ 1114111 < x ∨ (55296 ≤ x ∧ x ≤ 57343)
      · have HB := Lib.hid (fit_small (m := 3) hbad)
        have hend : ∀ e : Ending, e = .returned (.tuple #[.int .i64 0, .int .i64 0]) → e = .returned (.tuple #[.int .i64 ((first l).1 : Nat), .int .i64 ((first l).2 : Nat)]) := fun e he => he.trans (ret_two (by rw [HZ.out, HB.out]; rfl) (by rw [HZ.out, HB.out]; rfl))
        have HEND := Lib.hid hend
        clear hend
        rcases hbad with h | h | h
        · have h' : (x : Int) < 2048 := by omega
          clear h hx2
          go_wp2
          go_ret2
          exact ⟨HEND.out _ rfl, rfl⟩
        · have h' : (1114111 : Int) < x := by omega
          have h'' : ¬ (x : Int) < 2048 := by omega
          clear h hx2
          go_wp2
          go_ret2
          exact ⟨HEND.out _ rfl, rfl⟩
        · by_cases hl : x < 2048
          · have h' : (x : Int) < 2048 := by omega
            clear h hx2 hl
            go_wp2
            go_ret2
            exact ⟨HEND.out _ rfl, rfl⟩
          · have h0 : ¬ (x : Int) < 2048 := by omega
            have h1 : ¬ (1114111 : Int) < x := by omega
            have h2 : (55296 : Int) ≤ x := by omega
            have h3 : (x : Int) ≤ 57343 := by omega
            clear h hx2 hl
            go_wp2
            go_ret2
            exact ⟨HEND.out _ rfl, rfl⟩
      · have HB := Lib.hid (fit_ok (m := 3) hbad)
        have h0 : ¬ (x : Int) < 2048 := by omega
        have h1 : ¬ (1114111 : Int) < x := by omega
        by_cases h5 : 55296 ≤ x
        · have h2 : (55296 : Int) ≤ x := by omega
          have h3 : ¬ (x : Int) ≤ 57343 := by omega
          clear hbad hx2 h5
          go_wp2
          go_ret2
          exact ⟨ret_two (by rw [HZ.out, HB.out]) (by rw [HZ.out, HB.out]; rfl), rfl⟩
        · have h2 : ¬ (55296 : Int) ≤ x := by omega
          clear hbad hx2 h5
          go_wp2
          go_ret2
          exact ⟨ret_two (by rw [HZ.out, HB.out]) (by rw [HZ.out, HB.out]; rfl), rfl⟩

set_option maxRecDepth 100000 in
set_option maxHeartbeats 1000000 in
theorem ref_first4 (t : ByteArray) (w : World) (hs : t.size ≤ 4096) (hne : 0 < t.size) (h1 : 240 ≤ byt t.data.toList 0) (h2 : byt t.data.toList 0 < 248) :
    Calls Tryz.prog 62 #[.string t] w fun e w' => e = .returned (.tuple #[.int .i64 ((first t.data.toList).1 : Nat), .int .i64 ((first t.data.toList).2 : Nat)]) ∧ w = w' := by
  have hb := byt_get t 0 hne
  have hF := first_4 t.data.toList h1 h2
  have hmore := fun k w hk => ref_more t k w hs hk
  have HM := Lib.hid hmore
  have HF := Lib.hid hF
  have hn0 : accn t.data.toList (byt t.data.toList 0 - 240) 0 = byt t.data.toList 0 - 240 := rfl
  have hacc : ∀ k, accn t.data.toList (byt t.data.toList 0 - 240) (k + 1) = accn t.data.toList (byt t.data.toList 0 - 240) k * 64 + (byt t.data.toList (k + 1) - 128) := fun k => rfl
  have HACC := Lib.hid hacc
  have HN0 := Lib.hid hn0
  clear hmore hF hacc hn0
  generalize t.data.toList = l at *
  generalize hc : byt l 0 = c at *
  have HC := Lib.hid hc
  clear hc
  have k1 : ((240 : Int) ≤ (c : Int)) := by omega
  have k2 : ((c : Int) < 248) := by omega
  have k3 : (c : Int) - 240 = ((c - 240 : Nat) : Int) := by omega
  have hcb : c - 240 ≤ 31 := by omega
  clear h1 h2
  go_enter Tryz.func62, Tryz.ntmps62
  go_wp2
  go_loop [6, 8] (fun n i => ∃ k x : Nat, k + 1 ≤ 4 ∧ i = .int .i64 ((k : Int) + 1) ∧ n = .int .i64 x ∧ x < 32 * 64 ^ k ∧ Hid (x = accn l (c - 240) k) ∧ Hid (∀ j, j < k → con l (j + 1))) (fun _ i => 4 - (intOf i).toNat)
  case atStart => exact ⟨0, c - 240, by omega, rfl, by go_num, by omega, HN0.out.symm, fun j hj => by omega⟩
  case round =>
    obtain ⟨k, x, hk, rfl, rfl, hx, HX, HJ⟩ := hrel
    by_cases hlt : k + 1 < 4
    · have hlI : (k : Int) + 1 < 4 := by omega
      have hx64 : x < 32 * 64 ^ 3 := Nat.lt_of_lt_of_le hx (Nat.mul_le_mul_left _ (Nat.pow_le_pow_right (by decide) (by omega)))
      have hx65 : x < 8388608 := by omega
      have hbk := byt_lt l (k + 1)
      have hm := fun w => HM.out (k + 1) w (by omega)
      by_cases hcon : con l (k + 1)
      · have hci := (con_iff l (k + 1)).1 hcon
        have hm2 : ∀ w, Calls Tryz.prog 84 #[.string t, .int .i64 ((k : Int) + 1)] w fun e w' => e = .returned (.int .i64 ((byt l (k + 1) - 128 : Nat) : Int)) ∧ w = w' := by
          intro w
          have h := hm w
          rw [if_pos hcon, show (byt l (k + 1) : Int) - 128 = ((byt l (k + 1) - 128 : Nat) : Int) by omega] at h
          exact h
        have HM2 := Lib.hid hm2
        have hd : byt l (k + 1) - 128 < 64 := by omega
        have HD : Hid (accn l (c - 240) (k + 1) = x * 64 + (byt l (k + 1) - 128)) := by show _ = _; rw [HACC.out, ← HX.out]
        have hpow : x * 64 + (byt l (k + 1) - 128) < 32 * 64 ^ (k + 1) := by rw [Nat.pow_succ]; omega
        have HPOW := Lib.hid hpow
        have HCON := Lib.hid hcon
        clear hm hm2 hci hcon hpow hx hx64
        generalize byt l (k + 1) - 128 = d at *
        go_wp2_with (first | (go_at_call 84; refine (HM2.out _).mono ?_; rintro e w1 ⟨rfl, rfl⟩))
        go_round
        case rel => exact ⟨k + 1, x * 64 + d, by omega, by go_num, by go_num, HPOW.out, HD.out.symm, fun j hj => by
          by_cases e : j = k
          · subst e; exact HCON.out
          · exact HJ.out j (by omega)⟩
        case measure => simp [intOf]; omega
      · have hm2 : ∀ w, Calls Tryz.prog 84 #[.string t, .int .i64 ((k : Int) + 1)] w fun e w' => e = .returned (.int .i64 (-1)) ∧ w = w' := by
          intro w
          have h := hm w
          rw [if_neg hcon] at h
          exact h
        have HM2 := Lib.hid hm2
        have hz : first l = (0, 0) := by
          rw [HF.out, if_neg]
          intro h
          apply hcon
          rcases (by omega : k = 0 ∨ k = 1 ∨ k = 2) with rfl | rfl | rfl
          · exact h.1
          · exact h.2.1
          · exact h.2.2
        have HZ := Lib.hid hz
        clear hm hm2 hcon hz hx hx64
        go_wp2_with (first | (go_at_call 84; refine (HM2.out _).mono ?_; rintro e w1 ⟨rfl, rfl⟩))
        go_ret2
        exact ⟨ret_two (by rw [HZ.out]; rfl) (by rw [HZ.out]; rfl), rfl⟩
    · obtain rfl : k = 3 := by omega
      have hz : first l = fit x 65536 4 := by
        rw [HF.out, if_pos (by exact ⟨HJ.out 0 (by omega), HJ.out 1 (by omega), HJ.out 2 (by omega)⟩), HX.out]
      have HZ := Lib.hid hz
      clear hz
      have hx2 : x < 8388608 := by omega
      clear hx
      by_cases hbad : x < 65536 ∨ 1114111 < x ∨ (55296 ≤ x ∧ x ≤ 57343)
      · have HB := Lib.hid (fit_small (m := 4) hbad)
        have hend : ∀ e : Ending, e = .returned (.tuple #[.int .i64 0, .int .i64 0]) → e = .returned (.tuple #[.int .i64 ((first l).1 : Nat), .int .i64 ((first l).2 : Nat)]) := fun e he => he.trans (ret_two (by rw [HZ.out, HB.out]; rfl) (by rw [HZ.out, HB.out]; rfl))
        have HEND := Lib.hid hend
        clear hend
        rcases hbad with h | h | h
        · have h' : (x : Int) < 65536 := by omega
          clear h hx2
          go_wp2
          go_ret2
          exact ⟨HEND.out _ rfl, rfl⟩
        · have h' : (1114111 : Int) < x := by omega
          have h'' : ¬ (x : Int) < 65536 := by omega
          clear h hx2
          go_wp2
          go_ret2
          exact ⟨HEND.out _ rfl, rfl⟩
        · by_cases hl : x < 65536
          · have h' : (x : Int) < 65536 := by omega
            clear h hx2 hl
            go_wp2
            go_ret2
            exact ⟨HEND.out _ rfl, rfl⟩
          · have h0 : ¬ (x : Int) < 65536 := by omega
            have h1 : ¬ (1114111 : Int) < x := by omega
            have h2 : (55296 : Int) ≤ x := by omega
            have h3 : (x : Int) ≤ 57343 := by omega
            clear h hx2 hl
            go_wp2
            go_ret2
            exact ⟨HEND.out _ rfl, rfl⟩
      · have HB := Lib.hid (fit_ok (m := 4) hbad)
        have h0 : ¬ (x : Int) < 65536 := by omega
        have h1 : ¬ (1114111 : Int) < x := by omega
        by_cases h5 : 55296 ≤ x
        · have h2 : (55296 : Int) ≤ x := by omega
          have h3 : ¬ (x : Int) ≤ 57343 := by omega
          clear hbad hx2 h5
          go_wp2
          go_ret2
          exact ⟨ret_two (by rw [HZ.out, HB.out]) (by rw [HZ.out, HB.out]; rfl), rfl⟩
        · have h2 : ¬ (55296 : Int) ≤ x := by omega
          clear hbad hx2 h5
          go_wp2
          go_ret2
          exact ⟨ret_two (by rw [HZ.out, HB.out]) (by rw [HZ.out, HB.out]; rfl), rfl⟩
end Go.Proofs.YtcigklninmddaaaGreatDoor
