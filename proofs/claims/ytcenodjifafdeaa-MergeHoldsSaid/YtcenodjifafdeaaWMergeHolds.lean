/- The walk of MergeHolds. -/
import Derived.Test.YtcenodjifafdeaaKMerge
import Derived.BigQuiet
namespace Go.Proofs.Ytcenodjifafdeaa
set_option maxRecDepth 4000
open Go.ChangeShapes Go.WideShapes Go.ChangeAt Go.RowKit
open PTree PClamp
set_option linter.unusedVariables false
set_option linter.unusedSimpArgs false

set_option maxRecDepth 100000 in
set_option maxHeartbeats 4000000 in
theorem walk_MergeHolds (w : World) (a0 : Int) (w0 : (Lit.int .i64 a0).wf = true) (a1 : Option Addr) (n1 c1 : Nat) (l1 : List (Int × Int × Int × Unit)) (w1 : Rd w (.sl (.pair (.int .u8) (.pair (.int .i64) (.pair (.int .i64) .unit)))) [.slice a1 n1 c1] l1) :
    Calls Try.prog 4 #[.int .i64 a0, .slice a1 n1 c1] w fun e w' => e = .returned (.bool true) ∧ Below w.heap.size w w' := by
  have hR : n1 = l1.length ∧ n1 ≤ c1 ∧ c1 ≤ maxLen ∧ RowG w 3 actM a1 l1 ∧ ∀ x ∈ l1, actMq x := Rd.rowG (s := .pair (.int .u8) (.pair (.int .i64) (.pair (.int .i64) .unit))) 3 rfl (by decide) actM actMq (fun w cs d h => Rd.actM h) w1
  obtain ⟨rfl, -, -, hl, hq'⟩ := hR
  have HQ := Lib.hid hq'
  have h0 := bounds_i64 w0
  clear w0 w1 hq'
  by_cases hbig : 200 < l1.length
  · go_enter Try.func4, Try.ntmps4
    go_wp2_with (go_at_call 8; refine (speaks17 _).mono ?_; rintro e w1 ⟨rfl, hb1⟩)
    go_ret
    exact ⟨rfl, hb1⟩
  have hsm : l1.length ≤ 200 := by omega
  clear hbig
  by_cases hnv : a0 = -9223372036854775808
  · subst hnv
    go_enter Try.func4, Try.ntmps4
    go_wp2_with (go_at_call 8; refine (speaks17 _).mono ?_; rintro e w1 ⟨rfl, hb1⟩)
    go_ret
    exact ⟨rfl, hb1⟩
  have hnv2 : (a0 == -9223372036854775808) = false := by simpa using hnv
  have hnv3 : -9223372036854775808 ≤ a0 := by omega
  have HN := fun w' => Lib.hid (me_new 5 5 w' (by decide) (by omega))
  have HM0 := fun F g (z : Int) (hz : ((0 : Nat) : Int) = z) w' (h : MeI w w' F g 5 (fun _ => -9223372036854775808) (fun _ => 0) (-9223372036854775808)) => Lib.hid (hz ▸ me_mark F g 5 _ _ _ _ 0 a0 w' h.me (by omega))
  clear hnv
  go_enter Try.func4, Try.ntmps4
  go_wp2_with (go_at_call 8; refine (speaks17 _).mono ?_; rintro e w1 ⟨rfl, hb1⟩)
  go_wp2_with (first | (go_at_call 9; refine (HN _).out.mono ?_; intro e w2 h2; obtain ⟨F, g, rfl, i2⟩ := MeI.made hb1 h2) | (go_at_call 10; (with_reducible refine (HM0 _ _ 0 (by omega) _ i2).out.mono ?_); rintro e w3 ⟨rfl, h3⟩; have i3 := i2.did h3))
  clear HN HM0 hnv2
  go_loopw [25] (fun i wr => ∃ (k : Nat) (K S : Nat → Int) (now : Int), k ≤ l1.length ∧ i = .int .i64 k ∧ MeI w wr F g 5 K S now ∧ Hid (K 0 = a0 ∧ S 0 = 0) ∧ now ≤ a0) (fun i _ => l1.length - (intOf i).toNat)
  case atStart => exact ⟨0, _, _, _, Nat.zero_le _, rfl, i3, Lib.hid ⟨rfl, rfl⟩, hnv3⟩
  case round =>
    obtain ⟨k, K, S, now, hk, rfl, hI, HK, hnow⟩ := hrel
    clear i2 h3 i3
    by_cases hlt : k < l1.length
    · obtain ⟨b, off, rfl, hb', hc⟩ := (hl.below hI.new).at_ k hlt
      have hxb := HQ.out _ (List.getElem_mem hlt)
      generalize l1[k] = x at *
      obtain ⟨q, I, N, u⟩ := x
      have p0 := hc 0 (by decide)
      have p1 := hc 1 (by decide)
      have p2 := hc 2 (by decide)
      simp [actM] at p0 p1 p2
      obtain ⟨hqb, hIb, hNb⟩ := hxb
      simp only at hqb hIb hNb
      have hA := At.alloc wr [.int .u8 q, .int .i64 I, .int .i64 N] 30
      have i1 := hI.alloc (.cells #[.int .u8 q, .int .i64 I, .int .i64 N] 30)
      obtain ⟨hg, r0, y0, r1, y1, r2, y2⟩ := hA.three
      obtain ⟨t, ht, htb⟩ : ∃ t : Int, I.tmod 4 = t ∧ (-3 ≤ t ∧ t ≤ 3) := ⟨_, rfl, by have h := tmod_rng I 4 (by omega); have e : I.tmod ((4 : Nat) : Int) = I.tmod 4 := rfl; rw [e] at h; omega⟩
      obtain ⟨v, hv, hvb⟩ : ∃ v : Nat, (t + 4) % 4 = (v : Int) ∧ v < 4 := ⟨((t + 4) % 4).toNat, by omega, by omega⟩
      have hz : Hid (((1 + v : Nat) : Int) = 1 + (v : Int)) := Lib.hid (by omega)
      clear hc hA y0 y1 y2 hI
      rcases (show q % 3 = 0 ∨ q % 3 = 1 ∨ q % 3 = 2 by omega) with hq | hq | hq
      · have hK2 : Hid ((put K (1 + v) N) 0 = a0 ∧ (S) 0 = 0) := Lib.hid ⟨by rw [put_other _ _ _ (by omega)]; exact HK.out.1, HK.out.2⟩
        have HM := fun w' (h : MeI w w' F g 5 K S now) => Lib.hid (hz.out ▸ me_mark F g 5 K _ _ now (1 + v) N w' h.me (by omega))
        have hLle : ml (put K (1 + v) N) (S) 5 ≤ a0 := by rw [← hK2.out.1]; exact ml_le (by omega) hK2.out.2
        obtain ⟨L, hL⟩ : ∃ L, ml (put K (1 + v) N) (S) 5 = L := ⟨_, rfl⟩
        rw [hL] at hLle
        have HL := fun w' now (h : MeI w w' F g 5 (put K (1 + v) N) (S) now) => Lib.hid (me_least F g 5 _ _ _ now L w' h.me hL)
        have HW := fun w' now (h : MeI w w' F g 5 (put K (1 + v) N) (S) now) => Lib.hid (me_now F g 5 _ _ _ now w' h.me)
        clear hL
        go_wp2_with (first | (go_at_call 10; (with_reducible refine (HM _ i1).out.mono ?_); rintro e w4 ⟨rfl, h4⟩; have i4 := i1.did h4) | (go_at_call 14; (with_reducible refine (HL _ _ i4).out.mono ?_); rintro e w5 ⟨rfl, rfl⟩) | (go_at_call 15; (with_reducible refine (HW _ _ i4).out.mono ?_); rintro e w5 ⟨rfl, rfl⟩))
        go_roundw
        case rel => exact ⟨k + 1, _, _, _, by omega, by go_num, i4, hK2, by omega⟩
        case measure => simp [intOf]; omega
      · obtain ⟨s, hs, hsb⟩ : ∃ s : Int, N % 256 % 4 = s ∧ (0 ≤ s ∧ s ≤ 3) := ⟨_, rfl, by omega⟩
        have hs4 : N % 4 = s := by omega
        have hK2 : Hid ((K) 0 = a0 ∧ (put S (1 + v) s) 0 = 0) := Lib.hid ⟨HK.out.1, by rw [put_other _ _ _ (by omega)]; exact HK.out.2⟩
        have HM := fun w' (h : MeI w w' F g 5 K S now) => Lib.hid (hz.out ▸ me_is2 F g 5 K S now (1 + v) s _ _ w' h.me (by omega) rfl rfl)
        have hLle : ml (K) (put S (1 + v) s) 5 ≤ a0 := by rw [← hK2.out.1]; exact ml_le (by omega) hK2.out.2
        obtain ⟨L, hL⟩ : ∃ L, ml (K) (put S (1 + v) s) 5 = L := ⟨_, rfl⟩
        rw [hL] at hLle
        have HL := fun w' now (h : MeI w w' F g 5 (K) (put S (1 + v) s) now) => Lib.hid (me_least F g 5 _ _ _ now L w' h.me hL)
        have HW := fun w' now (h : MeI w w' F g 5 (K) (put S (1 + v) s) now) => Lib.hid (me_now F g 5 _ _ _ now w' h.me)
        clear hL
        go_wp2_with (first | (go_at_call 11; (with_reducible refine (HM _ i1).out.mono ?_); rintro e w4 ⟨rfl, h4⟩; have i4 := i1.did h4) | (go_at_call 14; (with_reducible refine (HL _ _ i4).out.mono ?_); rintro e w5 ⟨rfl, rfl⟩) | (go_at_call 15; (with_reducible refine (HW _ _ i4).out.mono ?_); rintro e w5 ⟨rfl, rfl⟩))
        go_roundw
        case rel => exact ⟨k + 1, _, _, _, by omega, by go_num, i4, hK2, by omega⟩
        case measure => simp [intOf]; omega
      · have hK2 : Hid (K 0 = a0 ∧ S 0 = 0) := HK
        have hLle : ml K S 5 ≤ a0 := by rw [← hK2.out.1]; exact ml_le (by omega) hK2.out.2
        obtain ⟨L, hL⟩ : ∃ L, ml K S 5 = L := ⟨_, rfl⟩
        rw [hL] at hLle
        have HL := fun w' now (h : MeI w w' F g 5 K S now) => Lib.hid (me_least F g 5 _ _ _ now L w' h.me hL)
        have HW := fun w' now (h : MeI w w' F g 5 K S now) => Lib.hid (me_now F g 5 _ _ _ now w' h.me)
        by_cases hup : now < L
        · have HM := fun w' (h : MeI w w' F g 5 K S now) => Lib.hid (me_adv F g 5 K _ _ now L w' h.me hL hup)
          clear hL
          go_wp2_with (first | (go_at_call 12; (with_reducible refine (HM _ i1).out.mono ?_); rintro e w4 ⟨rfl, h4⟩; have i4 := i1.did h4) | (go_at_call 14; (with_reducible refine (HL _ _ i4).out.mono ?_); rintro e w5 ⟨rfl, rfl⟩) | (go_at_call 15; (with_reducible refine (HW _ _ i4).out.mono ?_); rintro e w5 ⟨rfl, rfl⟩))
          go_roundw
          case rel => exact ⟨k + 1, _, _, _, by omega, by go_num, i4, hK2, by omega⟩
          case measure => simp [intOf]; omega
        · have HM := fun w' (h : MeI w w' F g 5 K S now) => Lib.hid (me_adv_not F g 5 K _ _ now L w' h.me hL (by omega))
          clear hL
          go_wp2_with (first | (go_at_call 12; (with_reducible refine (HM _ i1).out.mono ?_); rintro e w4 ⟨rfl, h4⟩; have i4 := i1.did h4) | (go_at_call 14; (with_reducible refine (HL _ _ i4).out.mono ?_); rintro e w5 ⟨rfl, rfl⟩) | (go_at_call 15; (with_reducible refine (HW _ _ i4).out.mono ?_); rintro e w5 ⟨rfl, rfl⟩))
          go_roundw
          case rel => exact ⟨k + 1, _, _, _, by omega, by go_num, i4, hK2, hnow⟩
          case measure => simp [intOf]; omega
    · obtain rfl : k = l1.length := by omega
      go_wp2
      go_loopw [70] (fun i wr => ∃ (j : Nat) (S : Nat → Int), j ≤ 4 ∧ i = .int .i64 j ∧ MeI w wr F g 5 K S now ∧ Hid (S 0 = 0 ∧ ∀ m, 1 ≤ m → m ≤ j → S m = 2)) (fun i _ => 4 - (intOf i).toNat)
      case atStart => exact ⟨0, S, Nat.zero_le _, rfl, hI, Lib.hid ⟨HK.out.2, fun m h1 h2 => by omega⟩⟩
      case round =>
        clear hI
        obtain ⟨j, S, hj, rfl, hI, HS⟩ := hrel
        by_cases hlt2 : j < 4
        · have hz : Hid (((j + 1 : Nat) : Int) = (j : Int) + 1) := Lib.hid (by omega)
          have HM := Lib.hid (hz.out ▸ me_is2 F g 5 K S now (j + 1) 2 true true _ hI.me (by omega) rfl rfl)
          have HI := Lib.hid hI
          clear hI
          go_wp2_with (go_at_call 11; (with_reducible refine HM.out.mono ?_); rintro e w4 ⟨rfl, h4⟩; have i4 := HI.out.did h4)
          go_roundw
          case rel => exact ⟨j + 1, _, by omega, by go_num, i4, Lib.hid ⟨by rw [put_other _ _ _ (by omega)]; exact HS.out.1, fun m h1 h2 => by
            by_cases e : m = j + 1
            · subst e; exact put_same _ _ _
            · rw [put_other _ _ _ e]; exact HS.out.2 m h1 (by omega)⟩⟩
          case measure => simp [intOf]; omega
        · obtain rfl : j = 4 := by omega
          have hL : ml K S 5 = a0 := by
            rw [ml_one (i := 0) (by omega) HS.out.1 (fun m h1 h2 => by have := HS.out.2 m (by omega) (by omega); omega)]
            exact HK.out.1
          have HL := Lib.hid (me_least F g 5 _ _ _ now a0 _ hI.me hL)
          have hb9 := hI.new
          have haa : (a0 == a0) = true := by simp
          clear hL hI
          go_wp2_with (go_at_call 14; (with_reducible refine HL.out.mono ?_); rintro e w5 ⟨rfl, rfl⟩)
          go_ret
          exact ⟨rfl, hb9⟩
end Go.Proofs.Ytcenodjifafdeaa
