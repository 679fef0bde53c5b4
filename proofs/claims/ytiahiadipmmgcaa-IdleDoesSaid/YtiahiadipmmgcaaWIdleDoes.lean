/- The walk of IdleDoes. -/
import Derived.Test.YtiahiadipmmgcaaIdI
import Derived.Test.YtiahiadipmmgcaaRowG
import Derived.Test.YtiahiadipmmgcaaMost
namespace Go.Proofs.Ytiahiadipmmgcaa
set_option maxRecDepth 4000
open Go.ChangeShapes Go.WideShapes Go.ChangeAt Go.RowKit
open PSat
set_option linter.unusedVariables false
set_option linter.unusedSimpArgs false

theorem add_zero64 {n : Int} (h : -9223372036854775808 ≤ n ∧ n ≤ 9223372036854775807) : add n 0 = n := by
  unfold add clampI
  (repeat' split) <;> omega
theorem add_from {n : Int} (h : 0 ≤ n ∧ n ≤ 9223372036854775807) : add 0 n = n := by
  unfold add clampI
  (repeat' split) <;> omega

theorem ck_start (g : Nat) (a : Int) (w : World) (h : ClockC w g 0) (ha : -9223372036854775808 ≤ a ∧ a ≤ 9223372036854775807) (n : Int) (hn : max a 0 = n) :
    Calls Try.prog 9 #[.pointer (some ⟨g, 0, none⟩), .int .i64 a] w fun e w' => e = .returned (.bool (decide (0 ≤ a))) ∧ CkPost g n w w' := by
  by_cases h0 : a < 0
  · refine (ck_none g 0 a w h h0).mono ?_
    rintro e w' ⟨rfl, rfl⟩
    have e0 : n = 0 := by omega
    subst e0
    exact ⟨by rw [decide_eq_false (by omega)], h, Upd.refl _ _⟩
  · refine (ck_go g 0 a w h (by omega) ha (by omega)).mono ?_
    rintro e w' ⟨rfl, h2⟩
    have e0 : n = a := by omega
    subst e0
    rw [add_from (by omega)] at h2
    exact ⟨by rw [decide_eq_true (by omega)], h2⟩

/-- The cells of one act. -/
def actK (x : Int × Int × Unit) : List Value := [.int .u8 x.1, .int .i64 x.2.1]
def actKq (x : Int × Int × Unit) : Prop := (0 ≤ x.1 ∧ x.1 ≤ 255) ∧ (-9223372036854775808 ≤ x.2.1 ∧ x.2.1 ≤ 9223372036854775807)
theorem Rd.actK {w : World} {cs : List Value} {d : Int × Int × Unit} (h : Rd w (.pair (.int .u8) (.pair (.int .i64) .unit)) cs d) : cs = actK d ∧ actKq d := by
  obtain ⟨o, n, u⟩ := d
  obtain ⟨c1, d1, rfl, ⟨rfl, h1⟩, c2, d2, rfl, ⟨rfl, h2⟩, h3⟩ := h
  have h3' : d2 = [] := h3
  subst h3'
  exact ⟨rfl, bounds_u8 h1, bounds_i64 h2⟩

set_option maxHeartbeats 4000000 in
theorem walk_IdleDoes (w : World) (a0 : Int) (w0 : (Lit.int .i64 a0).wf = true) (a1 : Int) (w1 : (Lit.int .i64 a1).wf = true) (a2 : Option Addr) (n2 c2 : Nat) (l2 : List (Int × Int × Unit)) (w2 : Rd w (.sl (.pair (.int .u8) (.pair (.int .i64) .unit))) [.slice a2 n2 c2] l2) :
    Calls Try.prog 3 #[.int .i64 a0, .int .i64 a1, .slice a2 n2 c2] w fun e w' => e = .returned (.bool true) ∧ Below w.heap.size w w' := by
  have hR : n2 = l2.length ∧ n2 ≤ c2 ∧ c2 ≤ maxLen ∧ RowG w 2 actK a2 l2 ∧ ∀ x ∈ l2, actKq x := Rd.rowG (s := .pair (.int .u8) (.pair (.int .i64) .unit)) 2 rfl (by decide) actK actKq (fun w cs d h => Rd.actK h) w2
  obtain ⟨rfl, -, -, hl, hq'⟩ := hR
  have HQ := Lib.hid hq'
  have h0 := bounds_i64 w0
  have h1 := bounds_i64 w1
  clear w0 w1 w2 hq'
  by_cases hbig : 200 < l2.length
  · go_enter Try.func3, Try.ntmps3
    go_wp2_with (go_at_call 8; refine (speaks15 _).mono ?_; rintro e w1 ⟨rfl, hb1⟩)
    go_ret
    exact ⟨rfl, hb1⟩
  have hsm : l2.length ≤ 200 := by omega
  clear hbig
  obtain ⟨T, hT⟩ : ∃ T, max a0 0 = T := ⟨_, rfl⟩
  have hTb : 0 ≤ T ∧ T ≤ 9223372036854775807 := by omega
  have HT := Lib.hid hT
  have hs0 : ∃ n0 : Int, max a1 0 = n0 ∧ (0 ≤ n0 ∧ n0 ≤ 9223372036854775807) := ⟨_, rfl, by omega⟩
  obtain ⟨n0, hn0, hnn⟩ := hs0
  have HN0 := Lib.hid hn0
  clear hT hn0
  go_enter Try.func3, Try.ntmps3
  go_wp2_with (go_at_call 8; refine (speaks15 _).mono ?_; rintro e w1 ⟨rfl, hb1⟩)
  have hc0 := ClockC.made w1 25
  have hb0 := hb1.alloc hb1.size (.cells #[.int .i64 0] 25)
  have hsz := hb1.size
  have hif1 : (if a1 < 0 then (0 : Int) else a1) = n0 := by have := HN0.out; split <;> omega
  have hif2 : (if a0 < 0 then (0 : Int) else a0) = T := by have := HT.out; split <;> omega
  have HG := Lib.hid (ck_start w1.heap.size a1 _ hc0 h1 n0 HN0.out)
  have HNW := fun w' (h : ClockC w' w1.heap.size n0) => Lib.hid (id_new w1.heap.size n0 a0 w' h (by omega) h0 (add n0 T) (by have := HT.out; rw [this]))
  have HRA := fun w' => Lib.hid (ref_add n0 T w' (by omega) (by omega))
  go_wp2_with (go_at_call 9; (with_reducible refine HG.out.mono ?_); rintro e w2 ⟨rfl, h2⟩; have hc2 := h2.1; have hb2 := hb0.upd h2.2 hb0.size (fun i _ e => by omega))
  go_wp2_with (go_at_call 10; (with_reducible refine (HNW _ hc2).out.mono ?_); intro e w3 h3; have i3 := IdI.made _ hb2 hc2 hsz h3; obtain ⟨rfl, -⟩ := h3; generalize w2.heap.size = gs at *)
  go_wp2_with (go_at_call 11; (with_reducible refine (HRA _).out.mono ?_); rintro e w4 ⟨rfl, rfl⟩)
  clear HG hc0 hb0 hb2 h2 hc2 hif1 hif2
  have hd0 := add_in n0 T
  unfold inR at hd0
  have HST := Lib.hid (And.intro hd0 hnn)
  clear HNW HRA hd0 hnn
  go_loopw [8, 11, 12, 36] (fun n s d i wr => ∃ (k : Nat) (zn zs zd : Int), k ≤ l2.length ∧ i = .int .i64 k ∧ n = .int .i64 zn ∧ s = .int .i64 zs ∧ d = .int .i64 zd ∧ (0 ≤ zn ∧ zn ≤ 9223372036854775807) ∧ (0 ≤ zs ∧ zs ≤ 3) ∧ IdI w wr w1.heap.size gs zn zs a0 zd) (fun _ _ _ i _ => l2.length - (intOf i).toNat)
  case atStart => exact ⟨0, n0, 0, _, Nat.zero_le _, rfl, rfl, rfl, rfl, HST.out.2, by omega, i3⟩
  case round =>
    obtain ⟨k, n, s, d, hk, rfl, rfl, rfl, rfl, hn, hs, hI⟩ := hrel
    by_cases hlt : k < l2.length
    · obtain ⟨b, off, rfl, hb', hc⟩ := (hl.below hI.new).at_ k hlt
      have hxb := HQ.out _ (List.getElem_mem hlt)
      generalize l2[k] = x at *
      obtain ⟨q, N, u⟩ := x
      have p0 := hc 0 (by decide)
      have p1 := hc 1 (by decide)
      simp [actK] at p0 p1
      obtain ⟨hqb, hNb⟩ := hxb
      simp only at hqb hNb
      have hA := At.alloc wr [.int .u8 q, .int .i64 N] 32
      have i1 := hI.alloc (.cells #[.int .u8 q, .int .i64 N] 32)
      obtain ⟨hg, r0, y0, r1, y1⟩ := hA.two
      have hnr : -9223372036854775808 ≤ n ∧ n ≤ 9223372036854775807 := by omega
      have hss : (s != s) = false := by simp
      have HA := Lib.hid hA
      have HLT := Lib.hid hI.ck.lt
      clear hc hA y0 y1 hI
      rcases (show q % 8 = 0 ∨ q % 8 = 3 ∨ q % 8 = 4 ∨ q % 8 = 2 ∨ q % 8 = 5 ∨ q % 8 = 1 ∨ q % 8 = 6 ∨ q % 8 = 7 by omega) with hq8 | hq8 | hq8 | hq8 | hq8 | hq8 | hq8 | hq8
      · by_cases hov : 2 ≤ s
        · by_cases hn0 : N < 0
          · have HG := fun w' (h : ClockC w' w1.heap.size n) => Lib.hid (ck_none w1.heap.size n N w' h hn0)
            have HIS := fun w' (h : IdI w w' w1.heap.size gs n s a0 d) => Lib.hid (id_is gs s a0 d w' h.st)
            have HOV := fun w' (h : IdI w w' w1.heap.size gs n s a0 d) => Lib.hid (id_over gs s a0 d w' h.st hs)
            have hdo : decide ((2 : Int) ≤ s) = true := by simp <;> omega
            rw [hdo] at HOV
            clear hdo
            go_wp2_with (first | (go_at_call 9; (with_reducible refine (HG _ i1.ck).out.mono ?_); rintro e w4 ⟨rfl, rfl⟩; have i4 := i1))
            go_wp2_with (first | (go_at_call 16; (with_reducible refine (HIS _ i4).out.mono ?_); rintro e w5 ⟨rfl, rfl⟩) | (go_at_call 17; (with_reducible refine (HOV _ i4).out.mono ?_); rintro e w5 ⟨rfl, rfl⟩))
            go_roundw
            case rel => exact ⟨k + 1, n, s, d, by omega, by go_num, rfl, rfl, rfl, hn, hs, i4⟩
            case measure => simp [intOf]; omega
          by_cases hN1 : N = 0
          · subst hN1
            have HG := fun w' (h : ClockC w' w1.heap.size n) => Lib.hid (ck_go w1.heap.size n 0 w' h hnr (by omega) (by omega))
            rw [add_zero64 hnr] at HG
            have HIS := fun w' (h : IdI w w' w1.heap.size gs n s a0 d) => Lib.hid (id_is gs s a0 d w' h.st)
            have HOV := fun w' (h : IdI w w' w1.heap.size gs n s a0 d) => Lib.hid (id_over gs s a0 d w' h.st hs)
            have hdo : decide ((2 : Int) ≤ s) = true := by simp <;> omega
            rw [hdo] at HOV
            clear hdo
            go_wp2_with (first | (go_at_call 9; (with_reducible refine (HG _ i1.ck).out.mono ?_); rintro e w4 ⟨rfl, h4⟩; have i4 := i1.went h4; have v1 := (HA.out.upd h4.2 (by have := HLT.out; omega)).two.2.2.2.1))
            go_wp2_with (first | (go_at_call 16; (with_reducible refine (HIS _ i4).out.mono ?_); rintro e w5 ⟨rfl, rfl⟩) | (go_at_call 17; (with_reducible refine (HOV _ i4).out.mono ?_); rintro e w5 ⟨rfl, rfl⟩))
            go_roundw
            case rel => exact ⟨k + 1, n, s, d, by omega, by go_num, rfl, rfl, rfl, hn, hs, i4⟩
            case measure => simp [intOf]; omega
          have hN2 : 0 < N := by omega
          have hni := add_in n N
          unfold inR at hni
          have hnp : 0 ≤ add n N := by (unfold add clampI; (repeat' split) <;> omega)
          have HG := fun w' (h : ClockC w' w1.heap.size n) => Lib.hid (ck_go w1.heap.size n N w' h hnr hNb (by omega))
          have HRA := fun w' => Lib.hid (ref_add n N w' hnr hNb)
          generalize add n N = m at *
          have hm2 : 0 ≤ m ∧ m ≤ 9223372036854775807 := by omega
          clear hn0 hN1 hni hnp
          have HIS := fun w' (h : IdI w w' w1.heap.size gs m s a0 d) => Lib.hid (id_is gs s a0 d w' h.st)
          have HOV := fun w' (h : IdI w w' w1.heap.size gs m s a0 d) => Lib.hid (id_over gs s a0 d w' h.st hs)
          have hdo : decide ((2 : Int) ≤ s) = true := by simp <;> omega
          rw [hdo] at HOV
          clear hdo
          go_wp2_with (first | (go_at_call 9; (with_reducible refine (HG _ i1.ck).out.mono ?_); rintro e w4 ⟨rfl, h4⟩; have i4 := i1.went h4; have v1 := (HA.out.upd h4.2 (by have := HLT.out; omega)).two.2.2.2.1) | (go_at_call 11; (with_reducible refine (HRA _).out.mono ?_); rintro e w6 ⟨rfl, rfl⟩))
          go_wp2_with (first | (go_at_call 16; (with_reducible refine (HIS _ i4).out.mono ?_); rintro e w5 ⟨rfl, rfl⟩) | (go_at_call 17; (with_reducible refine (HOV _ i4).out.mono ?_); rintro e w5 ⟨rfl, rfl⟩))
          go_roundw
          case rel => exact ⟨k + 1, m, s, d, by omega, by go_num, rfl, rfl, rfl, hm2, hs, i4⟩
          case measure => simp [intOf]; omega
        have hov2 : s < 2 := by omega
        clear hov
        by_cases hn0 : N < 0
        · have HG := fun w' (h : ClockC w' w1.heap.size n) => Lib.hid (ck_none w1.heap.size n N w' h hn0)
          have HIS := fun w' (h : IdI w w' w1.heap.size gs n s a0 d) => Lib.hid (id_is gs s a0 d w' h.st)
          have HOV := fun w' (h : IdI w w' w1.heap.size gs n s a0 d) => Lib.hid (id_over gs s a0 d w' h.st hs)
          have hdo : decide ((2 : Int) ≤ s) = false := by simp <;> omega
          rw [hdo] at HOV
          clear hdo
          go_wp2_with (first | (go_at_call 9; (with_reducible refine (HG _ i1.ck).out.mono ?_); rintro e w4 ⟨rfl, rfl⟩; have i4 := i1))
          go_wp2_with (first | (go_at_call 16; (with_reducible refine (HIS _ i4).out.mono ?_); rintro e w5 ⟨rfl, rfl⟩) | (go_at_call 17; (with_reducible refine (HOV _ i4).out.mono ?_); rintro e w5 ⟨rfl, rfl⟩))
          go_roundw
          case rel => exact ⟨k + 1, n, s, d, by omega, by go_num, rfl, rfl, rfl, hn, hs, i4⟩
          case measure => simp [intOf]; omega
        by_cases hN1 : N = 0
        · subst hN1
          have HG := fun w' (h : ClockC w' w1.heap.size n) => Lib.hid (ck_go w1.heap.size n 0 w' h hnr (by omega) (by omega))
          rw [add_zero64 hnr] at HG
          have HIS := fun w' (h : IdI w w' w1.heap.size gs n s a0 d) => Lib.hid (id_is gs s a0 d w' h.st)
          have HOV := fun w' (h : IdI w w' w1.heap.size gs n s a0 d) => Lib.hid (id_over gs s a0 d w' h.st hs)
          have hdo : decide ((2 : Int) ≤ s) = false := by simp <;> omega
          rw [hdo] at HOV
          clear hdo
          go_wp2_with (first | (go_at_call 9; (with_reducible refine (HG _ i1.ck).out.mono ?_); rintro e w4 ⟨rfl, h4⟩; have i4 := i1.went h4; have v1 := (HA.out.upd h4.2 (by have := HLT.out; omega)).two.2.2.2.1))
          go_wp2_with (first | (go_at_call 16; (with_reducible refine (HIS _ i4).out.mono ?_); rintro e w5 ⟨rfl, rfl⟩) | (go_at_call 17; (with_reducible refine (HOV _ i4).out.mono ?_); rintro e w5 ⟨rfl, rfl⟩))
          go_roundw
          case rel => exact ⟨k + 1, n, s, d, by omega, by go_num, rfl, rfl, rfl, hn, hs, i4⟩
          case measure => simp [intOf]; omega
        have hN2 : 0 < N := by omega
        have hni := add_in n N
        unfold inR at hni
        have hnp : 0 ≤ add n N := by (unfold add clampI; (repeat' split) <;> omega)
        have HG := fun w' (h : ClockC w' w1.heap.size n) => Lib.hid (ck_go w1.heap.size n N w' h hnr hNb (by omega))
        have HRA := fun w' => Lib.hid (ref_add n N w' hnr hNb)
        generalize add n N = m at *
        have hm2 : 0 ≤ m ∧ m ≤ 9223372036854775807 := by omega
        clear hn0 hN1 hni hnp
        have HIS := fun w' (h : IdI w w' w1.heap.size gs m s a0 d) => Lib.hid (id_is gs s a0 d w' h.st)
        have HOV := fun w' (h : IdI w w' w1.heap.size gs m s a0 d) => Lib.hid (id_over gs s a0 d w' h.st hs)
        have hdo : decide ((2 : Int) ≤ s) = false := by simp <;> omega
        rw [hdo] at HOV
        clear hdo
        go_wp2_with (first | (go_at_call 9; (with_reducible refine (HG _ i1.ck).out.mono ?_); rintro e w4 ⟨rfl, h4⟩; have i4 := i1.went h4; have v1 := (HA.out.upd h4.2 (by have := HLT.out; omega)).two.2.2.2.1) | (go_at_call 11; (with_reducible refine (HRA _).out.mono ?_); rintro e w6 ⟨rfl, rfl⟩))
        go_wp2_with (first | (go_at_call 16; (with_reducible refine (HIS _ i4).out.mono ?_); rintro e w5 ⟨rfl, rfl⟩) | (go_at_call 17; (with_reducible refine (HOV _ i4).out.mono ?_); rintro e w5 ⟨rfl, rfl⟩))
        go_roundw
        case rel => exact ⟨k + 1, m, s, d, by omega, by go_num, rfl, rfl, rfl, hm2, hs, i4⟩
        case measure => simp [intOf]; omega
      · by_cases hov : 2 ≤ s
        · have HE := fun w' (h : IdI w w' w1.heap.size gs n s a0 d) => Lib.hid (id_end_over gs s a0 d w' h.st (by omega) (by omega))
          have HIS := fun w' (h : IdI w w' w1.heap.size gs n s a0 d) => Lib.hid (id_is gs s a0 d w' h.st)
          have HOV := fun w' (h : IdI w w' w1.heap.size gs n s a0 d) => Lib.hid (id_over gs s a0 d w' h.st hs)
          have hdo : decide ((2 : Int) ≤ s) = true := by simp <;> omega
          rw [hdo] at HOV
          clear hdo
          go_wp2_with (go_at_call 12; (with_reducible refine (HE _ i1).out.mono ?_); rintro e w4 ⟨rfl, rfl⟩; have i4 := i1)
          go_wp2_with (first | (go_at_call 16; (with_reducible refine (HIS _ i4).out.mono ?_); rintro e w5 ⟨rfl, rfl⟩) | (go_at_call 17; (with_reducible refine (HOV _ i4).out.mono ?_); rintro e w5 ⟨rfl, rfl⟩))
          go_roundw
          case rel => exact ⟨k + 1, n, s, d, by omega, by go_num, rfl, rfl, rfl, hn, hs, i4⟩
          case measure => simp [intOf]; omega
        have hov2 : s < 2 := by omega
        have hnd : (!decide ((2 : Int) ≤ s)) = true := by rw [decide_eq_false (by omega)]; rfl
        clear hov
        have HE := fun w' (h : IdI w w' w1.heap.size gs n s a0 d) => Lib.hid (id_end gs s a0 d w' h.st (by omega) (by omega))
        have HIS := fun w' (h : IdI w w' w1.heap.size gs n 2 a0 d) => Lib.hid (id_is gs 2 a0 d w' h.st)
        have HOV := fun w' (h : IdI w w' w1.heap.size gs n 2 a0 d) => Lib.hid (id_over gs 2 a0 d w' h.st (by omega))
        have hdo : decide ((2 : Int) ≤ 2) = true := by simp <;> omega
        rw [hdo] at HOV
        clear hdo
        go_wp2_with (go_at_call 12; (with_reducible refine (HE _ i1).out.mono ?_); rintro e w4 ⟨rfl, h4⟩; have i4 := i1.did h4)
        go_wp2_with (first | (go_at_call 16; (with_reducible refine (HIS _ i4).out.mono ?_); rintro e w5 ⟨rfl, rfl⟩) | (go_at_call 17; (with_reducible refine (HOV _ i4).out.mono ?_); rintro e w5 ⟨rfl, rfl⟩))
        go_roundw
        case rel => exact ⟨k + 1, n, 2, d, by omega, by go_num, rfl, rfl, rfl, hn, (by omega), i4⟩
        case measure => simp [intOf]; omega
      · by_cases hov : 2 ≤ s
        · have HE := fun w' (h : IdI w w' w1.heap.size gs n s a0 d) => Lib.hid (id_fail_over gs s a0 d w' h.st (by omega) (by omega))
          have HIS := fun w' (h : IdI w w' w1.heap.size gs n s a0 d) => Lib.hid (id_is gs s a0 d w' h.st)
          have HOV := fun w' (h : IdI w w' w1.heap.size gs n s a0 d) => Lib.hid (id_over gs s a0 d w' h.st hs)
          have hdo : decide ((2 : Int) ≤ s) = true := by simp <;> omega
          rw [hdo] at HOV
          clear hdo
          go_wp2_with (go_at_call 13; (with_reducible refine (HE _ i1).out.mono ?_); rintro e w4 ⟨rfl, rfl⟩; have i4 := i1)
          go_wp2_with (first | (go_at_call 16; (with_reducible refine (HIS _ i4).out.mono ?_); rintro e w5 ⟨rfl, rfl⟩) | (go_at_call 17; (with_reducible refine (HOV _ i4).out.mono ?_); rintro e w5 ⟨rfl, rfl⟩))
          go_roundw
          case rel => exact ⟨k + 1, n, s, d, by omega, by go_num, rfl, rfl, rfl, hn, hs, i4⟩
          case measure => simp [intOf]; omega
        have hov2 : s < 2 := by omega
        have hnd : (!decide ((2 : Int) ≤ s)) = true := by rw [decide_eq_false (by omega)]; rfl
        clear hov
        have HE := fun w' (h : IdI w w' w1.heap.size gs n s a0 d) => Lib.hid (id_fail gs s a0 d w' h.st (by omega) (by omega))
        have HIS := fun w' (h : IdI w w' w1.heap.size gs n 3 a0 d) => Lib.hid (id_is gs 3 a0 d w' h.st)
        have HOV := fun w' (h : IdI w w' w1.heap.size gs n 3 a0 d) => Lib.hid (id_over gs 3 a0 d w' h.st (by omega))
        have hdo : decide ((2 : Int) ≤ 3) = true := by simp <;> omega
        rw [hdo] at HOV
        clear hdo
        go_wp2_with (go_at_call 13; (with_reducible refine (HE _ i1).out.mono ?_); rintro e w4 ⟨rfl, h4⟩; have i4 := i1.did h4)
        go_wp2_with (first | (go_at_call 16; (with_reducible refine (HIS _ i4).out.mono ?_); rintro e w5 ⟨rfl, rfl⟩) | (go_at_call 17; (with_reducible refine (HOV _ i4).out.mono ?_); rintro e w5 ⟨rfl, rfl⟩))
        go_roundw
        case rel => exact ⟨k + 1, n, 3, d, by omega, by go_num, rfl, rfl, rfl, hn, (by omega), i4⟩
        case measure => simp [intOf]; omega
      · by_cases hov : 2 ≤ s
        · have HE := fun w' (h : IdI w w' w1.heap.size gs n s a0 d) => Lib.hid (id_read_over w1.heap.size gs s a0 d w' h.st (by omega) (by omega))
          have HIS := fun w' (h : IdI w w' w1.heap.size gs n s a0 d) => Lib.hid (id_is gs s a0 d w' h.st)
          have HOV := fun w' (h : IdI w w' w1.heap.size gs n s a0 d) => Lib.hid (id_over gs s a0 d w' h.st hs)
          have hdo : decide ((2 : Int) ≤ s) = true := by simp <;> omega
          rw [hdo] at HOV
          clear hdo
          go_wp2_with (go_at_call 14; (with_reducible refine (HE _ i1).out.mono ?_); rintro e w4 ⟨rfl, rfl⟩; have i4 := i1)
          go_wp2_with (first | (go_at_call 16; (with_reducible refine (HIS _ i4).out.mono ?_); rintro e w5 ⟨rfl, rfl⟩) | (go_at_call 17; (with_reducible refine (HOV _ i4).out.mono ?_); rintro e w5 ⟨rfl, rfl⟩))
          go_roundw
          case rel => exact ⟨k + 1, n, s, d, by omega, by go_num, rfl, rfl, rfl, hn, hs, i4⟩
          case measure => simp [intOf]; omega
        have hov2 : s < 2 := by omega
        have hnd : (!decide ((2 : Int) ≤ s)) = true := by rw [decide_eq_false (by omega)]; rfl
        clear hov
        have HE := fun w' (h : IdI w w' w1.heap.size gs n s a0 d) => Lib.hid (id_read w1.heap.size n gs s a0 d w' h.ck h.ne hnr h0 h.st (by omega) (by omega) (add n T) (by have := HT.out; rw [this]))
        have HRA := fun w' => Lib.hid (ref_add n T w' hnr (by omega))
        generalize add n T = d' at *
        have HIS := fun w' (h : IdI w w' w1.heap.size gs n 0 a0 d') => Lib.hid (id_is gs 0 a0 d' w' h.st)
        have HOV := fun w' (h : IdI w w' w1.heap.size gs n 0 a0 d') => Lib.hid (id_over gs 0 a0 d' w' h.st (by omega))
        have hdo : decide ((2 : Int) ≤ 0) = false := by simp <;> omega
        rw [hdo] at HOV
        clear hdo
        go_wp2_with (first | (go_at_call 14; (with_reducible refine (HE _ i1).out.mono ?_); rintro e w4 ⟨rfl, h4⟩; have i4 := i1.did h4) | (go_at_call 11; (with_reducible refine (HRA _).out.mono ?_); rintro e w6 ⟨rfl, rfl⟩))
        go_wp2_with (first | (go_at_call 16; (with_reducible refine (HIS _ i4).out.mono ?_); rintro e w5 ⟨rfl, rfl⟩) | (go_at_call 17; (with_reducible refine (HOV _ i4).out.mono ?_); rintro e w5 ⟨rfl, rfl⟩))
        go_roundw
        case rel => exact ⟨k + 1, n, 0, d', by omega, by go_num, rfl, rfl, rfl, hn, (by omega), i4⟩
        case measure => simp [intOf]; omega
      · by_cases hov : 2 ≤ s
        · have HE := fun w' (h : IdI w w' w1.heap.size gs n s a0 d) => Lib.hid (id_read_over w1.heap.size gs s a0 d w' h.st (by omega) (by omega))
          have HIS := fun w' (h : IdI w w' w1.heap.size gs n s a0 d) => Lib.hid (id_is gs s a0 d w' h.st)
          have HOV := fun w' (h : IdI w w' w1.heap.size gs n s a0 d) => Lib.hid (id_over gs s a0 d w' h.st hs)
          have hdo : decide ((2 : Int) ≤ s) = true := by simp <;> omega
          rw [hdo] at HOV
          clear hdo
          go_wp2_with (go_at_call 14; (with_reducible refine (HE _ i1).out.mono ?_); rintro e w4 ⟨rfl, rfl⟩; have i4 := i1)
          go_wp2_with (first | (go_at_call 16; (with_reducible refine (HIS _ i4).out.mono ?_); rintro e w5 ⟨rfl, rfl⟩) | (go_at_call 17; (with_reducible refine (HOV _ i4).out.mono ?_); rintro e w5 ⟨rfl, rfl⟩))
          go_roundw
          case rel => exact ⟨k + 1, n, s, d, by omega, by go_num, rfl, rfl, rfl, hn, hs, i4⟩
          case measure => simp [intOf]; omega
        have hov2 : s < 2 := by omega
        have hnd : (!decide ((2 : Int) ≤ s)) = true := by rw [decide_eq_false (by omega)]; rfl
        clear hov
        have HE := fun w' (h : IdI w w' w1.heap.size gs n s a0 d) => Lib.hid (id_read w1.heap.size n gs s a0 d w' h.ck h.ne hnr h0 h.st (by omega) (by omega) (add n T) (by have := HT.out; rw [this]))
        have HRA := fun w' => Lib.hid (ref_add n T w' hnr (by omega))
        generalize add n T = d' at *
        have HIS := fun w' (h : IdI w w' w1.heap.size gs n 0 a0 d') => Lib.hid (id_is gs 0 a0 d' w' h.st)
        have HOV := fun w' (h : IdI w w' w1.heap.size gs n 0 a0 d') => Lib.hid (id_over gs 0 a0 d' w' h.st (by omega))
        have hdo : decide ((2 : Int) ≤ 0) = false := by simp <;> omega
        rw [hdo] at HOV
        clear hdo
        go_wp2_with (first | (go_at_call 14; (with_reducible refine (HE _ i1).out.mono ?_); rintro e w4 ⟨rfl, h4⟩; have i4 := i1.did h4) | (go_at_call 11; (with_reducible refine (HRA _).out.mono ?_); rintro e w6 ⟨rfl, rfl⟩))
        go_wp2_with (first | (go_at_call 16; (with_reducible refine (HIS _ i4).out.mono ?_); rintro e w5 ⟨rfl, rfl⟩) | (go_at_call 17; (with_reducible refine (HOV _ i4).out.mono ?_); rintro e w5 ⟨rfl, rfl⟩))
        go_roundw
        case rel => exact ⟨k + 1, n, 0, d', by omega, by go_num, rfl, rfl, rfl, hn, (by omega), i4⟩
        case measure => simp [intOf]; omega
      · by_cases hsz0 : s = 0
        · subst hsz0
          by_cases hdn : d ≤ n
          · have HE := fun w' (h : IdI w w' w1.heap.size gs n 0 a0 d) => Lib.hid (id_tick w1.heap.size n gs a0 d w' h.ck h.ne h.st hdn)
            have HIS := fun w' (h : IdI w w' w1.heap.size gs n 1 a0 d) => Lib.hid (id_is gs 1 a0 d w' h.st)
            have HOV := fun w' (h : IdI w w' w1.heap.size gs n 1 a0 d) => Lib.hid (id_over gs 1 a0 d w' h.st (by omega))
            have hdo : decide ((2 : Int) ≤ 1) = false := by simp <;> omega
            rw [hdo] at HOV
            clear hdo
            go_wp2_with (go_at_call 15; (with_reducible refine (HE _ i1).out.mono ?_); rintro e w4 ⟨rfl, h4⟩; have i4 := i1.did h4)
            go_wp2_with (first | (go_at_call 16; (with_reducible refine (HIS _ i4).out.mono ?_); rintro e w5 ⟨rfl, rfl⟩) | (go_at_call 17; (with_reducible refine (HOV _ i4).out.mono ?_); rintro e w5 ⟨rfl, rfl⟩))
            go_roundw
            case rel => exact ⟨k + 1, n, 1, d, by omega, by go_num, rfl, rfl, rfl, hn, (by omega), i4⟩
            case measure => simp [intOf]; omega
          · have hdn2 : n < d := by omega
            clear hdn
            have HE := fun w' (h : IdI w w' w1.heap.size gs n 0 a0 d) => Lib.hid (id_tick_not w1.heap.size n gs 0 a0 d w' h.ck h.st (by omega))
            have HIS := fun w' (h : IdI w w' w1.heap.size gs n 0 a0 d) => Lib.hid (id_is gs 0 a0 d w' h.st)
            have HOV := fun w' (h : IdI w w' w1.heap.size gs n 0 a0 d) => Lib.hid (id_over gs 0 a0 d w' h.st (by omega))
            have hdo : decide ((2 : Int) ≤ 0) = false := by simp <;> omega
            rw [hdo] at HOV
            clear hdo
            go_wp2_with (go_at_call 15; (with_reducible refine (HE _ i1).out.mono ?_); rintro e w4 ⟨rfl, rfl⟩; have i4 := i1)
            go_wp2_with (first | (go_at_call 16; (with_reducible refine (HIS _ i4).out.mono ?_); rintro e w5 ⟨rfl, rfl⟩) | (go_at_call 17; (with_reducible refine (HOV _ i4).out.mono ?_); rintro e w5 ⟨rfl, rfl⟩))
            go_roundw
            case rel => exact ⟨k + 1, n, 0, d, by omega, by go_num, rfl, rfl, rfl, hn, (by omega), i4⟩
            case measure => simp [intOf]; omega
        by_cases hov : 2 ≤ s
        · have HE := fun w' (h : IdI w w' w1.heap.size gs n s a0 d) => Lib.hid (id_tick_not w1.heap.size n gs s a0 d w' h.ck h.st (fun e => absurd e hsz0))
          have HIS := fun w' (h : IdI w w' w1.heap.size gs n s a0 d) => Lib.hid (id_is gs s a0 d w' h.st)
          have HOV := fun w' (h : IdI w w' w1.heap.size gs n s a0 d) => Lib.hid (id_over gs s a0 d w' h.st hs)
          have hdo : decide ((2 : Int) ≤ s) = true := by simp <;> omega
          rw [hdo] at HOV
          clear hdo
          go_wp2_with (go_at_call 15; (with_reducible refine (HE _ i1).out.mono ?_); rintro e w4 ⟨rfl, rfl⟩; have i4 := i1)
          go_wp2_with (first | (go_at_call 16; (with_reducible refine (HIS _ i4).out.mono ?_); rintro e w5 ⟨rfl, rfl⟩) | (go_at_call 17; (with_reducible refine (HOV _ i4).out.mono ?_); rintro e w5 ⟨rfl, rfl⟩))
          go_roundw
          case rel => exact ⟨k + 1, n, s, d, by omega, by go_num, rfl, rfl, rfl, hn, hs, i4⟩
          case measure => simp [intOf]; omega
        have hov2 : s < 2 := by omega
        clear hov
        have HE := fun w' (h : IdI w w' w1.heap.size gs n s a0 d) => Lib.hid (id_tick_not w1.heap.size n gs s a0 d w' h.ck h.st (fun e => absurd e hsz0))
        have HIS := fun w' (h : IdI w w' w1.heap.size gs n s a0 d) => Lib.hid (id_is gs s a0 d w' h.st)
        have HOV := fun w' (h : IdI w w' w1.heap.size gs n s a0 d) => Lib.hid (id_over gs s a0 d w' h.st hs)
        have hdo : decide ((2 : Int) ≤ s) = false := by simp <;> omega
        rw [hdo] at HOV
        clear hdo
        go_wp2_with (go_at_call 15; (with_reducible refine (HE _ i1).out.mono ?_); rintro e w4 ⟨rfl, rfl⟩; have i4 := i1)
        go_wp2_with (first | (go_at_call 16; (with_reducible refine (HIS _ i4).out.mono ?_); rintro e w5 ⟨rfl, rfl⟩) | (go_at_call 17; (with_reducible refine (HOV _ i4).out.mono ?_); rintro e w5 ⟨rfl, rfl⟩))
        go_roundw
        case rel => exact ⟨k + 1, n, s, d, by omega, by go_num, rfl, rfl, rfl, hn, hs, i4⟩
        case measure => simp [intOf]; omega
      · by_cases hsz0 : s = 0
        · subst hsz0
          by_cases hdn : d ≤ n
          · have HE := fun w' (h : IdI w w' w1.heap.size gs n 0 a0 d) => Lib.hid (id_tick w1.heap.size n gs a0 d w' h.ck h.ne h.st hdn)
            have HIS := fun w' (h : IdI w w' w1.heap.size gs n 1 a0 d) => Lib.hid (id_is gs 1 a0 d w' h.st)
            have HOV := fun w' (h : IdI w w' w1.heap.size gs n 1 a0 d) => Lib.hid (id_over gs 1 a0 d w' h.st (by omega))
            have hdo : decide ((2 : Int) ≤ 1) = false := by simp <;> omega
            rw [hdo] at HOV
            clear hdo
            go_wp2_with (go_at_call 15; (with_reducible refine (HE _ i1).out.mono ?_); rintro e w4 ⟨rfl, h4⟩; have i4 := i1.did h4)
            go_wp2_with (first | (go_at_call 16; (with_reducible refine (HIS _ i4).out.mono ?_); rintro e w5 ⟨rfl, rfl⟩) | (go_at_call 17; (with_reducible refine (HOV _ i4).out.mono ?_); rintro e w5 ⟨rfl, rfl⟩))
            go_roundw
            case rel => exact ⟨k + 1, n, 1, d, by omega, by go_num, rfl, rfl, rfl, hn, (by omega), i4⟩
            case measure => simp [intOf]; omega
          · have hdn2 : n < d := by omega
            clear hdn
            have HE := fun w' (h : IdI w w' w1.heap.size gs n 0 a0 d) => Lib.hid (id_tick_not w1.heap.size n gs 0 a0 d w' h.ck h.st (by omega))
            have HIS := fun w' (h : IdI w w' w1.heap.size gs n 0 a0 d) => Lib.hid (id_is gs 0 a0 d w' h.st)
            have HOV := fun w' (h : IdI w w' w1.heap.size gs n 0 a0 d) => Lib.hid (id_over gs 0 a0 d w' h.st (by omega))
            have hdo : decide ((2 : Int) ≤ 0) = false := by simp <;> omega
            rw [hdo] at HOV
            clear hdo
            go_wp2_with (go_at_call 15; (with_reducible refine (HE _ i1).out.mono ?_); rintro e w4 ⟨rfl, rfl⟩; have i4 := i1)
            go_wp2_with (first | (go_at_call 16; (with_reducible refine (HIS _ i4).out.mono ?_); rintro e w5 ⟨rfl, rfl⟩) | (go_at_call 17; (with_reducible refine (HOV _ i4).out.mono ?_); rintro e w5 ⟨rfl, rfl⟩))
            go_roundw
            case rel => exact ⟨k + 1, n, 0, d, by omega, by go_num, rfl, rfl, rfl, hn, (by omega), i4⟩
            case measure => simp [intOf]; omega
        by_cases hov : 2 ≤ s
        · have HE := fun w' (h : IdI w w' w1.heap.size gs n s a0 d) => Lib.hid (id_tick_not w1.heap.size n gs s a0 d w' h.ck h.st (fun e => absurd e hsz0))
          have HIS := fun w' (h : IdI w w' w1.heap.size gs n s a0 d) => Lib.hid (id_is gs s a0 d w' h.st)
          have HOV := fun w' (h : IdI w w' w1.heap.size gs n s a0 d) => Lib.hid (id_over gs s a0 d w' h.st hs)
          have hdo : decide ((2 : Int) ≤ s) = true := by simp <;> omega
          rw [hdo] at HOV
          clear hdo
          go_wp2_with (go_at_call 15; (with_reducible refine (HE _ i1).out.mono ?_); rintro e w4 ⟨rfl, rfl⟩; have i4 := i1)
          go_wp2_with (first | (go_at_call 16; (with_reducible refine (HIS _ i4).out.mono ?_); rintro e w5 ⟨rfl, rfl⟩) | (go_at_call 17; (with_reducible refine (HOV _ i4).out.mono ?_); rintro e w5 ⟨rfl, rfl⟩))
          go_roundw
          case rel => exact ⟨k + 1, n, s, d, by omega, by go_num, rfl, rfl, rfl, hn, hs, i4⟩
          case measure => simp [intOf]; omega
        have hov2 : s < 2 := by omega
        clear hov
        have HE := fun w' (h : IdI w w' w1.heap.size gs n s a0 d) => Lib.hid (id_tick_not w1.heap.size n gs s a0 d w' h.ck h.st (fun e => absurd e hsz0))
        have HIS := fun w' (h : IdI w w' w1.heap.size gs n s a0 d) => Lib.hid (id_is gs s a0 d w' h.st)
        have HOV := fun w' (h : IdI w w' w1.heap.size gs n s a0 d) => Lib.hid (id_over gs s a0 d w' h.st hs)
        have hdo : decide ((2 : Int) ≤ s) = false := by simp <;> omega
        rw [hdo] at HOV
        clear hdo
        go_wp2_with (go_at_call 15; (with_reducible refine (HE _ i1).out.mono ?_); rintro e w4 ⟨rfl, rfl⟩; have i4 := i1)
        go_wp2_with (first | (go_at_call 16; (with_reducible refine (HIS _ i4).out.mono ?_); rintro e w5 ⟨rfl, rfl⟩) | (go_at_call 17; (with_reducible refine (HOV _ i4).out.mono ?_); rintro e w5 ⟨rfl, rfl⟩))
        go_roundw
        case rel => exact ⟨k + 1, n, s, d, by omega, by go_num, rfl, rfl, rfl, hn, hs, i4⟩
        case measure => simp [intOf]; omega
      · by_cases hsz0 : s = 0
        · subst hsz0
          by_cases hdn : d ≤ n
          · have HE := fun w' (h : IdI w w' w1.heap.size gs n 0 a0 d) => Lib.hid (id_tick w1.heap.size n gs a0 d w' h.ck h.ne h.st hdn)
            have HIS := fun w' (h : IdI w w' w1.heap.size gs n 1 a0 d) => Lib.hid (id_is gs 1 a0 d w' h.st)
            have HOV := fun w' (h : IdI w w' w1.heap.size gs n 1 a0 d) => Lib.hid (id_over gs 1 a0 d w' h.st (by omega))
            have hdo : decide ((2 : Int) ≤ 1) = false := by simp <;> omega
            rw [hdo] at HOV
            clear hdo
            go_wp2_with (go_at_call 15; (with_reducible refine (HE _ i1).out.mono ?_); rintro e w4 ⟨rfl, h4⟩; have i4 := i1.did h4)
            go_wp2_with (first | (go_at_call 16; (with_reducible refine (HIS _ i4).out.mono ?_); rintro e w5 ⟨rfl, rfl⟩) | (go_at_call 17; (with_reducible refine (HOV _ i4).out.mono ?_); rintro e w5 ⟨rfl, rfl⟩))
            go_roundw
            case rel => exact ⟨k + 1, n, 1, d, by omega, by go_num, rfl, rfl, rfl, hn, (by omega), i4⟩
            case measure => simp [intOf]; omega
          · have hdn2 : n < d := by omega
            clear hdn
            have HE := fun w' (h : IdI w w' w1.heap.size gs n 0 a0 d) => Lib.hid (id_tick_not w1.heap.size n gs 0 a0 d w' h.ck h.st (by omega))
            have HIS := fun w' (h : IdI w w' w1.heap.size gs n 0 a0 d) => Lib.hid (id_is gs 0 a0 d w' h.st)
            have HOV := fun w' (h : IdI w w' w1.heap.size gs n 0 a0 d) => Lib.hid (id_over gs 0 a0 d w' h.st (by omega))
            have hdo : decide ((2 : Int) ≤ 0) = false := by simp <;> omega
            rw [hdo] at HOV
            clear hdo
            go_wp2_with (go_at_call 15; (with_reducible refine (HE _ i1).out.mono ?_); rintro e w4 ⟨rfl, rfl⟩; have i4 := i1)
            go_wp2_with (first | (go_at_call 16; (with_reducible refine (HIS _ i4).out.mono ?_); rintro e w5 ⟨rfl, rfl⟩) | (go_at_call 17; (with_reducible refine (HOV _ i4).out.mono ?_); rintro e w5 ⟨rfl, rfl⟩))
            go_roundw
            case rel => exact ⟨k + 1, n, 0, d, by omega, by go_num, rfl, rfl, rfl, hn, (by omega), i4⟩
            case measure => simp [intOf]; omega
        by_cases hov : 2 ≤ s
        · have HE := fun w' (h : IdI w w' w1.heap.size gs n s a0 d) => Lib.hid (id_tick_not w1.heap.size n gs s a0 d w' h.ck h.st (fun e => absurd e hsz0))
          have HIS := fun w' (h : IdI w w' w1.heap.size gs n s a0 d) => Lib.hid (id_is gs s a0 d w' h.st)
          have HOV := fun w' (h : IdI w w' w1.heap.size gs n s a0 d) => Lib.hid (id_over gs s a0 d w' h.st hs)
          have hdo : decide ((2 : Int) ≤ s) = true := by simp <;> omega
          rw [hdo] at HOV
          clear hdo
          go_wp2_with (go_at_call 15; (with_reducible refine (HE _ i1).out.mono ?_); rintro e w4 ⟨rfl, rfl⟩; have i4 := i1)
          go_wp2_with (first | (go_at_call 16; (with_reducible refine (HIS _ i4).out.mono ?_); rintro e w5 ⟨rfl, rfl⟩) | (go_at_call 17; (with_reducible refine (HOV _ i4).out.mono ?_); rintro e w5 ⟨rfl, rfl⟩))
          go_roundw
          case rel => exact ⟨k + 1, n, s, d, by omega, by go_num, rfl, rfl, rfl, hn, hs, i4⟩
          case measure => simp [intOf]; omega
        have hov2 : s < 2 := by omega
        clear hov
        have HE := fun w' (h : IdI w w' w1.heap.size gs n s a0 d) => Lib.hid (id_tick_not w1.heap.size n gs s a0 d w' h.ck h.st (fun e => absurd e hsz0))
        have HIS := fun w' (h : IdI w w' w1.heap.size gs n s a0 d) => Lib.hid (id_is gs s a0 d w' h.st)
        have HOV := fun w' (h : IdI w w' w1.heap.size gs n s a0 d) => Lib.hid (id_over gs s a0 d w' h.st hs)
        have hdo : decide ((2 : Int) ≤ s) = false := by simp <;> omega
        rw [hdo] at HOV
        clear hdo
        go_wp2_with (go_at_call 15; (with_reducible refine (HE _ i1).out.mono ?_); rintro e w4 ⟨rfl, rfl⟩; have i4 := i1)
        go_wp2_with (first | (go_at_call 16; (with_reducible refine (HIS _ i4).out.mono ?_); rintro e w5 ⟨rfl, rfl⟩) | (go_at_call 17; (with_reducible refine (HOV _ i4).out.mono ?_); rintro e w5 ⟨rfl, rfl⟩))
        go_roundw
        case rel => exact ⟨k + 1, n, s, d, by omega, by go_num, rfl, rfl, rfl, hn, hs, i4⟩
        case measure => simp [intOf]; omega
    · have hb9 := hI.new
      obtain rfl : k = l2.length := by omega
      go_wp2
      go_ret
      exact ⟨rfl, hb9⟩
end Go.Proofs.Ytiahiadipmmgcaa
