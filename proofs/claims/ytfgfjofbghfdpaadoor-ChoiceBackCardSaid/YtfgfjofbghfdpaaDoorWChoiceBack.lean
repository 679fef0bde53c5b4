/- The walk of the law ChoiceBack. -/
import Derived.Test.YtfgfjofbghfdpaaDoorSpeaks20
import Derived.Test.YtfgfjofbghfdpaaDoorCfgIn
namespace Go.Proofs.YtfgfjofbghfdpaaDoor
set_option maxRecDepth 4000
open Go.ChangeShapes Go.WideShapes Go.ChangeAt Go.RowKit
open PWord
set_option linter.unusedVariables false
set_option linter.unusedSimpArgs false

set_option maxRecDepth 100000 in
set_option maxHeartbeats 6000000 in
theorem walk_ChoiceBack (w : World) (he : EnvW w) (a0 : Option Addr) (n0 c0 : Nat) (l0 : List (Bool × Int × Unit)) (w0 : Rd w (.sl (.pair .bool (.pair (.int .i64) .unit))) [.slice a0 n0 c0] l0) :
    Calls Tryd.prog 7 #[.slice a0 n0 c0] w fun e w' => e = .returned (.bool true) ∧ Below w.heap.size w w' := by
  obtain ⟨hn, hnc, hcm, hr, hb64⟩ := Rd.chs w0
  generalize l0.map toC = l at *
  clear w0 hnc hcm
  have HSP := Lib.hid (speaks20 w he)
  by_cases hl : n0 ≤ 200
  · have hl' : ¬ (200 : Int) < n0 := by omega
    have HN := Lib.hid hn
    have HB := Lib.hid hb64
    have HTK := Lib.hid (fun w (hr : RowG w 2 chc a0 l) => ch_ticks l a0 n0 c0 w hr hb64 hn (by omega))
    clear hn hb64
    go_enter Tryd.func7, Tryd.ntmps7
    go_wp2_with (first | (go_at_call 25; refine HSP.out.mono ?_; rintro e w1 ⟨rfl, hb1⟩))
    go_loopw [3, 16] (fun v i wr => ∃ k : Nat, k ≤ n0 ∧ i = .int .i64 k ∧ v = .int .i64 (tsum (l.take k)) ∧ Below w.heap.size w wr) (fun _ i _ => n0 - (intOf i).toNat)
    case atStart => exact ⟨0, Nat.zero_le _, rfl, rfl, hb1⟩
    case round =>
      clear hb1 HSP
      obtain ⟨k, hk, rfl, rfl, hb⟩ := hrel
      have hrow := hr.below hb
      by_cases hlt : k < n0
      · have hk1 : k < l.length := by rw [← HN.out]; exact hlt
        obtain ⟨b1, o1, rfl, -, -⟩ := hrow.at_ k hk1
        obtain ⟨hbl1, p0, p1⟩ := RowC.cells hrow k hk1
        have hx := HB.out _ (List.getElem_mem hk1)
        have hst := tsum_take l k hk1
        have hin := tsum_in (l.take k)
        have HST := Lib.hid hst
        clear hrow hst
        generalize l[k] = r at *
        obtain ⟨t, n⟩ := r
        simp only at p0 p1 hx
        generalize tsum (l.take k) = z at *
        have HL := Lib.hid (fun w he => ch_line t n hx w he)
        have hrd : PWord.read (bstr (cline t n)).data.toList = some (t, n) := read_cline t n hx
        have hsz : (bstr (cline t n)).size ≤ 1000000 := by
          rw [tx_size]
          have := itoa_len hx
          unfold cline
          cases t <;> simp [cname] <;> omega
        have hR := fun w he => ch_read (bstr (cline t n)) w he hsz
        rw [hrd] at hR
        have HR : Hid (∀ w, EnvW w → Calls Tryd.prog 27 #[.string (bstr (cline t n))] w fun e w' => e = .returned (.tuple #[.agg #[.bool t, .int .i64 n], .bool true]) ∧ Below w.heap.size w w') := hR
        have HF := Lib.hid (fun w => ref_line20 t n hx w)
        obtain ⟨y, hy⟩ : ∃ y : Int, max n 0 = y := ⟨_, rfl⟩
        have hyb : in64 y := by obtain ⟨h0, h1⟩ := hx; exact ⟨by omega, by omega⟩
        have HAD := Lib.hid (fun w => ref_add z y w hin hyb)
        have hnew : tsum (l.take (k + 1)) = if t = true then PSat.add z y else z := by
          rw [HST.out]
          unfold tstep
          cases t
          · simp
          · simp only [true_and, if_true]
            by_cases h0 : 0 ≤ n
            · rw [if_pos h0]; congr 1; omega
            · rw [if_neg h0]
              have hy0 : y = 0 := by omega
              subst hy0
              unfold PSat.add PSat.clampI
              obtain ⟨g0, g1⟩ := hin
              rw [Int.add_zero, if_neg (by omega), if_neg (by omega)]
        have HNEW := Lib.hid hnew
        have HPO := Lib.hid (fun w => ch_poll n w)
        have HTI := Lib.hid (fun w => ch_tick n w)
        have hA0 := At.alloc wr [.bool t, .int .i64 n] 50
        have hbx := hb.alloc hb.size (.cells #[.bool t, .int .i64 n] 50)
        have heX := he.on hbx
        have HA0 := Lib.hid hA0
        have HBX := Lib.hid hbx
        have HEX := Lib.hid heX
        clear hA0 hbx heX hnew hR hrd hsz HST hk1
        generalize bstr (cline t n) = s at *
        cases t
        · simp only [Bool.false_eq_true, if_false] at HNEW
          go_wp2_with (first | (go_at_call 26; (with_reducible refine (HL.out _ HEX.out).mono ?_); rintro e w2 ⟨rfl, hb2⟩; have he2 := HEX.out.on hb2) | (go_at_call 27; (with_reducible refine (HR.out _ he2).mono ?_); rintro e w3 ⟨rfl, hb3⟩; obtain ⟨hg3, c0', z0, c1', z1⟩ := ((HA0.out.on hb2).on hb3).two; have hb33 := on_below (on_below HBX.out hb2) hb3) | (go_at_call 28; (with_reducible refine (HF.out _).mono ?_); rintro e w5 ⟨rfl, hb5⟩; have hAx := (At.alloc w3 [.bool false, .int .i64 n] 50).on hb5; have hAc := (((HA0.out.on hb2).on hb3).on ((Below.refl _ _).alloc (Nat.le_refl _) (.cells #[.bool false, .int .i64 n] 50))).on hb5; obtain ⟨hg5, d0, y0, d1, y1⟩ := hAx.two; obtain ⟨hg5', e0, x0, e1, x1⟩ := hAc.two; have hne : wr.heap.size ≠ w3.heap.size := Nat.ne_of_lt hg3; have hb55 := on_below (hb33.alloc hb33.size (.cells #[.bool false, .int .i64 n] 50)) hb5) | (go_at_call 31; (with_reducible refine (HPO.out _).mono ?_); rintro e w6 ⟨rfl, hb6⟩; have hAx6 := hAx.on hb6; have hAc6 := hAc.on hb6; obtain ⟨hg6, f0, u0, f1, u1⟩ := hAx6.two; obtain ⟨hg6', g0, v0, g1, v1⟩ := hAc6.two; obtain ⟨q0, q1⟩ := hAx6.put2))
          go_roundw
          case rel => exact ⟨k + 1, by omega, by go_num, by rw [HNEW.out], ((on_below hb55 hb6).setCell (by have := hb33.size; simpa using this) _).setCell (by have := hb33.size; simpa using this) _⟩
          case measure => simp [intOf]; omega
        · simp only [if_true] at HNEW
          go_wp2_with (first | (go_at_call 26; (with_reducible refine (HL.out _ HEX.out).mono ?_); rintro e w2 ⟨rfl, hb2⟩; have he2 := HEX.out.on hb2) | (go_at_call 27; (with_reducible refine (HR.out _ he2).mono ?_); rintro e w3 ⟨rfl, hb3⟩; obtain ⟨hg3, c0', z0, c1', z1⟩ := ((HA0.out.on hb2).on hb3).two; have hb33 := on_below (on_below HBX.out hb2) hb3) | (go_at_call 28; (with_reducible refine (HF.out _).mono ?_); rintro e w5 ⟨rfl, hb5⟩; have hAx := (At.alloc w3 [.bool true, .int .i64 n] 50).on hb5; have hAc := (((HA0.out.on hb2).on hb3).on ((Below.refl _ _).alloc (Nat.le_refl _) (.cells #[.bool true, .int .i64 n] 50))).on hb5; obtain ⟨hg5, d0, y0, d1, y1⟩ := hAx.two; obtain ⟨hg5', e0, x0, e1, x1⟩ := hAc.two; have hne : wr.heap.size ≠ w3.heap.size := Nat.ne_of_lt hg3; have hb55 := on_below (hb33.alloc hb33.size (.cells #[.bool true, .int .i64 n] 50)) hb5) | (go_at_call 29; (with_reducible refine (HAD.out _).mono ?_); rintro e w8 ⟨rfl, rfl⟩) | (go_at_call 30; (with_reducible refine (HTI.out _).mono ?_); rintro e w6 ⟨rfl, hb6⟩; have hAx6 := hAx.on hb6; have hAc6 := hAc.on hb6; obtain ⟨hg6, f0, u0, f1, u1⟩ := hAx6.two; obtain ⟨hg6', g0, v0, g1, v1⟩ := hAc6.two; obtain ⟨q0, q1⟩ := hAx6.put2))
          go_roundw
          case rel => exact ⟨k + 1, by omega, by go_num, by rw [HNEW.out], ((on_below hb55 hb6).setCell (by have := hb33.size; simpa using this) _).setCell (by have := hb33.size; simpa using this) _⟩
          case measure => simp [intOf]; omega
      · obtain rfl : k = n0 := by omega
        have HT2 := Lib.hid (HTK.out wr hrow)
        have htl : l.take k = l := List.take_of_length_le (by rw [← HN.out]; exact Nat.le_refl _)
        rw [htl]
        go_wp2_with (go_at_call 32; (with_reducible refine HT2.out.mono ?_); rintro e w2 ⟨rfl, hb2⟩)
        go_ret
        exact ⟨by simp, on_below hb hb2⟩
  · have hl' : (200 : Int) < n0 := by omega
    go_enter Tryd.func7, Tryd.ntmps7
    go_wp2_with (first | (go_at_call 25; refine HSP.out.mono ?_; rintro e w1 ⟨rfl, hb1⟩))
    go_ret
    exact ⟨rfl, hb1⟩
end Go.Proofs.YtfgfjofbghfdpaaDoor
