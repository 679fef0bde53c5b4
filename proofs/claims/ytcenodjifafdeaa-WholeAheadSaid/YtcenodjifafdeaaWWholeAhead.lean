/- The walk of WholeAhead. -/
import Derived.Test.YtcenodjifafdeaaWa
import Derived.BigQuiet
import Derived.Deep.LoopGhost
import Derived.Deep.DeepCutAuto
namespace Go.Proofs.Ytcenodjifafdeaa
set_option maxRecDepth 4000
open Go.ChangeShapes Go.WideShapes Go.ChangeAt Go.RowKit
open PTree PSat PAlign
set_option linter.unusedVariables false
set_option linter.unusedSimpArgs false

set_option maxRecDepth 100000 in
set_option maxHeartbeats 4000000 in
theorem walk_WholeAhead (w : World) (a0 : Int) (w0 : (Lit.int .i64 a0).wf = true) (a1 : Int) (w1 : (Lit.int .u8 a1).wf = true) (a2 : Option Addr) (n2 c2 : Nat) (l2 : List (Bool × Int × Int × Unit)) (w2 : Rd w (.sl (.pair .bool (.pair (.int .i64) (.pair (.int .i64) .unit)))) [.slice a2 n2 c2] l2) :
    Calls Try.prog 7 #[.int .i64 a0, .int .u8 a1, .slice a2 n2 c2] w fun e w' => e = .returned (.bool true) ∧ Below w.heap.size w w' := by
  have hR : n2 = l2.length ∧ n2 ≤ c2 ∧ c2 ≤ maxLen ∧ RowG w 3 actA a2 l2 ∧ ∀ x ∈ l2, actAq x := Rd.rowG (s := .pair .bool (.pair (.int .i64) (.pair (.int .i64) .unit))) 3 rfl (by decide) actA actAq (fun w cs d h => Rd.actA h) w2
  obtain ⟨rfl, -, -, hl, hq'⟩ := hR
  have HQ := Lib.hid hq'
  have h0 : -9223372036854775808 ≤ a0 ∧ a0 ≤ 9223372036854775807 := bounds_i64 w0
  have h1 := bounds_u8 w1
  clear w0 w1 w2 hq'
  have HN0 := Lib.hid (al_new 5 1 1 w (by unfold inR; omega) (by decide) (by omega))
  have hl1 : add (-9223372036854775808) 5 = -9223372036854775803 := by decide
  have HL0 := fun g gl w' (h : AlI w w' g gl 1 5 (-9223372036854775808) (fun _ => -9223372036854775808)) => Lib.hid (hl1 ▸ al_limit g gl 1 5 _ _ w' h.al)
  clear hl1
  by_cases hneg : a0 < 0
  · go_enter Try.func7, Try.ntmps7
    go_wp2_with (go_at_call 18; refine HN0.out.mono ?_; intro e w1 h1; obtain ⟨g0, gl0, rfl, i1⟩ := AlI.made (Below.refl _ _) h1)
    go_wp2_with (go_at_call 24; (with_reducible refine (HL0 _ _ _ i1).out.mono ?_); rintro e w2 ⟨rfl, hm⟩; have hb1 := (i1.on (on_quiet hm)).new; clear hm)
    go_ret
    exact ⟨rfl, hb1⟩
  have hneg2 : 0 ≤ a0 := by omega
  clear hneg
  by_cases hbig : 100 < l2.length
  · go_enter Try.func7, Try.ntmps7
    go_wp2_with (go_at_call 18; refine HN0.out.mono ?_; intro e w1 h1; obtain ⟨g0, gl0, rfl, i1⟩ := AlI.made (Below.refl _ _) h1)
    go_wp2_with (go_at_call 24; (with_reducible refine (HL0 _ _ _ i1).out.mono ?_); rintro e w2 ⟨rfl, hm⟩; have hb1 := (i1.on (on_quiet hm)).new; clear hm)
    go_ret
    exact ⟨rfl, hb1⟩
  have hbig2 : l2.length ≤ 100 := by omega
  clear hbig
  obtain ⟨n, hn⟩ : ∃ n : Nat, 1 + a1 % 12 = (n : Int) := ⟨(1 + a1 % 12).toNat, by omega⟩
  have hn3 : n ≤ 12 := by omega
  have hn4 : (1 : Int) ≤ (n : Int) := by omega
  have hn5 : (n : Int) ≤ 12 := by omega
  have HNM := fun w' => Lib.hid (me_new n n w' (by omega) (by omega))
  have HNA := fun w' => Lib.hid (al_new a0 n n w' h0 (by omega) (by omega))
  have hmk := run_make_row' (P := Try.prog) 47 3 (.int .i64 0) 8 Try.underlying47 (by kernel_rfl) rfl .i64 .i64 n (by omega) (by omega)
  go_enter Try.func7, Try.ntmps7
  go_wp2_with (go_at_call 18; refine HN0.out.mono ?_; intro e w1 h1; obtain ⟨g0, gl0, rfl, i1⟩ := AlI.made (Below.refl _ _) h1)
  go_wp2_with (go_at_call 24; (with_reducible refine (HL0 _ _ _ i1).out.mono ?_); rintro e w2 ⟨rfl, hm⟩; have hb1 := (i1.on (on_quiet hm)).new; clear hm)
  go_wp2_with (first | (go_at_call 9; (with_reducible refine (HNM _).out.mono ?_); intro e w3 h3; obtain ⟨F, gm, rfl, i3⟩ := MeI.made hb1 h3) | (go_at_call 18; (with_reducible refine (HNA _).out.mono ?_); intro e w4 h4; obtain ⟨g, gl, rfl, hal, hg4, hl4, hb4⟩ := h4))
  have hb3 := i3.new
  have i4 := i3.on hb4
  have i5 : AlI w w4 g gl n a0 (-9223372036854775808) (fun _ => -9223372036854775808) := ⟨hal, by have := hb3.size; omega, by have := hb3.size; omega, i4.new⟩
  have hW : Wa w (w4.alloc (.cells (madeCells #[.int .i64 0] n) 3)) F gm g gl w4.heap.size n a0 (fun _ => -9223372036854775808) (fun _ => 0) (-9223372036854775808) (fun _ => -9223372036854775808) (-9223372036854775808) (fun _ => 0) :=
    ⟨i4.alloc _, i5.alloc _, own_rowI w4 (.int .i64 0) n 3, fun hf => by have := i3.me.lt _ hf; omega, fun hf => by have := i3.me.lt _ hf; omega, fun hf => by have := i4.me.lt _ hf; omega, by have := hal.at_.1; omega, by have := hal.ls.lt; omega, i4.new.size⟩
  have HKR : Hid (∀ j, j < n → inR ((fun _ => -9223372036854775808 : Nat → Int) j)) := Lib.hid (fun j _ => by show inR (-9223372036854775808); unfold inR; omega)
  clear HN0 HL0 HNM HNA hmk i3 i4 i5 hal hg4 hl4 hb4 hb3 hb1 i1 hn
  generalize w4.heap.size = gr at *
  generalize (w4.alloc (.cells (madeCells #[.int .i64 0] n) 3)) = w5 at *
  go_loopg [48] l2.length (fun q i wr => ∃ (k : Nat) (K S : Nat → Int) (now : Int), k ≤ l2.length ∧ q = l2.length - k ∧ i = .int .i64 k ∧ Wa w wr F gm g gl gr n a0 K S now K now S ∧ Hid (∀ j, j < n → inR (K j)))
  case atStart => exact ⟨0, _, _, _, Nat.zero_le _, rfl, rfl, hW, HKR⟩
  case round =>
    clear hW HKR
    obtain ⟨k, K, S, now, hk2, hq, rfl, hW, HK⟩ := hrel
    have HQQ := Lib.hid hq
    clear hq
    by_cases hlt2 : k < l2.length
    · obtain ⟨b, off, rfl, hb', hc⟩ := (hl.below hW.me.new).at_ k hlt2
      have hxb := HQ.out _ (List.getElem_mem hlt2)
      generalize l2[k] = x at *
      obtain ⟨Is, I, N, u⟩ := x
      have p0 := hc 0 (by decide)
      have p1 := hc 1 (by decide)
      have p2 := hc 2 (by decide)
      simp [actA] at p0 p1 p2
      obtain ⟨hIb, hNb⟩ := hxb
      simp only at hIb hNb
      have hT := At.alloc wr [.bool Is, .int .i64 I, .int .i64 N] 60
      have hW1 := hW.alloc (.cells #[.bool Is, .int .i64 I, .int .i64 N] 60)
      obtain ⟨hg, r0, y0, r1, y1, r2, y2⟩ := hT.three
      have HAT := Lib.hid hT
      have HFT : Hid (¬ F wr.heap.size) := Lib.hid (fun hf => by have := hW.me.me.lt _ hf; omega)
      have HNE : Hid (gr ≠ wr.heap.size) := Lib.hid (by have := hW.lo.lt; omega)
      obtain ⟨t, ht, htb⟩ : ∃ t : Int, I.tmod (n : Int) = t ∧ (-(n : Int) < t ∧ t < n) := ⟨_, rfl, tmod_rng I n (by omega)⟩
      obtain ⟨v, hv, hvb⟩ : ∃ v : Nat, (t + (n : Int)) % (n : Int) = (v : Int) ∧ v < n := ⟨((t + (n : Int)) % (n : Int)).toNat, by have := Int.emod_nonneg (t + (n : Int)) (b := (n : Int)) (by omega); omega, by have := Int.emod_lt_of_pos (t + (n : Int)) (b := (n : Int)) (by omega); have := Int.emod_nonneg (t + (n : Int)) (b := (n : Int)) (by omega); omega⟩
      have HV := Lib.hid hv
      clear hc hT y0 y1 y2 hW hv
      go_upto_if 61 with fail
      rw [HV.out]
      go_cut [] (fun wx => ∃ (K S : Nat → Int), Wa w wx F gm g gl gr n a0 K S now K now S ∧ Hid (∀ j, j < n → inR (K j)))
      case first =>
        cases Is
        · have HC := Lib.hid (me_mark F gm n K _ _ now v N _ hW1.me.me hvb)
          have HLC := fun w' (h : AlignC w' g gl n a0 now K) => Lib.hid (al_local g gl n a0 now K v N w' h hvb)
          have HW1 := Lib.hid hW1
          clear hW1
          go_wp2_with (go_at_call 10; (with_reducible refine HC.out.mono ?_); rintro e w6 ⟨rfl, h6⟩; have hW6 := HW1.out.told h6; have hT6 := HAT.out.upd h6.2 HFT.out; obtain ⟨hg6, u0, z0, u1, z1, u2, z2⟩ := hT6.three; clear h6)
          go_wp2_with (go_at_call 23; (with_reducible refine (HLC _ hW6.al.al).out.mono ?_); rintro e w7 ⟨rfl, h7⟩; have hW7 := hW6.held h7)
          go_meet
          exact ⟨_, _, hW7, Lib.hid (put_in HK.out v hNb)⟩
        · obtain ⟨s, hs, hsb⟩ : ∃ s : Int, N % 256 % 4 = s ∧ (0 ≤ s ∧ s ≤ 3) := ⟨_, rfl, by omega⟩
          have hs4 : N % 4 = s := by omega
          obtain ⟨cv, zv⟩ := hW1.cell v hvb
          have hlr := hW1.lo.lt
          have hW2 := hW1.row v hvb s
          obtain ⟨cv2, -⟩ := hW2.cell v hvb
          rw [put_same] at cv2
          have hlr2 := hW2.lo.lt
          have HC := fun w' (h : MergeC w' F gm n K (oa S 0) (oa S 1) now) => Lib.hid (me_is2 F gm n K S now v s _ _ w' h hvb rfl rfl)
          have HW2 := Lib.hid hW2
          clear hW1 hW2
          go_wp2_with (go_at_call 11; (with_reducible refine (HC _ HW2.out.me.me).out.mono ?_); rintro e w6 ⟨rfl, h6⟩; have hW6 := HW2.out.told h6; clear h6)
          go_meet
          exact ⟨_, _, hW6, HK⟩
      case rest =>
        obtain ⟨K, S, hW, HK⟩ := hcut
        obtain ⟨L, hL⟩ : ∃ L, ml K S n = L := ⟨_, rfl⟩
        have HIN : Hid (inR L) := Lib.hid (by rw [← hL]; exact ml_in HK.out)
        have HNR : Hid (inR now) := Lib.hid hW.al.al.bG
        have HLS := fun w' now (h : Wa w w' F gm g gl gr n a0 K S now K now S) => Lib.hid (me_least F gm n K _ _ now L w' h.me.me hL)
        by_cases hup : now < L
        · have HC := Lib.hid (me_adv F gm n K _ _ now L _ hW.me.me hL hup)
          have HGL := fun w' (h : AlignC w' g gl n a0 now K) => Lib.hid (al_global g gl n a0 now L K w' h HIN.out)
          have HW := Lib.hid hW
          clear hW hL
          generalize btw K (add now a0) (add L a0) n = R1 at *
          go_wp2_with (go_at_call 12; (with_reducible refine HC.out.mono ?_); rintro e w6 ⟨rfl, h6⟩; have hW6 := HW.out.told h6)
          go_wp2_with (go_at_call 22; (with_reducible refine (HGL _ hW6.al.al).out.mono ?_); intro e w7 h7; obtain ⟨ad7, c7, rfl, -, h7⟩ := h7; have hW9 := hW6.held h7)
          go_wp2_with (go_at_call 14; (with_reducible refine (HLS _ _ hW9).out.mono ?_); rintro e w8 ⟨rfl, rfl⟩)
          clear HC HGL HW h6 hW6 h7 HLS
          have HLE2 : Hid (∀ x, x ≤ L → decide (add L a0 < x) = false) := Lib.hid (fun x hx => decide_eq_false (by have := add_up2 (a := L) (d := a0) HIN.out hneg2; omega))
          clear HIN
          go_loopg [99] n (fun q i wr => ∃ j : Nat, j ≤ n ∧ q = n - j ∧ i = .int .i64 j ∧ Wa w wr F gm g gl gr n a0 K S L K L S)
          case atStart => exact ⟨0, Nat.zero_le _, rfl, rfl, hW9⟩
          case round =>
            clear hW9
            obtain ⟨j, hj, hqj, rfl, hW⟩ := hrel
            have HQJ := Lib.hid hqj
            clear hqj
            by_cases hltj : j < n
            · obtain ⟨cj, -⟩ := hW.cell j hltj
              have hlr := hW.lo.lt
              have HAT2 := Lib.hid (me_at F gm n K _ _ L j _ hW.me.me hltj)
              have HPA := Lib.hid (al_paused g gl n a0 L K j _ hW.al.al hltj)
              have HW := Lib.hid hW
              clear hW
              by_cases hx : K j ≤ L
              · have hd := HLE2.out _ hx
                rw [hd] at HPA
                clear hd
                generalize S j = s at *
                generalize K j = x at *
                by_cases hs0 : s = 0
                · subst hs0
                  go_wp2_with (first | (go_at_call 16; (with_reducible refine HAT2.out.mono ?_); rintro e w6 ⟨rfl, rfl⟩) | (go_at_call 26; (with_reducible refine HPA.out.mono ?_); rintro e w7 ⟨rfl, hm7⟩; have hW7 := HW.out.on (on_quiet hm7); clear hm7))
                  go_roundg (n - (j + 1))
                  case measure => (have := HQJ.out; omega)
                  case rel => exact ⟨j + 1, by omega, rfl, by go_num, hW7⟩
                · have hs0b : (s == 0) = false := by simpa using hs0
                  clear hs0
                  by_cases hs1 : s = 1
                  · subst hs1
                    go_wp2_with (first | (go_at_call 16; (with_reducible refine HAT2.out.mono ?_); rintro e w6 ⟨rfl, rfl⟩) | (go_at_call 26; (with_reducible refine HPA.out.mono ?_); rintro e w7 ⟨rfl, hm7⟩; have hW7 := HW.out.on (on_quiet hm7); clear hm7))
                    go_roundg (n - (j + 1))
                    case measure => (have := HQJ.out; omega)
                    case rel => exact ⟨j + 1, by omega, rfl, by go_num, hW7⟩
                  · have hs1b : (s == 1) = false := by simpa using hs1
                    clear hs1
                    go_wp2
                    go_roundg (n - (j + 1))
                    case measure => (have := HQJ.out; omega)
                    case rel => exact ⟨j + 1, by omega, rfl, by go_num, HW.out⟩
              · have hx2 : L < K j := by omega
                clear hx HPA
                generalize S j = s at *
                generalize K j = x at *
                by_cases hs0 : s = 0
                · subst hs0
                  go_wp2_with (go_at_call 16; (with_reducible refine HAT2.out.mono ?_); rintro e w6 ⟨rfl, rfl⟩)
                  go_roundg (n - (j + 1))
                  case measure => (have := HQJ.out; omega)
                  case rel => exact ⟨j + 1, by omega, rfl, by go_num, HW.out⟩
                · have hs0b : (s == 0) = false := by simpa using hs0
                  clear hs0
                  by_cases hs1 : s = 1
                  · subst hs1
                    go_wp2_with (go_at_call 16; (with_reducible refine HAT2.out.mono ?_); rintro e w6 ⟨rfl, rfl⟩)
                    go_roundg (n - (j + 1))
                    case measure => (have := HQJ.out; omega)
                    case rel => exact ⟨j + 1, by omega, rfl, by go_num, HW.out⟩
                  · have hs1b : (s == 1) = false := by simpa using hs1
                    clear hs1
                    go_wp2
                    go_roundg (n - (j + 1))
                    case measure => (have := HQJ.out; omega)
                    case rel => exact ⟨j + 1, by omega, rfl, by go_num, HW.out⟩
            · obtain rfl : j = n := by omega
              go_wp2
              go_roundg (l2.length - (k + 1))
              case measure => (have := HQQ.out; omega)
              case rel => exact ⟨k + 1, K, S, _, by omega, rfl, by go_num, hW, HK⟩
        · have hup2 : L ≤ now := by omega
          have HC := Lib.hid (me_adv_not F gm n K _ _ now L _ hW.me.me hL hup2)
          have HW := Lib.hid hW
          clear hW hL hup
          go_wp2_with (go_at_call 12; (with_reducible refine HC.out.mono ?_); rintro e w6 ⟨rfl, h6⟩; have hW9 := HW.out.told h6)
          go_wp2_with (go_at_call 14; (with_reducible refine (HLS _ _ hW9).out.mono ?_); rintro e w8 ⟨rfl, rfl⟩)
          clear HC HW h6 HLS
          have HLE2 : Hid (∀ x, x ≤ L → decide (add now a0 < x) = false) := Lib.hid (fun x hx => decide_eq_false (by have := add_up2 (a := now) (d := a0) HNR.out hneg2; omega))
          clear HIN
          go_loopg [99] n (fun q i wr => ∃ j : Nat, j ≤ n ∧ q = n - j ∧ i = .int .i64 j ∧ Wa w wr F gm g gl gr n a0 K S now K now S)
          case atStart => exact ⟨0, Nat.zero_le _, rfl, rfl, hW9⟩
          case round =>
            clear hW9
            obtain ⟨j, hj, hqj, rfl, hW⟩ := hrel
            have HQJ := Lib.hid hqj
            clear hqj
            by_cases hltj : j < n
            · obtain ⟨cj, -⟩ := hW.cell j hltj
              have hlr := hW.lo.lt
              have HAT2 := Lib.hid (me_at F gm n K _ _ now j _ hW.me.me hltj)
              have HPA := Lib.hid (al_paused g gl n a0 now K j _ hW.al.al hltj)
              have HW := Lib.hid hW
              clear hW
              by_cases hx : K j ≤ L
              · have hd := HLE2.out _ hx
                rw [hd] at HPA
                clear hd
                generalize S j = s at *
                generalize K j = x at *
                by_cases hs0 : s = 0
                · subst hs0
                  go_wp2_with (first | (go_at_call 16; (with_reducible refine HAT2.out.mono ?_); rintro e w6 ⟨rfl, rfl⟩) | (go_at_call 26; (with_reducible refine HPA.out.mono ?_); rintro e w7 ⟨rfl, hm7⟩; have hW7 := HW.out.on (on_quiet hm7); clear hm7))
                  go_roundg (n - (j + 1))
                  case measure => (have := HQJ.out; omega)
                  case rel => exact ⟨j + 1, by omega, rfl, by go_num, hW7⟩
                · have hs0b : (s == 0) = false := by simpa using hs0
                  clear hs0
                  by_cases hs1 : s = 1
                  · subst hs1
                    go_wp2_with (first | (go_at_call 16; (with_reducible refine HAT2.out.mono ?_); rintro e w6 ⟨rfl, rfl⟩) | (go_at_call 26; (with_reducible refine HPA.out.mono ?_); rintro e w7 ⟨rfl, hm7⟩; have hW7 := HW.out.on (on_quiet hm7); clear hm7))
                    go_roundg (n - (j + 1))
                    case measure => (have := HQJ.out; omega)
                    case rel => exact ⟨j + 1, by omega, rfl, by go_num, hW7⟩
                  · have hs1b : (s == 1) = false := by simpa using hs1
                    clear hs1
                    go_wp2
                    go_roundg (n - (j + 1))
                    case measure => (have := HQJ.out; omega)
                    case rel => exact ⟨j + 1, by omega, rfl, by go_num, HW.out⟩
              · have hx2 : L < K j := by omega
                clear hx HPA
                generalize S j = s at *
                generalize K j = x at *
                by_cases hs0 : s = 0
                · subst hs0
                  go_wp2_with (go_at_call 16; (with_reducible refine HAT2.out.mono ?_); rintro e w6 ⟨rfl, rfl⟩)
                  go_roundg (n - (j + 1))
                  case measure => (have := HQJ.out; omega)
                  case rel => exact ⟨j + 1, by omega, rfl, by go_num, HW.out⟩
                · have hs0b : (s == 0) = false := by simpa using hs0
                  clear hs0
                  by_cases hs1 : s = 1
                  · subst hs1
                    go_wp2_with (go_at_call 16; (with_reducible refine HAT2.out.mono ?_); rintro e w6 ⟨rfl, rfl⟩)
                    go_roundg (n - (j + 1))
                    case measure => (have := HQJ.out; omega)
                    case rel => exact ⟨j + 1, by omega, rfl, by go_num, HW.out⟩
                  · have hs1b : (s == 1) = false := by simpa using hs1
                    clear hs1
                    go_wp2
                    go_roundg (n - (j + 1))
                    case measure => (have := HQJ.out; omega)
                    case rel => exact ⟨j + 1, by omega, rfl, by go_num, HW.out⟩
            · obtain rfl : j = n := by omega
              go_wp2
              go_roundg (l2.length - (k + 1))
              case measure => (have := HQQ.out; omega)
              case rel => exact ⟨k + 1, K, S, _, by omega, rfl, by go_num, hW, HK⟩
    · have hb9 := hW.me.new
      obtain rfl : k = l2.length := by omega
      go_wp2
      go_ret
      exact ⟨rfl, hb9⟩
end Go.Proofs.Ytcenodjifafdeaa
