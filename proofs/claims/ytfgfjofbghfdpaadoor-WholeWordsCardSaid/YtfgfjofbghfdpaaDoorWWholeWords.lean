/- The walk of the law WholeWords. -/
import Derived.Test.YtfgfjofbghfdpaaDoorWConfigBack
import Derived.Test.YtfgfjofbghfdpaaDoorSpeaks20
namespace Go.Proofs.YtfgfjofbghfdpaaDoor
set_option maxRecDepth 4000
open Go.ChangeShapes Go.WideShapes Go.ChangeAt Go.RowKit
open PWord
open Go.Lib (itoa)
set_option linter.unusedVariables false
set_option linter.unusedSimpArgs false

theorem itoa_three : itoa 3 = [51] := by
  have h := Go.Lib.itoa_nonneg 3
  rw [Go.Lib.decDigits_one (by omega)] at h
  exact h
theorem trim_last (x : List UInt8) : Lib.trimSuffix (x ++ [10]) [10] = x := by
  have h : Lib.hasSuffix (x ++ [10]) [10] = true := by
    unfold Lib.hasSuffix
    rw [List.isSuffixOf_iff_suffix]
    exact List.suffix_append x [10]
  unfold Lib.trimSuffix
  rw [h]
  simp
theorem plines_ne (c : Cfg) : plines c ≠ [] := by unfold plines; simp
theorem print_glue (c : Cfg) (ho : ∀ r ∈ c.rules, only r = true) : print c = glue 10 (plines c) ++ [10] := by
  rw [print_plines c ho, ended_glue 10 _ (plines_ne c)]
theorem split_glue (c : Cfg) : cuts 10 ((glue 10 (plines c)).count 10) (glue 10 (plines c)) = plines c :=
  cuts_glue 10 _ _ (plines_10 c) (plines_ne c) (by have := count_glue 10 (plines c) (plines_10 c) (plines_ne c); omega)

set_option maxRecDepth 100000 in
set_option maxHeartbeats 12000000 in
theorem walk_WholeWords (w : World) (he : EnvW w) (hnm : Names w) (c0 : Array Value) (d0 : ((List (Int × Int × Int × Int × Int × Unit)) × Int × Int × Unit)) (w0 : Rd w (.pair (.sl (.pair (.int .i64) (.pair (.int .i64) (.pair (.int .i64) (.pair (.int .i64) (.pair (.int .i64) .unit)))))) (.pair (.int .i64) (.pair (.int .i64) .unit))) c0.toList d0) (a1 : Option Addr) (n1 c1 : Nat) (l1 : List (Bool × Int × Unit)) (w1 : Rd w (.sl (.pair .bool (.pair (.int .i64) .unit))) [.slice a1 n1 c1] l1) :
    Calls Tryd.prog 10 #[.agg c0, .slice a1 n1 c1] w fun e w' => e = .returned (.bool true) ∧ Below w.heap.size w w' := by
  obtain ⟨a, n, cap, c, rfl, hf, hn, hnc, hcm, hr⟩ := Rd.cfg w0
  obtain ⟨hm, hmc, hmm, hq, hb64⟩ := Rd.chs w1
  generalize l1.map toC = l at *
  clear w0 w1 hcm hmm hmc
  have hA := At.alloc w [.slice a n cap, .int .i64 c.timeout, .int .i64 c.drift] 24
  have hb0 : Below w.heap.size w (w.alloc (.cells #[.slice a n cap, .int .i64 c.timeout, .int .i64 c.drift] 24)) := (Below.refl _ _).alloc (Nat.le_refl _) _
  have HA := Lib.hid hA
  have HB0 := Lib.hid hb0
  clear hA hb0
  have HC0 : Hid (∀ w, Calls Tryd.prog 12 #[.agg #[.slice none 0 0, .int .i64 0, .int .i64 0]] w fun e w' => e = .returned (.int .i64 6) ∧ Below w.heap.size w w') :=
    Lib.hid (fun w => cf_check [] 0 0 none 0 0 w (rowu_nil w) rfl (by omega) 6 (by decide))
  have HT3 := Lib.hid (fun w => ch_tick 3 w)
  have HL3 : Hid (∀ w, EnvW w → Calls Tryd.prog 26 #[.agg #[.bool true, .int .i64 3]] w fun e w' => e = .returned (.string ⟨#[116, 105, 99, 107, 32, 51]⟩) ∧ Below w.heap.size w w') := Lib.hid (fun w he => by
    have h := ch_line true 3 ⟨by omega, by omega⟩ w he
    rw [show cline true 3 = [116, 105, 99, 107, 32, 51] by unfold cline; rw [itoa_three]; rfl] at h
    exact h)
  have ARMS : True := trivial
  have HN := Lib.hid hn
  have HM := Lib.hid hm
  have HF := Lib.hid hf
  have HB := Lib.hid hb64
  have HRU := Lib.hid hr
  have HRC := Lib.hid hq
  clear hn hm hf hb64 hr hq ARMS
  by_cases hl : n ≤ 50
  · by_cases hl2 : n1 ≤ 100
    · have hl' : ¬ (50 : Int) < n := by omega
      have hl2' : ¬ (100 : Int) < n1 := by omega
      go_enter Tryd.func10, Tryd.ntmps10
      go_wp2_with (first | (go_at_call 12; (with_reducible refine (HC0.out _).mono ?_); rintro e w2 ⟨rfl, hb2⟩; have hb22 := on_below HB0.out hb2) | (go_at_call 30; (with_reducible refine (HT3.out _).mono ?_); rintro e w3 ⟨rfl, hb3⟩; have hb33 := on_below hb22 hb3) | (go_at_call 26; (with_reducible refine (HL3.out _ (he.on hb33)).mono ?_); rintro e w4 ⟨rfl, hb4⟩; have hb44 := on_below hb33 hb4; have hA4 := ((HA.out.on hb2).on hb3).on hb4; obtain ⟨hg, e0, y0, e1, y1, e2, y2⟩ := hA4.three))
      go_loopw [41] (fun i wr => ∃ k : Nat, k ≤ n ∧ i = .int .i64 k ∧ Hid (∀ r ∈ c.rules.take k, only r = true) ∧ At wr w.heap.size [.slice a n cap, .int .i64 c.timeout, .int .i64 c.drift] ∧ Below w.heap.size w wr) (fun i _ => n - (intOf i).toNat)
      case atStart => exact ⟨0, Nat.zero_le _, rfl, Lib.hid (by simp), hA4, hb44⟩
      case round =>
        clear hA4 hb44 hb33 hb22 hb2 hb3 hb4 hg e0 e1 e2 y0 y1 y2 HC0 HT3 HL3 HA
        obtain ⟨k, hk, rfl, HO, hAt, hb⟩ := hrel
        have hrow := HRU.out.below hb
        by_cases hlt : k < n
        · have hk1 : k < c.rules.length := by rw [← HN.out]; exact hlt
          obtain ⟨b1, o1, rfl, -, -⟩ := hrow.at_ k hk1
          obtain ⟨hbl1, p0, p1, p2, p3, p4⟩ := RowU.cells hrow k hk1
          have hT : c.rules.take (k + 1) = c.rules.take k ++ [c.rules[k]] := List.take_succ_eq_append_getElem hk1
          have HT := Lib.hid hT
          obtain ⟨oo, hoo⟩ : ∃ oo, only c.rules[k] = oo := ⟨_, rfl⟩
          have HC3 := Lib.hid (fun w => ref_only c.rules[k] oo hoo w)
          have HOO := Lib.hid hoo
          clear hrow hT hoo
          generalize c.rules[k] = r at *
          clear hk1
          have HO2 : Hid (oo = true → ∀ r' ∈ c.rules.take (k + 1), only r' = true) := Lib.hid (fun h r' hr' => by
            rw [HT.out] at hr'
            rcases List.mem_append.1 hr' with h9 | h9
            · exact HO.out r' h9
            · simp at h9; subst h9; rw [HOO.out, h])
          obtain ⟨rk, rb, rp, rn, rs⟩ := r
          simp only at p0 p1 p2 p3 p4
          have HC3 : Hid (∀ w, Calls Tryd.prog 16 #[.agg #[.int .i64 rk, .int .i64 rb, .int .i64 rp, .int .i64 rn, .int .i64 rs]] w fun e w' => e = .returned (.bool oo) ∧ Below w.heap.size w w') := HC3
          have hbx := hb.alloc hb.size (.cells #[.int .i64 rk, .int .i64 rb, .int .i64 rp, .int .i64 rn, .int .i64 rs] 31)
          have hAx := hAt.on ((Below.refl _ _).alloc (Nat.le_refl _) (.cells #[.int .i64 rk, .int .i64 rb, .int .i64 rp, .int .i64 rn, .int .i64 rs] 31))
          cases oo
          · go_wp2_with (go_at_call 16; (with_reducible refine (HC3.out _).mono ?_); rintro e w7 ⟨rfl, hb7⟩)
            go_ret
            exact ⟨rfl, on_below hbx hb7⟩
          · have HO3 := Lib.hid (HO2.out rfl)
            go_wp2_with (go_at_call 16; (with_reducible refine (HC3.out _).mono ?_); rintro e w7 ⟨rfl, hb7⟩)
            go_roundw
            case rel => exact ⟨k + 1, by omega, by go_num, HO3, hAx.on hb7, on_below hbx hb7⟩
            case measure => simp [intOf]; omega
        · have hkn : k = n := by omega
          subst hkn
          have ho : ∀ r ∈ c.rules, only r = true := fun r hr => HO.out r (by rw [List.take_of_length_le (by rw [← HN.out]; exact Nat.le_refl _)]; exact hr)
          have hpl := ptext_len c HF.out k (by rw [← HN.out]; exact Nat.le_refl _)
          rw [show ptext c k = print c by rw [HN.out]; exact ptext_all c] at hpl
          have hpg := print_glue c ho
          have hLen : (plines c).length = k + 1 := by rw [plines_len, ← HN.out]
          obtain ⟨N, hNk⟩ : ∃ N, k + 1 = N := ⟨_, rfl⟩
          rw [hNk] at hLen
          have hNM : (k : Int) + 1 = (N : Int) := by omega
          have hN50 : N ≤ 51 := by omega
          have HCP := Lib.hid (cf_print c HF.out a k cap wr (he.on hb) (hnm.on hb) hrow HN.out (by omega))
          have HTR : Hid (∀ w, Calls Tryd.prog 34 #[.string (bstr (print c)), .string ⟨#[10]⟩] w fun e w' => e = .returned (.string (bstr (glue 10 (plines c)))) ∧ w' = w) := Lib.hid (fun w => by
            have h := Tryd.strings_TrimSuffix (bstr (print c)) ⟨#[10]⟩ w (by rw [tx_size]; omega)
            rw [show Lib.trimSuffix (bstr (print c)).data.toList (⟨#[10]⟩ : ByteArray).data.toList = glue 10 (plines c) by show Lib.trimSuffix (print c) [10] = _; rw [hpg]; exact trim_last _] at h
            exact h)
          have hgl : (bstr (glue 10 (plines c))).size ≤ 90000 := by rw [tx_size]; have := congrArg List.length hpg; simp at this; omega
          have HSL := Lib.hid (fun w' (he : EnvW w') => (li_split (bstr (glue 10 (plines c))) _ w' hgl he (split_glue c)).mono (fun e w'' h => Parted.n h hLen))
          have HPA : Hid (∀ w' g cc ws, EnvW w' → Names w' → ws.length = N → ws.map (·.data.toList) = plines c → RowS w' (some ⟨g, 0, none⟩) ws → N ≤ cc → cc ≤ 100000 → Calls Tryd.prog 20 #[.slice (some ⟨g, 0, none⟩) N cc] w' (ParsePost (c, 0) w')) := Lib.hid (fun w' g cc ws h1 h2 h3 h4 h5 h6 h7 => by
            have h := cf_parse (some ⟨g, 0, none⟩) N cc ws w' h1 h2 h5 h3.symm h6 (by unfold maxLen; omega) (by omega) (fun s hs => by
              have hm : s.data.toList ∈ ws.map (·.data.toList) := List.mem_map_of_mem hs
              rw [h4] at hm
              have h9 := plines_small c HF.out _ hm
              have e9 : s.data.toList.length = s.size := by simp
              omega)
            rw [show bl ws = plines c from h4, parse_plines c HF.out ho] at h
            exact h)
          have HSM := Lib.hid (fun a1 c1 w' (h1 : RowU w' a1 c.rules) (h2 : RowU w' a c.rules) => ref_same19 c.rules c.timeout c.drift a1 a k c1 cap w' h1 h2 HN.out (by omega))
          have HRN := Lib.hid (read_plines c ho)
          obtain ⟨hg, e0, y0, e1, y1, e2, y2⟩ := hAt.three
          clear ho hpl hpg hLen hNk hgl hrow
          generalize bstr (print c) = tx at *
          generalize bstr (glue 10 (plines c)) = gx at *
          go_wp2_with (first | (go_at_call 17; (with_reducible refine HCP.out.mono ?_); rintro e w3 ⟨rfl, hb3⟩; have hb33 := on_below hb hb3; have hA3 := hAt.on hb3) | (go_at_call 34; (with_reducible refine (HTR.out _).mono ?_); rintro e w4 ⟨rfl, rfl⟩) | (go_at_call 19; (with_reducible refine (HSL.out _ (he.on hb33)).mono ?_); rintro e w5 ⟨g5, cc, ws, rfl, hwl, hwm, hR, hcc, hcm, hg5, hb5⟩; have hb55 := on_below hb33 hb5) | (go_at_call 20; (with_reducible refine (HPA.out _ _ _ ws (he.on hb55) (hnm.on hb55) hwl hwm hR hcc hcm).mono ?_); rintro e w6 ⟨v6, rfl, hs6, hb6⟩; obtain ⟨-, a6, c6, hv6, hr6⟩ := rowu_of_sl (rs := c.rules) hs6; rw [← HN.out] at hv6; subst hv6; have hb66 := on_below hb55 hb6; have hA6 := ((hA3.on hb5).on hb6).on ((Below.refl _ _).alloc (Nat.le_refl _) (.cells #[.slice a6 k c6, .int .i64 c.timeout, .int .i64 c.drift] 24)); obtain ⟨hg6, h0, l0', h1, l1', h2, l2'⟩ := hA6.three; have hr66 := hr6.below ((Below.refl _ _).alloc (Nat.le_refl _) (.cells #[.slice a6 k c6, .int .i64 c.timeout, .int .i64 c.drift] 24)); have hb77 := hb66.alloc hb66.size (.cells #[.slice a6 k c6, .int .i64 c.timeout, .int .i64 c.drift] 24); have hr67 := HRU.out.below hb77; have hR6 := (hR.below hb6).below ((Below.refl _ _).alloc (Nat.le_refl _) (.cells #[.slice a6 k c6, .int .i64 c.timeout, .int .i64 c.drift] 24))) | (go_at_call 21; (with_reducible refine (HSM.out _ _ _ hr66 hr67).mono ?_); rintro e w7 ⟨rfl, hb7⟩; obtain ⟨hg7, i0, j0, i1, j1, i2, j2⟩ := (hA6.on hb7).three; have hR7 := hR6.below hb7; have hb88 := on_below hb77 hb7))
          have HWL := Lib.hid hwl
          have HWM := Lib.hid hwm
          clear hwl hwm
          have HL0 : Hid (∀ wx, RowS wx (some ⟨g5, 0, none⟩) ws → wx.cell? ⟨g5, 0, none⟩ = some (.string (bstr (hline c.timeout c.drift))) ∧ g5 < wx.heap.size) := Lib.hid (fun wx hx => by
            have h0 : 0 < ws.length := by rw [HWL.out]; omega
            have h1 := hx.cell 0 h0
            have h2 : ws[0].data.toList = hline c.timeout c.drift := by
              have h3 := congrArg (·[0]?) HWM.out
              simp only [List.getElem?_map, List.getElem?_eq_getElem h0, Option.map_some] at h3
              exact Option.some.inj h3
            exact ⟨by rw [← h2]; exact h1.2, h1.1⟩)
          clear hA3 hA6 hr6 hr66 hr67 hR6 hb77 hb66 hb55 hb33 hb3 hb5 hb6 hb7 hR hg hg6 hg7 e0 e1 e2 y0 y1 y2 h0 h1 h2 l0' l1' l2' i0 i1 i2 j0 j1 j2 HCP HTR HSL HPA HSM hs6 hAt HO
          go_loopw [77] (fun i wx => ∃ q : Nat, q ≤ N ∧ i = .int .i64 q ∧ RowS wx (some ⟨g5, 0, none⟩) ws ∧ Below w.heap.size w wx) (fun i _ => N - (intOf i).toNat)
          case atStart => exact ⟨0, Nat.zero_le _, rfl, hR7, hb88⟩
          case round =>
            clear hR7 hb88
            obtain ⟨q, hq, rfl, hR, hbq⟩ := hrel
            by_cases hqN : q < N
            · have hq1 : q < ws.length := by rw [HWL.out]; exact hqN
              obtain ⟨hgg, r0⟩ := hR.cell q hq1
              rw [Nat.zero_add] at r0
              have hmem : ws[q].data.toList ∈ plines c := by rw [← HWM.out]; exact List.mem_map_of_mem (List.getElem_mem hq1)
              have hsm := plines_small c HF.out _ hmem
              have hno := HRN.out _ hmem
              have hsz : ws[q].size ≤ 1000000 := by have e9 : ws[q].data.toList.length = ws[q].size := by simp
                                                    omega
              have hrd := fun w he => ch_read ws[q] w he hsz
              rw [hno] at hrd
              have HRD : Hid (∀ w, EnvW w → Calls Tryd.prog 27 #[.string ws[q]] w fun e w' => e = .returned (.tuple #[.agg #[.bool false, .int .i64 0], .bool false]) ∧ Below w.heap.size w w') := hrd
              have heq := he.on hbq
              clear hmem hsm hno hsz hrd
              generalize ws[q] = sq at *
              clear hq1
              go_wp2_with (go_at_call 27; (with_reducible refine (HRD.out _ heq).mono ?_); rintro e w8 ⟨rfl, hb8⟩; have hb9 := (on_below hbq hb8).alloc (on_below hbq hb8).size (.cells #[.bool false, .int .i64 0] 50); have hR9 := (hR.below hb8).below ((Below.refl _ _).alloc (Nat.le_refl _) (.cells #[.bool false, .int .i64 0] 50)))
              go_roundw
              case rel => exact ⟨q + 1, by omega, by go_num, hR9, hb9⟩
              case measure => simp [intOf]; omega
            · have hqq : q = N := by omega
              subst hqq
              go_wp2
              go_loopw [90] (fun i wy => ∃ x : Nat, x ≤ n1 ∧ i = .int .i64 x ∧ RowS wy (some ⟨g5, 0, none⟩) ws ∧ Below w.heap.size w wy) (fun i _ => n1 - (intOf i).toNat)
              case atStart => exact ⟨0, Nat.zero_le _, rfl, hR, hbq⟩
              case round =>
                clear hR hbq
                obtain ⟨x, hx, rfl, hR, hbq⟩ := hrel
                have hrc := HRC.out.below hbq
                by_cases hxn : x < n1
                · have hx1 : x < l.length := by rw [← HM.out]; exact hxn
                  obtain ⟨b2, o2, rfl, -, -⟩ := hrc.at_ x hx1
                  obtain ⟨hbl2, r0, r1⟩ := RowC.cells hrc x hx1
                  have hin := HB.out _ (List.getElem_mem hx1)
                  clear hrc
                  generalize l[x] = ch at *
                  clear hx1
                  obtain ⟨t, m⟩ := ch
                  simp only at r0 r1 hin
                  have HLI := Lib.hid (fun w he => ch_line t m hin w he)
                  have hsz : (bstr (cline t m)).size ≤ 1000000 := by
                    rw [tx_size]
                    have := itoa_len hin
                    unfold cline
                    cases t <;> simp [cname] <;> omega
                  have hR1 := fun w he => ch_read (bstr (cline t m)) w he hsz
                  rw [show PWord.read (bstr (cline t m)).data.toList = some (t, m) from read_cline t m hin] at hR1
                  have HRD : Hid (∀ w, EnvW w → Calls Tryd.prog 27 #[.string (bstr (cline t m))] w fun e w' => e = .returned (.tuple #[.agg #[.bool t, .int .i64 m], .bool true]) ∧ Below w.heap.size w w') := hR1
                  have HP2 : Hid (∀ N w, EnvW w → Names w → w.cell? ⟨N, 0, none⟩ = some (.string (bstr (hline c.timeout c.drift))) → w.cell? ⟨N, 1, none⟩ = some (.string (bstr (cline t m))) →
                      Calls Tryd.prog 20 #[.slice (some ⟨N, 0, none⟩) 2 2] w (ParsePost (noCfg, 2) w)) := Lib.hid (fun N w h1 h2 h3 h4 => by
                    have h := cf_parse (some ⟨N, 0, none⟩) 2 2 [bstr (hline c.timeout c.drift), bstr (cline t m)] w h1 h2 (rows_two h3 h4) rfl (by decide) (by decide) (by simp) (fun s hs => by
                      simp at hs
                      rcases hs with rfl | rfl
                      · rw [tx_size]; have := hline_len _ _ HF.out.timeout HF.out.drift; omega
                      · exact hsz)
                    rw [show bl [bstr (hline c.timeout c.drift), bstr (cline t m)] = [hline c.timeout c.drift, cline t m] from rfl, parse_cline _ _ HF.out.timeout HF.out.drift t m hin] at h
                    exact h)
                  have hA0 := At.alloc wr [.bool t, .int .i64 m] 50
                  have hbx := hbq.alloc hbq.size (.cells #[.bool t, .int .i64 m] 50)
                  have hRx := hR.below ((Below.refl _ _).alloc (Nat.le_refl _) (.cells #[.bool t, .int .i64 m] 50))
                  have heX := he.on hbx
                  clear hsz hR1
                  generalize bstr (cline t m) = sx at *
                  go_wp2_with (first | (go_at_call 26; (with_reducible refine (HLI.out _ heX).mono ?_); rintro e w8 ⟨rfl, hb8⟩; have hb81 := on_below hbx hb8; have hA8 := hA0.on hb8; have hR8 := hRx.below hb8) | (go_at_call 27; (with_reducible refine (HRD.out _ (he.on hb81)).mono ?_); rintro e w9 ⟨rfl, hb9⟩; have hb91 := on_below hb81 hb9; have hA9 := (hA8.on hb9).on ((Below.refl _ _).alloc (Nat.le_refl _) (.cells #[.bool t, .int .i64 m] 50)); have hY := At.alloc w9 [.bool t, .int .i64 m] 50; have hb92 := hb91.alloc hb91.size (.cells #[.bool t, .int .i64 m] 50); have hR9 := (hR8.below hb9).below ((Below.refl _ _).alloc (Nat.le_refl _) (.cells #[.bool t, .int .i64 m] 50)); obtain ⟨hl0, hgl⟩ := HL0.out _ hR9; have hSS := (At.alloc (w9.alloc (.cells #[.bool t, .int .i64 m] 50)) [.string (bstr (hline c.timeout c.drift)), .string sx] 9).two; rw [show (w9.alloc (.cells #[.bool t, .int .i64 m] 50)).heap.size = w9.heap.size + 1 by simp] at hSS; have hb93 := hb92.alloc hb92.size (.cells #[.string (bstr (hline c.timeout c.drift)), .string sx] 9)) | (go_at_call 20; (with_reducible refine (HP2.out _ _ (he.on hb93) (hnm.on hb93) hSS.2.1 hSS.2.2.2.1).mono ?_); rintro e wA ⟨vA, rfl, hsA, hbA⟩; obtain ⟨-, aA, cA, rfl, -⟩ := rowu_of_sl (rs := []) hsA; obtain ⟨hgY, f0, i0, f1, i1⟩ := ((hY.on ((Below.refl _ _).alloc (Nat.le_refl _) (.cells #[.string (bstr (hline c.timeout c.drift)), .string sx] 9))).on hbA).two; obtain ⟨hgX, d0, j0, d1, j1⟩ := ((hA9.on ((Below.refl _ _).alloc (Nat.le_refl _) (.cells #[.string (bstr (hline c.timeout c.drift)), .string sx] 9))).on hbA).two; have hbB := (on_below hb93 hbA).alloc (on_below hb93 hbA).size (.cells #[.slice aA 0 cA, .int .i64 0, .int .i64 0] 24); have hRB := (((hR9.below ((Below.refl _ _).alloc (Nat.le_refl _) (.cells #[.string (bstr (hline c.timeout c.drift)), .string sx] 9))).below hbA).below ((Below.refl _ _).alloc (Nat.le_refl _) (.cells #[.slice aA 0 cA, .int .i64 0, .int .i64 0] 24)))))
                  go_roundw
                  case rel => exact ⟨x + 1, by omega, by go_num, hRB, hbB⟩
                  case measure => simp [intOf]; omega
                · go_wp2
                  go_ret
                  exact ⟨rfl, hbq⟩
    · have hl' : ¬ (50 : Int) < n := by omega
      have hl2' : (100 : Int) < n1 := by omega
      go_enter Tryd.func10, Tryd.ntmps10
      go_wp2_with (first | (go_at_call 12; (with_reducible refine (HC0.out _).mono ?_); rintro e w2 ⟨rfl, hb2⟩; have hb22 := on_below HB0.out hb2) | (go_at_call 30; (with_reducible refine (HT3.out _).mono ?_); rintro e w3 ⟨rfl, hb3⟩; have hb33 := on_below hb22 hb3) | (go_at_call 26; (with_reducible refine (HL3.out _ (he.on hb33)).mono ?_); rintro e w4 ⟨rfl, hb4⟩; have hb44 := on_below hb33 hb4; have hA4 := ((HA.out.on hb2).on hb3).on hb4; obtain ⟨hg, e0, y0, e1, y1, e2, y2⟩ := hA4.three))
      go_ret
      exact ⟨rfl, hb44⟩
  · have hl' : (50 : Int) < n := by omega
    go_enter Tryd.func10, Tryd.ntmps10
    go_wp2_with (first | (go_at_call 12; (with_reducible refine (HC0.out _).mono ?_); rintro e w2 ⟨rfl, hb2⟩; have hb22 := on_below HB0.out hb2) | (go_at_call 30; (with_reducible refine (HT3.out _).mono ?_); rintro e w3 ⟨rfl, hb3⟩; have hb33 := on_below hb22 hb3) | (go_at_call 26; (with_reducible refine (HL3.out _ (he.on hb33)).mono ?_); rintro e w4 ⟨rfl, hb4⟩; have hb44 := on_below hb33 hb4; have hA4 := ((HA.out.on hb2).on hb3).on hb4; obtain ⟨hg, e0, y0, e1, y1, e2, y2⟩ := hA4.three))
    go_ret
    exact ⟨rfl, hb44⟩
end Go.Proofs.YtfgfjofbghfdpaaDoor
