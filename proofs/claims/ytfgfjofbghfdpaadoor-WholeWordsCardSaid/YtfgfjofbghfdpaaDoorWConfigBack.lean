/- The walk of the law ConfigBack. -/
import Derived.Test.YtfgfjofbghfdpaaDoorSpeaks19
import Derived.Test.YtfgfjofbghfdpaaDoorCfgIn
import Derived.Test.YtfgfjofbghfdpaaDoorConf7
namespace Go.Proofs.YtfgfjofbghfdpaaDoor
set_option maxRecDepth 4000
open Go.ChangeShapes Go.WideShapes Go.ChangeAt Go.RowKit
open PWord
set_option linter.unusedVariables false
set_option linter.unusedSimpArgs false

theorem rline_small {r : Rul} (hf : r.Fits) {l : List UInt8} (h : rline r = some l) : l.length ≤ 66 := by
  obtain ⟨f0, f1, f2, f3, f4⟩ := hf
  unfold rline at h
  split at h
  · cases h; have := lineOf_len tBounded [r.bound] (by decide) (by simpa using f1); simp at this; unfold line0; omega
  · split at h
    · cases h; have := lineOf_len tMarked [r.sign] (by decide) (by simpa using f4); simp at this; unfold line1; omega
    · split at h
      · cases h; have := lineOf_len tPercent [r.pct, r.win] (by decide) (by simpa using ⟨f2, f3⟩); simp at this; unfold line2; omega
      · cases h
theorem plines_small (c : Cfg) (hf : c.Fits) : ∀ l ∈ plines c, l.length ≤ 66 := by
  intro l hl
  rcases List.mem_cons.1 hl with rfl | hl
  · exact hline_len _ _ hf.timeout hf.drift
  · obtain ⟨r, hr, rfl⟩ := List.mem_map.1 hl
    cases h : rline r with
    | none => simp
    | some x => exact rline_small (hf.rules r hr) h
theorem split_print (c : Cfg) (ho : ∀ r ∈ c.rules, only r = true) : cuts 10 ((print c).count 10) (print c) = plines c ++ [[]] := by
  rw [print_plines c ho, count_ended 10 _ (plines_10 c)]
  exact cuts_ended 10 _ _ (plines_10 c) (Nat.le_refl _)

theorem Names.drew {w : World} (h : Names w) : Names w.drew := h.on ⟨rfl, rfl, rfl, Nat.le_refl _, fun _ _ => rfl⟩
/-- What a parting gives, its number by name. -/
def PartedN (N : Nat) (w : World) (L : List (List UInt8)) (e : Ending) (w' : World) : Prop :=
  ∃ (g c : Nat) (ws : List ByteArray), e = .returned (.slice (some ⟨g, 0, none⟩) N c) ∧ ws.length = N ∧ ws.map (·.data.toList) = L ∧ RowS w' (some ⟨g, 0, none⟩) ws ∧ N ≤ c ∧ c ≤ 100000 ∧ w.heap.size ≤ g ∧ Below w.heap.size w w'
theorem Parted.n {w : World} {L : List (List UInt8)} {e : Ending} {w' : World} {N : Nat} (h : Parted w L e w') (hN : L.length = N) : PartedN N w L e w' := by
  obtain ⟨g, c, ws, h1, h2, h3, h4, h5⟩ := h
  have hl : ws.length = N := by rw [← hN, ← h2]; simp
  rw [hl] at h1 h4
  exact ⟨g, c, ws, h1, hl, h2, h3, h4, h5⟩

set_option maxRecDepth 100000 in
set_option maxHeartbeats 8000000 in
theorem walk_ConfigBack (w : World) (he : EnvW w) (hnm : Names w) (c0 : Array Value) (d0 : ((List (Int × Int × Int × Int × Int × Unit)) × Int × Int × Unit)) (w0 : Rd w (.pair (.sl (.pair (.int .i64) (.pair (.int .i64) (.pair (.int .i64) (.pair (.int .i64) (.pair (.int .i64) .unit)))))) (.pair (.int .i64) (.pair (.int .i64) .unit))) c0.toList d0) :
    Calls Tryd.prog 4 #[.agg c0] w fun e w' => e = .returned (.bool true) ∧ Below w.heap.size w w' := by
  obtain ⟨a, n, cap, c, rfl, hf, hn, hnc, hcm, hr⟩ := Rd.cfg w0
  clear w0 hcm
  have hA := At.alloc w [.slice a n cap, .int .i64 c.timeout, .int .i64 c.drift] 24
  have hb0 : Below w.heap.size w (w.alloc (.cells #[.slice a n cap, .int .i64 c.timeout, .int .i64 c.drift] 24)) := (Below.refl _ _).alloc (Nat.le_refl _) _
  have HSP := Lib.hid (speaks19 _ (he.on hb0) (hnm.on hb0))
  have HA := Lib.hid hA
  have HB0 := Lib.hid hb0
  clear hA hb0
  by_cases hl : n ≤ 100
  · have hl' : ¬ (100 : Int) < n := by omega
    have HN := Lib.hid hn
    have HF := Lib.hid hf
    have HCP := Lib.hid (fun w he hnm hr => cf_print c hf a n cap w he hnm hr hn (by omega))
    have HRP := Lib.hid (fun w hr => ref_print c hf a n cap w hr hn (by omega))
    clear hn hf
    go_enter Tryd.func4, Tryd.ntmps4
    go_wp2_with (first | (go_at_call 11; refine HSP.out.mono ?_; rintro e w2 ⟨rfl, hb2⟩; have hA2 := HA.out.on hb2; obtain ⟨hg, e0, y0, e1, y1, e2, y2⟩ := hA2.three))
    go_loopw [3, 19] (fun v i wr => ∃ k : Nat, k ≤ n ∧ i = .int .i64 k ∧ v = .bool ((c.rules.take k).all only) ∧ At wr w.heap.size [.slice a n cap, .int .i64 c.timeout, .int .i64 c.drift] ∧ Below w.heap.size w wr) (fun _ i _ => n - (intOf i).toNat)
    case atStart => exact ⟨0, Nat.zero_le _, rfl, by simp, hA2, on_below HB0.out hb2⟩
    case round =>
      clear hA2 hg e0 y0 e1 y1 e2 y2 hb2 HSP HA
      obtain ⟨k, hk, rfl, rfl, hAt, hb⟩ := hrel
      have hrow := hr.below hb
      by_cases hlt : k < n
      · have hk1 : k < c.rules.length := by rw [← HN.out]; exact hlt
        obtain ⟨b1, o1, rfl, -, -⟩ := hrow.at_ k hk1
        obtain ⟨hbl1, p0, p1, p2, p3, p4⟩ := RowU.cells hrow k hk1
        have hx := HF.out.rules _ (List.getElem_mem hk1)
        have hall : (c.rules.take (k + 1)).all only = ((c.rules.take k).all only && only c.rules[k]) := by
          rw [List.take_succ_eq_append_getElem hk1, List.all_append]
          simp
        have HAL := Lib.hid hall
        have HC1 := Lib.hid (fun w he hn => cf_rule c.rules[k] hx w he hn)
        have HC2 := Lib.hid (fun w => ref_rule c.rules[k] hx w)
        obtain ⟨oo, hoo⟩ : ∃ oo, only c.rules[k] = oo := ⟨_, rfl⟩
        have HC3 := Lib.hid (fun w => ref_only c.rules[k] oo hoo w)
        rw [hoo] at HAL
        clear hrow hall hx hoo
        generalize c.rules[k] = r at *
        obtain ⟨rk, rb, rp, rn, rs⟩ := r
        simp only at p0 p1 p2 p3 p4
        have HC1 : Hid (∀ w, EnvW w → Names w → Calls Tryd.prog 14 #[.agg #[.int .i64 rk, .int .i64 rb, .int .i64 rp, .int .i64 rn, .int .i64 rs]] w fun e w' => e = .returned (.string (bstr (rule ⟨rk, rb, rp, rn, rs⟩))) ∧ Below w.heap.size w w') := HC1
        have HC2 : Hid (∀ w, Calls Tryd.prog 15 #[.agg #[.int .i64 rk, .int .i64 rb, .int .i64 rp, .int .i64 rn, .int .i64 rs]] w fun e w' => e = .returned (.string (bstr (rule ⟨rk, rb, rp, rn, rs⟩))) ∧ Below w.heap.size w w') := HC2
        have HC3 : Hid (∀ w, Calls Tryd.prog 16 #[.agg #[.int .i64 rk, .int .i64 rb, .int .i64 rp, .int .i64 rn, .int .i64 rs]] w fun e w' => e = .returned (.bool oo) ∧ Below w.heap.size w w') := HC3
        generalize bstr (rule ⟨rk, rb, rp, rn, rs⟩) = tx at *
        generalize (c.rules.take k).all only = ob at *
        have hbx := hb.alloc hb.size (.cells #[.int .i64 rk, .int .i64 rb, .int .i64 rp, .int .i64 rn, .int .i64 rs] 31)
        have hAx := hAt.on ((Below.refl _ _).alloc (Nat.le_refl _) (.cells #[.int .i64 rk, .int .i64 rb, .int .i64 rp, .int .i64 rn, .int .i64 rs] 31))
        have hBx := At.alloc wr [.int .i64 rk, .int .i64 rb, .int .i64 rp, .int .i64 rn, .int .i64 rs] 31
        have hex := he.on hbx
        have hnx := hnm.on hbx
        clear hk1
        go_wp2
        generalize hg4 : wr.heap.size = g4 at *
        generalize wr.alloc (.cells #[.int .i64 rk, .int .i64 rb, .int .i64 rp, .int .i64 rn, .int .i64 rs] 31) = w4 at *
        obtain ⟨hg, q0, z0, q1, z1, q2, z2, q3, z3, q4, z4⟩ := hBx.five
        go_cut [27] (fun v wx => v = .bool false ∧ Below w4.heap.size w4 wx)
        case first =>
          go_region_with (first | (go_at_call 14; (with_reducible refine (HC1.out _ (by first | exact hex | exact hex.drew | exact heQ | exact heQ.drew) (by first | exact hnx | exact hnx.drew | exact hnQ | exact hnQ.drew)).mono ?_); rintro e wp ⟨rfl, hbp⟩; have kP : At wp g4 [.int .i64 rk, .int .i64 rb, .int .i64 rp, .int .i64 rn, .int .i64 rs] := (by first | exact hBx.on hbp | exact hBx.drew.on hbp | exact kQ.on hbp | exact kQ.drew.on hbp); obtain ⟨hgp, s0, x0, s1, x1, s2, x2, s3, x3, s4, x4⟩ := kP.five) | (go_at_call 15; (with_reducible refine (HC2.out _).mono ?_); rintro e wq ⟨rfl, hbq⟩; have kQ : At wq g4 [.int .i64 rk, .int .i64 rb, .int .i64 rp, .int .i64 rn, .int .i64 rs] := (by first | exact hBx.on hbq | exact hBx.drew.on hbq | exact kP.on hbq | exact kP.drew.on hbq); obtain ⟨hgq, t0, v0, t1, v1, t2, v2, t3, v3, t4, v4⟩ := kQ.five; have heQ : EnvW wq := (by first | exact hex.on hbq | exact hex.drew.on hbq | exact he.on hbq | exact Eq.mpr (by rfl) (hex.on (on_below hbp hbq)) | exact hex.on (on_below (un_drew hbp) hbq) | exact hex.on (on_below hbp (un_drew hbq)) | exact hex.on (on_below (un_drew hbp) (un_drew hbq))); have hnQ : Names wq := (by first | exact hnx.on hbq | exact hnx.drew.on hbq | exact hnx.on (on_below hbp hbq) | exact hnx.on (on_below (un_drew hbp) hbq) | exact hnx.on (on_below hbp (un_drew hbq)) | exact hnx.on (on_below (un_drew hbp) (un_drew hbq)))))
          all_goals (go_wp2_with fail; go_meet; first | exact ⟨by simp, on_below (un_drew hbp) hbq⟩ | exact ⟨by simp, on_below hbp hbq⟩ | exact ⟨by simp, on_below (un_drew hbq) hbp⟩ | exact ⟨by simp, on_below hbq hbp⟩ | exact ⟨by simp, on_below (un_drew hbp) (un_drew hbq)⟩ | exact ⟨by simp, on_below hbp (un_drew hbq)⟩ | exact ⟨by simp, on_below (un_drew hbq) (un_drew hbp)⟩ | exact ⟨by simp, on_below hbq (un_drew hbp)⟩)
        case rest =>
          obtain ⟨rfl, hb5⟩ := hcut
          have hB5 := hBx.on hb5
          obtain ⟨hg5, r0, z0, r1, z1, r2, z2, r3, z3, r4, z4⟩ := hB5.five
          have hA5 := hAx.on hb5
          have hb6 := on_below hbx hb5
          cases ob
          · simp only [Bool.false_and] at HAL
            go_wp2
            go_roundw
            case rel => exact ⟨k + 1, by omega, by go_num, by rw [HAL.out], hA5, hb6⟩
            case measure => simp [intOf]; omega
          · simp only [Bool.true_and] at HAL
            go_wp2_with (go_at_call 16; (with_reducible refine (HC3.out _).mono ?_); rintro e w7 ⟨rfl, hb7⟩)
            go_roundw
            case rel => exact ⟨k + 1, by omega, by go_num, by rw [HAL.out], hA5.on hb7, on_below hb6 hb7⟩
            case measure => simp [intOf]; omega
      · have hkn : k = n := by omega
        subst hkn
        rw [List.take_of_length_le (by rw [← HN.out]; exact Nat.le_refl _)]
        obtain ⟨hg, e0, y0, e1, y1, e2, y2⟩ := hAt.three
        have heW := he.on hb
        have hnW := hnm.on hb
        have HP1 := Lib.hid (HCP.out wr heW hnW hrow)
        have HP2 := fun w' (h : RowU w' a c.rules) => Lib.hid (HRP.out w' h)
        clear HCP HRP
        cases hall : c.rules.all only with
        | false =>
          go_wp2_with (first | (go_at_call 17; (with_reducible refine HP1.out.mono ?_); rintro e w3 ⟨rfl, hb3⟩; have hA3 := hAt.on hb3; obtain ⟨hg3, f0, x0, f1, x1, f2, x2⟩ := hA3.three; have hr3 := hrow.below hb3) | (go_at_call 18; (with_reducible refine (HP2 _ hr3).out.mono ?_); rintro e w4 ⟨rfl, hb4⟩))
          go_ret
          exact ⟨rfl, on_below (on_below hb hb3) hb4⟩
        | true =>
          have ho : ∀ r ∈ c.rules, only r = true := by simpa using hall
          have hpl := ptext_len c HF.out k (by rw [← HN.out]; exact Nat.le_refl _)
          rw [show ptext c k = print c by rw [HN.out]; exact ptext_all c] at hpl
          have hLen : (plines c ++ [[]]).length = k + 2 := by rw [List.length_append, plines_len, ← HN.out]; rfl
          obtain ⟨N, hNk⟩ : ∃ N, k + 2 = N := ⟨_, rfl⟩
          obtain ⟨M, hMk⟩ : ∃ M, k + 1 = M := ⟨_, rfl⟩
          rw [hNk] at hLen
          have hNM : (N : Int) - 1 = (M : Int) := by omega
          have HSL := Lib.hid (fun w' (he : EnvW w') => (li_split (bstr (print c)) _ w' (by rw [tx_size]; omega) he (split_print c ho)).mono (fun e w'' h => Parted.n h hLen))
          have HPA : Hid (∀ w' g cc ws, EnvW w' → Names w' → ws.length = N → ws.map (·.data.toList) = plines c ++ [[]] → RowS w' (some ⟨g, 0, none⟩) ws → N ≤ cc → cc ≤ 100000 → Calls Tryd.prog 20 #[.slice (some ⟨g, 0, none⟩) M cc] w' (ParsePost (c, 0) w')) := Lib.hid (fun w' g cc ws h1 h2 h3 h4 h5 h6 h7 => by
            have ht : bl (ws.take M) = plines c := by
              show (ws.take M).map (·.data.toList) = _
              rw [List.map_take, h4, List.take_left' (by rw [plines_len, ← HN.out]; omega)]
            have h := cf_parse (some ⟨g, 0, none⟩) M cc (ws.take M) w' h1 h2 (h5.take M) (by rw [List.length_take]; omega) (by omega) (by unfold maxLen; omega) (by rw [List.length_take]; omega) (fun s hs => by
              have hm : s.data.toList ∈ bl (ws.take M) := List.mem_map_of_mem hs
              rw [ht] at hm
              have h9 := plines_small c HF.out _ hm
              have e9 : s.data.toList.length = s.size := by simp
              omega)
            rw [ht, parse_plines c HF.out ho] at h
            exact h)
          have HRUN : Hid (∀ w' g cc, N ≤ cc → cc ≤ 100000 → (Instr.slice 35 (.slice (some ⟨g, 0, none⟩) N cc) none (some (.int .i64 (M : Int))) none).run Tryd.prog w' = .ok (.slice (some ⟨g, 0, none⟩) M cc) w') :=
            Lib.hid (fun w' g cc h1 h2 => rows_to (P := Tryd.prog) h1 (by unfold maxLen; omega) Tryd.underlying35 one_cell M M rfl (by omega) w')
          have HSM := Lib.hid (fun a1 c1 w' (h1 : RowU w' a1 c.rules) (h2 : RowU w' a c.rules) => ref_same19 c.rules c.timeout c.drift a1 a k c1 cap w' h1 h2 HN.out (by omega))
          clear ho hpl hLen hNk hMk
          go_wp2_with (first | (go_at_call 17; (with_reducible refine HP1.out.mono ?_); rintro e w3 ⟨rfl, hb3⟩; have hA3 := hAt.on hb3; obtain ⟨hg3, f0, x0, f1, x1, f2, x2⟩ := hA3.three; have hr3 := hrow.below hb3) | (go_at_call 18; (with_reducible refine (HP2 _ hr3).out.mono ?_); rintro e w4 ⟨rfl, hb4⟩; have hb44 := on_below (on_below hb hb3) hb4) | (go_at_call 19; (with_reducible refine (HSL.out _ (he.on hb44)).mono ?_); rintro e w5 ⟨g5, cc, ws, rfl, hwl, hwm, hR, hcc, hcm, hg5, hb5⟩; have hrun := (fun w' => HRUN.out w' g5 cc hcc hcm); have hb55 := on_below hb44 hb5) | (go_at_call 20; (with_reducible refine (HPA.out _ _ _ ws (he.on hb55) (hnm.on hb55) hwl hwm hR hcc hcm).mono ?_); rintro e w6 ⟨v6, rfl, hs6, hb6⟩; obtain ⟨-, a6, c6, hv6, hr6⟩ := rowu_of_sl (rs := c.rules) hs6; rw [← HN.out] at hv6; subst hv6; have hb66 := on_below hb55 hb6; have hA6 := (((hA3.on hb4).on hb5).on hb6).on ((Below.refl _ _).alloc (Nat.le_refl _) (.cells #[.slice a6 k c6, .int .i64 c.timeout, .int .i64 c.drift] 24)); obtain ⟨hg6, h0, l0, h1, l1, h2, l2⟩ := hA6.three; have hr66 := hr6.below ((Below.refl _ _).alloc (Nat.le_refl _) (.cells #[.slice a6 k c6, .int .i64 c.timeout, .int .i64 c.drift] 24)); have hb77 := hb66.alloc hb66.size (.cells #[.slice a6 k c6, .int .i64 c.timeout, .int .i64 c.drift] 24); have hr67 := hr.below hb77) | (go_at_call 21; (with_reducible refine (HSM.out _ _ _ hr66 hr67).mono ?_); rintro e w7 ⟨rfl, hb7⟩))
          go_ret
          exact ⟨rfl, on_below hb77 hb7⟩
  · have hl' : (100 : Int) < n := by omega
    clear hn hf hr
    go_enter Tryd.func4, Tryd.ntmps4
    go_wp2_with (first | (go_at_call 11; refine HSP.out.mono ?_; rintro e w2 ⟨rfl, hb2⟩; have hA2 := HA.out.on hb2; obtain ⟨hg, e0, y0, e1, y1, e2, y2⟩ := hA2.three))
    go_ret
    exact ⟨rfl, on_below HB0.out hb2⟩
end Go.Proofs.YtfgfjofbghfdpaaDoor
