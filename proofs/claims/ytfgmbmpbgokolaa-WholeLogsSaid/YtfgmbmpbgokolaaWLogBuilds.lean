/- The walk of the law LogBuilds. -/
import Derived.Test.YtfgmbmpbgokolaaWLogParses
import Derived.Test.YtfgmbmpbgokolaaRefBuild
namespace Go.Proofs.Ytfgmbmpbgokolaa
open Go.ChangeShapes Go.WideShapes Go.ChangeAt Go.RowKit
open PVar PCrc PFrame
set_option linter.unusedVariables false
set_option linter.unusedSimpArgs false

theorem berr_next (rs : List R) (k : Nat) (h : k < rs.length) : berr (rs.take (k + 1)) = if berr (rs.take k) = 0 then err rs[k].1 rs[k].2.1 rs[k].2.2 else berr (rs.take k) := by
  have e : ∀ (l : List R) (r : R), berr (l ++ [r]) = if berr l = 0 then err r.1 r.2.1 r.2.2 else berr l := by
    intro l
    induction l with
    | nil =>
      intro r
      show (if err r.1 r.2.1 r.2.2 ≠ 0 then err r.1 r.2.1 r.2.2 else 0) = _
      by_cases h : err r.1 r.2.1 r.2.2 ≠ 0
      · rw [if_pos h]; rfl
      · rw [if_neg h]; show 0 = err r.1 r.2.1 r.2.2; omega
    | cons x l ih =>
      intro r
      show (if err x.1 x.2.1 x.2.2 ≠ 0 then err x.1 x.2.1 x.2.2 else berr (l ++ [r])) = if (if err x.1 x.2.1 x.2.2 ≠ 0 then err x.1 x.2.1 x.2.2 else berr l) = 0 then err r.1 r.2.1 r.2.2 else (if err x.1 x.2.1 x.2.2 ≠ 0 then err x.1 x.2.1 x.2.2 else berr l)
      by_cases h : err x.1 x.2.1 x.2.2 ≠ 0
      · simp only [if_pos h]; rw [if_neg h]
      · simp only [if_neg h]; exact ih r
  rw [List.take_succ_eq_append_getElem h]
  exact e _ _

theorem build_small : ∀ (rs : List R), (∀ r ∈ rs, r.2.2.length ≤ 100) → (∀ r ∈ rs, (-9223372036854775808 ≤ r.1 ∧ r.1 ≤ 9223372036854775807) ∧ (-9223372036854775808 ≤ r.2.1 ∧ r.2.1 ≤ 9223372036854775807)) → (build rs).length ≤ rs.length * 200
  | [], _, _ => Nat.zero_le _
  | r :: rs, h, ht => by
    have ih := build_small rs (fun x hx => h x (List.mem_cons_of_mem _ hx)) (fun x hx => ht x (List.mem_cons_of_mem _ hx))
    have h1 := h r (List.mem_cons_self ..)
    have h2 := (ht r (List.mem_cons_self ..)).2
    have hl : (build (r :: rs)).length = (encR r).length + (build rs).length := by show (encR r ++ build rs).length = _; rw [List.length_append]
    have hel : (encR r).length = _ := enc_len r.1 r.2.1 r.2.2
    have hbl := body_len r.1 r.2.1 r.2.2
    have hdl := digs_len (fold_le h2.1 h2.2)
    have hdl2 := digs_len (n := (body r.1 r.2.1 r.2.2).length) (by omega)
    rw [hl, List.length_cons]
    omega

/-- The first loop: none too long as yet; the first error. -/
def LB1 (rs : List R) (w : World) (u i : Value) (wr : World) (k : Nat) : Prop :=
  k ≤ rs.length ∧ i = .int .i64 k ∧ u = .int .i64 (berr (rs.take k) : Nat) ∧ (∀ r ∈ rs.take k, r.2.2.length ≤ 100) ∧ Below w.heap.size w wr

set_option maxRecDepth 100000 in
set_option maxHeartbeats 8000000 in
theorem walk_LogBuilds (w : World) (a0 : Option Addr) (n0 c0 : Nat) (l0 : List (Int × Int × ByteArray × Unit)) (w0 : Rd w (.sl (.pair (.int .i64) (.pair (.int .i64) (.pair .str .unit)))) [.slice a0 n0 c0] l0) (a1 : Int) (w1 : (Lit.int .u16 a1).wf = true) :
    Calls Try.prog 7 #[.slice a0 n0 c0, .int .u16 a1] w fun e w' => e = .returned (.bool true) ∧ Below w.heap.size w w' := by
  obtain ⟨hn0, hcap, hr, hxm⟩ := Rd.recs w0
  have hb1 := bounds_u16 w1
  have hln : (l0.map toR).length = n0 := (@List.length_map _ _ l0 toR).trans hn0.symm
  generalize hrs : (List.map toR l0 : List R) = rs at *
  clear hrs w0 w1 hn0
  have HN := Lib.hid hln
  clear hln
  by_cases hbig : 20 < n0
  · go_enter Try.func7, Try.ntmps7
    go_wp2_with (first | (go_at_call 16; refine (speaks6 _).mono ?_; rintro e w2 ⟨rfl, b2⟩))
    go_ret
    exact ⟨rfl, b2⟩
  go_enter Try.func7, Try.ntmps7
  go_wp2_with (first | (go_at_call 16; refine (speaks6 _).mono ?_; rintro e w2 ⟨rfl, b2⟩))
  go_loopw [5, 26] (fun u i wr => ∃ k : Nat, LB1 rs w u i wr k) (fun _ i _ => n0 - (intOf i).toNat)
  case atStart => exact ⟨0, Nat.zero_le _, rfl, rfl, by simp, b2⟩
  case round =>
    obtain ⟨k, hk, rfl, rfl, htx, hbw⟩ := hrel
    rw [HN.out] at hk
    by_cases hlt : k < n0
    · have hk1 : k < rs.length := by rw [HN.out]; exact hlt
      obtain ⟨bb, oo, rfl, hbb, p0, p1, p2⟩ := (hr.on hbw).at_ k hk1
      have htm := (hr.tm rs[k] (List.getElem_mem hk1)).2
      have hnx := berr_next rs k hk1
      have htk : rs.take (k + 1) = rs.take k ++ [rs[k]] := List.take_succ_eq_append_getElem hk1
      generalize rs[k] = r at *
      obtain ⟨k1, t1, x1⟩ := r
      simp only at p0 p1 p2 htm hnx
      have hsz : (bstr x1).size = x1.length := size_bstr x1
      by_cases hx : 100 < x1.length
      · clear hnx htk
        go_wp2
        go_ret
        exact ⟨rfl, hbw.alloc hbw.size _⟩
      have HC : Hid (∀ w, Calls Try.prog 11 #[rec k1 t1 (bstr x1)] w fun e w' => e = .returned (.int .i64 (err k1 t1 x1 : Nat)) ∧ Below w.heap.size w w') := fun w => ref_check k1 t1 (bstr x1) w htm (by omega)
      have htx2 : ∀ r ∈ rs.take (k + 1), r.2.2.length ≤ 100 := by
        intro r hr
        rw [htk] at hr
        rcases List.mem_append.1 hr with h | h
        · exact htx r h
        · simp at h; subst h; show x1.length ≤ 100; omega
      have HTX := Lib.hid htx2
      have hk2 : k + 1 ≤ rs.length := by rw [HN.out]; omega
      clear htk htx2 hk1
      by_cases hz : berr (rs.take k) = 0
      · rw [if_pos hz] at hnx
        have HNX := Lib.hid hnx
        clear hnx
        have hz' : ((berr (rs.take k) : Int) == 0) = true := by simpa using hz
        have HK := Lib.hid hk2
        clear hk2
        rw [hz]
        go_wp2_with (first | (go_at_call 11; refine (HC.out _).mono ?_; rintro e w3 ⟨rfl, b3⟩; have hb3 := on_below (hbw.alloc hbw.size _) b3))
        exact ⟨⟨k + 1, HK.out, by go_num, by rw [HNX.out], HTX.out, hb3⟩, by simp [intOf]; omega⟩
      · rw [if_neg hz] at hnx
        have HNX := Lib.hid hnx
        clear hnx
        have hz' : ((berr (rs.take k) : Int) == 0) = false := by simpa using hz
        have HK := Lib.hid hk2
        clear hk2
        generalize berr (rs.take k) = bz at *
        go_wp2
        have hb3 := hbw.alloc hbw.size (.cells #[.int .i64 k1, .int .i64 t1, .string (bstr x1)] 23)
        exact ⟨⟨k + 1, HK.out, by go_num, by rw [HNX.out], HTX.out, hb3⟩, by simp [intOf]; omega⟩
    · obtain rfl : k = n0 := by omega
      have hall : rs.take k = rs := List.take_of_length_le (by rw [HN.out]; exact Nat.le_refl _)
      rw [hall] at htx ⊢
      clear hall hlt hk
      have hbd := log_build a0 k c0 rs wr (hr.on hbw) HN.out (fun r hr => by have := htx r hr; omega) (by omega)
      have hsx : Hid (∀ z, bstr (if berr rs = 0 then build rs else []) = z → z = bstr (if berr rs = 0 then build rs else [])) := fun z h => h.symm
      obtain ⟨SX, hSX⟩ : ∃ z, bstr (if berr rs = 0 then build rs else []) = z := ⟨_, rfl⟩
      obtain ⟨er, hER⟩ : ∃ z, berr rs = z := ⟨_, rfl⟩
      rw [hSX, hER] at hbd
      rw [hER]
      have HBD := Lib.hid hbd
      have HSX := Lib.hid hSX
      have HER := Lib.hid hER
      have hnn : ((er : Int) != er) = false := by simp
      have HTX := Lib.hid htx
      clear hbd hSX hER hsx htx
      go_wp2_with (first | (go_at_call 19; refine HBD.out.mono ?_; rintro e w3 ⟨rfl, b3⟩; have hb3 := on_below hbw b3) | (go_at_call 21; refine (log_times a0 k c0 rs _ (hr.on hb3) HN.out (by omega)).mono ?_; rintro e w4 ⟨at4, ct4, rfl, rt4, b4⟩; have hb4 := on_below hb3 b4; rw [HN.out]))
      go_loopw [58] (fun i wr => ∃ j : Nat, j ≤ k ∧ i = .int .i64 j ∧ Below w4.heap.size w4 wr) (fun i _ => k - (intOf i).toNat)
      case atStart => exact ⟨0, Nat.zero_le _, rfl, Below.refl _ _⟩
      case round =>
        obtain ⟨j, hj, rfl, hbj⟩ := hrel
        by_cases hlt : j < k
        · have hj1 : j < rs.length := by rw [HN.out]; exact hlt
          have hj2 : j < (rs.map fun r => r.2.1).length := by rw [List.length_map]; exact hj1
          obtain ⟨bb, oo, rfl, hbb, p0, p1, p2⟩ := (hr.on (on_below hb4 hbj)).at_ j hj1
          obtain ⟨bt, ot, rfl, hbt, q0⟩ := (rt4.below hbj).at_ j hj2
          rw [List.getElem_map] at q0
          generalize rs[j] = r at *
          obtain ⟨k1, t1, x1⟩ := r
          simp only at p0 p1 p2 q0
          have hnt : ((t1 : Int) != t1) = false := by simp
          clear hj1 hj2
          go_wp2
          go_quiet (fail)
          go_wp2
          have hbn := below_drewN (hbj.alloc hbj.size (.cells #[.int .i64 k1, .int .i64 t1, .string (bstr x1)] 23)) nq
          exact ⟨⟨j + 1, by omega, by go_num, hbn⟩, by simp [intOf]; omega⟩
        · by_cases hz : er = 0
          · subst hz
            have hSX2 : SX = bstr (build rs) := by rw [← HSX.out, if_pos HER.out]
            subst hSX2
            have hbwj := on_below hb4 hbj
            have hBl : (bstr (build rs)).size = (build rs).length := size_bstr _
            obtain ⟨L, hL⟩ : ∃ L, (build rs).length = L := ⟨_, rfl⟩
            rw [hL] at hBl
            have HL := Lib.hid hL
            obtain ⟨q, hq⟩ : ∃ q : Nat, a1 % ((L : Int) + 1) = (q : Int) := ⟨(a1 % ((L : Int) + 1)).toNat, by have := Int.emod_nonneg a1 (show ((L : Int) + 1) ≠ 0 by omega); omega⟩
            have hqL : q ≤ L := by have := Int.emod_lt_of_pos a1 (show (0 : Int) < (L : Int) + 1 by omega); omega
            have hL9 : L ≤ 4000 := by have := HN.out; have := build_small rs HTX.out hr.tm; omega
            have hLz : (L : Int) + 1 ≠ 0 := by omega
            clear hL
            go_wp2
            rw [hq]
            have hokR : ∀ r ∈ rs, okR r := fun r h => ⟨berr_ok rs HER.out r h, (hr.tm r h).2⟩
            have HPAR : Hid (∀ (m V er : Nat), m = whole rs q → (build (rs.take m)).length = V → er = (if V = q then 0 else 1) → m ≤ k → ∀ w, Calls Try.prog 17 #[.string (bstr ((build rs).take q))] w fun e w' => ∃ ag cg, e = .returned (.tuple #[.slice ag m cg, .int .i64 V, .int .i64 er]) ∧ RowR w' ag (rs.take m) ∧ Below w.heap.size w w') := by
              intro m V er h1 h2 h3 h4 w
              have hp := log_parse (bstr ((build rs).take q)) w (by rw [size_bstr, List.length_take]; omega)
              rw [show (bstr ((build rs).take q)).data.toList = (build rs).take q from rfl, parse_cut rs hokR q (by rw [HL.out]; exact hqL), ← h1, h2, ← h3] at hp
              refine hp.mono ?_
              rintro e w' ⟨ag, cg, he, hrw, hbl⟩
              have hlm : (rs.take m).length = m := by rw [List.length_take, HN.out]; omega
              simp only [hlm] at he
              exact ⟨ag, cg, he, hrw, hbl⟩
            have HRB : Hid (∀ w', RowR w' a0 rs → Calls Try.prog 22 #[.slice a0 k c0] w' fun e w'' => e = .returned (.string (bstr (build rs))) ∧ Below w'.heap.size w' w'') := fun w' h => ref_build a0 k c0 rs w' h HN.out (fun r hr => by have := HTX.out r hr; omega) (by omega) HER.out
            have HSAME : Hid (∀ (m : Nat) (ag : Option Addr) (cg : Nat) (w' : World), m ≤ k → RowR w' ag (rs.take m) → RowR w' a0 rs → Calls Try.prog 20 #[.slice ag m cg, .slice a0 m c0] w' fun e w'' => e = .returned (.bool true) ∧ ∃ n, w'' = w'.drewN n) := by
              intro m ag cg w' h1 h2 h3
              have hlm : (rs.take m).length = m := by rw [List.length_take, HN.out]; omega
              have h := ref_sameR ag a0 cg c0 (rs.take m) (rs.take m) w' h2 (h3.take m) true (by simp)
              rw [hlm] at h
              exact h
            have hto := fun w => to_run (P := Try.prog) w 9 (bstr (build rs)) q q rfl Try.underlying9 (by omega)
            rw [show (bstr (build rs)).data.toList = build rs from rfl] at hto
            clear hokR
            go_loopw [14, 15] (fun n v wr => ∃ m : Nat, m ≤ k ∧ n = .int .i64 m ∧ v = .int .i64 (build (rs.take m)).length ∧ Hid (m ≤ whole rs q) ∧ (build (rs.take m)).length ≤ q ∧ Below w.heap.size w wr) (fun n _ _ => k - (intOf n).toNat)
            case atStart => exact ⟨0, Nat.zero_le _, rfl, rfl, Nat.zero_le _, by simp [build], hbwj⟩
            case round =>
              obtain ⟨m, hm, rfl, rfl, HW, hbq, hbm⟩ := hrel
              have hok := berr_ok rs HER.out
              by_cases hmk : m < k
              · have hm1 : m < rs.length := by rw [HN.out]; exact hmk
                have hr0 := hr
                obtain ⟨bb, oo, rfl, hbb, p0, p1, p2⟩ := (hr.on hbm).at_ m hm1
                have htm := (hr.tm rs[m] (List.getElem_mem hm1)).2
                have hkd := err_kind (hok rs[m] (List.getElem_mem hm1))
                have htxm := HTX.out rs[m] (List.getElem_mem hm1)
                have hwa := whole_at rs q m hm1 hbq
                have hsn := build_snoc rs m hm1
                generalize rs[m] = r at *
                obtain ⟨k1, t1, x1⟩ := r
                simp only at p0 p1 p2 htm hkd htxm
                have hen := fun w => ref_encode k1 t1 (bstr x1) w hkd htm (by rw [size_bstr]; omega)
                rw [show (bstr x1).data.toList = x1 from rfl] at hen
                have hE : encR (k1, t1, x1) = enc k1 t1 x1 := rfl
                rw [hE] at hwa hsn
                have hsl2 : (build (rs.take (m + 1))).length = (build (rs.take m)).length + (enc k1 t1 x1).length := by rw [hsn, List.length_append]
                have hEs : (bstr (enc k1 t1 x1)).size = (enc k1 t1 x1).length := size_bstr _
                have HE := Lib.hid hen
                have HSL := Lib.hid hsl2
                have hEsm : (enc k1 t1 x1).length ≤ 200 := by
                  have h1 := enc_len k1 t1 x1
                  have h2 := body_len k1 t1 x1
                  have h3 := digs_len (fold_le htm.1 htm.2)
                  have h4 := digs_len (n := (body k1 t1 x1).length) (by omega)
                  omega
                clear hen hsn hE hkd htxm hm1 hok hsl2
                generalize hEl : (enc k1 t1 x1).length = EL at *
                generalize enc k1 t1 x1 = E at *
                generalize hVV : (build (rs.take m)).length = V at *
                have HV := Lib.hid hVV
                clear hVV
                by_cases hfit : V + EL ≤ q
                · have hmw := hwa.2 hfit
                  have HMW := Lib.hid hmw
                  clear hwa hmw
                  go_wp2_with (first | (go_at_call 14; first | ((with_reducible refine (HE.out wr).mono ?_); rintro e w5 ⟨rfl, b5⟩; have hb5 := on_below hbm b5; have p0' := cell_on b5 p0 hbb; have p1' := cell_on b5 p1 hbb; have p2' := cell_on b5 p2 hbb) | ((with_reducible refine (HE.out _).mono ?_); rintro e w6 ⟨rfl, b6⟩; have hb6 := on_below hb5 b6)))
                  have hlen' : (build (rs.take (m + 1))).length ≤ q := by rw [HSL.out]; exact hfit
                  go_roundw
                  case rel =>
                    (repeat apply Exists.intro)
                    refine ⟨⟨m + 1, by omega, ?_, ?_, HMW.out, hlen', hb6⟩, rfl⟩
                    · go_num
                    · rw [HSL.out]; go_num
                  case measure => simp [intOf]; omega
                · have hmw : m = whole rs q := by
                    have h1 := HW.out
                    have h2 : ¬ m < whole rs q := fun h => hfit (hwa.1 h)
                    omega
                  have HMW := Lib.hid hmw
                  have hfit2 : q < V + EL := by omega
                  have hfit3 : (q : Int) < (V : Int) + EL := by omega
                  clear hwa hmw
                  obtain ⟨er, hE0⟩ : ∃ er : Nat, er = (if V = q then 0 else 1) := ⟨_, rfl⟩
                  have HP2 := Lib.hid (HPAR.out m V er HMW.out HV.out hE0 (by omega))
                  have HP3 := Lib.hid (HSAME.out m)
                  by_cases hVq : V = q
                  · rw [if_pos hVq] at hE0
                    subst hE0
                    have HVQ : ((V : Int) == q) = true := by simp; omega
                    clear hVq
                    go_wp2_with (first | (go_at_call 14; refine (HE.out wr).mono ?_; rintro e w5 ⟨rfl, b5⟩; have hb5 := on_below hbm b5) | (go_at_call 17; refine (HP2.out _).mono ?_; rintro e w7 ⟨ag, cg, rfl, rg, b7⟩; have hb7 := on_below hb5 b7) | (go_at_call 22; refine (HRB.out _ (hr0.on hb7)).mono ?_; rintro e w8 ⟨rfl, b8⟩; have hb8 := on_below hb7 b8) | (go_at_call 20; refine (HP3.out ag cg _ (by omega) (rg.on b8) (hr0.on hb8)).mono ?_; rintro e w9 ⟨rfl, nn, rfl⟩))
                    go_ret
                    exact ⟨rfl, below_drewN hb8 _⟩
                  · rw [if_neg hVq] at hE0
                    subst hE0
                    have HVQ : ((V : Int) == q) = false := by simp; omega
                    clear hVq
                    go_wp2_with (first | (go_at_call 14; refine (HE.out wr).mono ?_; rintro e w5 ⟨rfl, b5⟩; have hb5 := on_below hbm b5) | (go_at_call 17; refine (HP2.out _).mono ?_; rintro e w7 ⟨ag, cg, rfl, rg, b7⟩; have hb7 := on_below hb5 b7) | (go_at_call 22; refine (HRB.out _ (hr0.on hb7)).mono ?_; rintro e w8 ⟨rfl, b8⟩; have hb8 := on_below hb7 b8) | (go_at_call 20; refine (HP3.out ag cg _ (by omega) (rg.on b8) (hr0.on hb8)).mono ?_; rintro e w9 ⟨rfl, nn, rfl⟩))
                    go_ret
                    exact ⟨rfl, below_drewN hb8 _⟩
              · have hmw : m = whole rs q := by
                  have h1 := HW.out
                  have h2 := whole_le rs q
                  have h3 := HN.out
                  omega
                have HMW := Lib.hid hmw
                generalize hVV : (build (rs.take m)).length = V at *
                have HV := Lib.hid hVV
                have hr0 := hr
                have hb5 := hbm
                clear hVV hmw hok
                obtain ⟨er, hE0⟩ : ∃ er : Nat, er = (if V = q then 0 else 1) := ⟨_, rfl⟩
                have HP2 := Lib.hid (HPAR.out m V er HMW.out HV.out hE0 (by omega))
                have HP3 := Lib.hid (HSAME.out m)
                by_cases hVq : V = q
                · rw [if_pos hVq] at hE0
                  subst hE0
                  have HVQ : ((V : Int) == q) = true := by simp; omega
                  clear hVq
                  go_wp2_with (first | (go_at_call 17; refine (HP2.out _).mono ?_; rintro e w7 ⟨ag, cg, rfl, rg, b7⟩; have hb7 := on_below hb5 b7) | (go_at_call 22; refine (HRB.out _ (hr0.on hb7)).mono ?_; rintro e w8 ⟨rfl, b8⟩; have hb8 := on_below hb7 b8) | (go_at_call 20; refine (HP3.out ag cg _ (by omega) (rg.on b8) (hr0.on hb8)).mono ?_; rintro e w9 ⟨rfl, nn, rfl⟩))
                  go_ret
                  exact ⟨rfl, below_drewN hb8 _⟩
                · rw [if_neg hVq] at hE0
                  subst hE0
                  have HVQ : ((V : Int) == q) = false := by simp; omega
                  clear hVq
                  go_wp2_with (first | (go_at_call 17; refine (HP2.out _).mono ?_; rintro e w7 ⟨ag, cg, rfl, rg, b7⟩; have hb7 := on_below hb5 b7) | (go_at_call 22; refine (HRB.out _ (hr0.on hb7)).mono ?_; rintro e w8 ⟨rfl, b8⟩; have hb8 := on_below hb7 b8) | (go_at_call 20; refine (HP3.out ag cg _ (by omega) (rg.on b8) (hr0.on hb8)).mono ?_; rintro e w9 ⟨rfl, nn, rfl⟩))
                  go_ret
                  exact ⟨rfl, below_drewN hb8 _⟩
          · have hSX2 : SX = bstr [] := by rw [← HSX.out, if_neg (by rw [HER.out]; exact hz)]
            have hz2 : SX.toList.isEmpty = true := by rw [hSX2, Lib.toList_data]; rfl
            have hz3 : ((er : Int) != 0) = true := by simpa using hz
            have hz4 : ((er : Int) == 0) = false := by simpa using hz
            clear hSX2
            go_wp2
            go_ret
            exact ⟨rfl, on_below hb4 hbj⟩
end Go.Proofs.Ytfgmbmpbgokolaa
