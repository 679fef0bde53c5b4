/- WReportParses: what is reached of them. -/
import Derived.Test.YtmimfkhkilijcaaGreatDoorPr30
import Derived.Test.YtmimfkhkilijcaaGreatDoorPr43
import Derived.Test.YtmimfkhkilijcaaGreatDoorPr45
namespace Go.Proofs.YtmimfkhkilijcaaGreatDoor
set_option maxRecDepth 4000
open Go.ChangeShapes Go.WideShapes Go.ChangeAt Go.RowKit
open PWord PSign PHex PQuote
open Go.Lib (itoa)
set_option linter.unusedVariables false
set_option linter.unusedSimpArgs false

theorem logs_back : ∀ ls : List (List UInt8), (ls.map bstr).map (fun s => s.data.toList) = ls
  | [] => rfl
  | l :: ls => by
    rw [List.map_cons, List.map_cons, logs_back ls]
def Parted26 (N : Nat) (L : List (List UInt8)) (w : World) (e : Ending) (w' : World) : Prop :=
  ∃ (g c : Nat) (ws : List ByteArray), e = .returned (.slice (some ⟨g, 0, none⟩) N c) ∧ ws.map (·.data.toList) = L ∧ ws.length = N ∧ RowS w' (some ⟨g, 0, none⟩) ws ∧ N ≤ c ∧ c ≤ 100000 ∧ Below w.heap.size w w'
theorem case_zero (w : World) : CaseC w none 0 0 0 0 none 0 0 none 0 0 [] [] [] :=
  ⟨⟨fun i hi => (Nat.not_lt_zero _ hi).elim⟩, rfl, Nat.le_refl _, Nat.zero_le _, fun r hr => absurd hr List.not_mem_nil, zero64, zero64, ⟨fun i hi => (Nat.not_lt_zero _ hi).elim⟩, rfl, Nat.le_refl _, Nat.zero_le _, ⟨fun i hi => (Nat.not_lt_zero _ hi).elim⟩, rfl, Nat.le_refl _, Nat.zero_le _, fun r hr => absurd hr List.not_mem_nil, fun r hr => absurd hr List.not_mem_nil⟩
set_option maxRecDepth 100000 in
set_option maxHeartbeats 8000000 in
theorem walk_ReportParses (w : World) (he : EnvE w) (hnm : Names w) (a0 : ByteArray) (w0 : a0.size ≤ maxLen) :
    Calls Tryz.prog 4 #[.string a0] w fun e w' => e = .returned (.bool true) ∧ Below w.heap.size w w' := by
  obtain ⟨t, rfl⟩ : ∃ t, a0 = bstr t := ⟨a0.data.toList, rfl⟩
  have HSP := Lib.hid (speaks26 w he hnm)
  have hts := tx_size t
  by_cases hbig : 4000 < t.length
  · have hI : (4000 : Int) < ((bstr t).size : Int) := by rw [hts]; omega
    clear hts
    generalize bstr t = TX at *
    go_enter Tryz.func4, Tryz.ntmps4
    go_wp2_with (first | (go_at_call 8; (with_reducible refine HSP.out.mono ?_); rintro e w1 ⟨rfl, hb1⟩) | fail)
    go_ret
    exact ⟨rfl, hb1⟩
  have hI : ((bstr t).size : Int) ≤ 4000 := by rw [hts]; omega
  have hln : ∀ l ∈ lines t, l.length ≤ 4096 := fun l hl => by have := lines_le t l hl; omega
  obtain ⟨U, hU⟩ := unq_ex
  obtain ⟨P, hP⟩ : ∃ P, parseS U t = P := ⟨_, rfl⟩
  have HPA0 := fun wx (hx : Below w.heap.size w wx) => re_parse U hU t (by omega) hln wx (he.on hx) (hnm.on hx) P hP
  obtain ⟨s, k⟩ := P
  by_cases hk : k = 0
  · subst hk
    obtain ⟨hok, hpr⟩ := parseS_ok hU hP
    have hfew := few_lines hok hpr
    obtain ⟨⟨rs, ti, d⟩, ls, cs⟩ := s
    simp only at hfew
    have HPA : ∀ wx (hx : Below w.heap.size w wx), Hid (Calls Tryz.prog 12 #[.string (bstr t)] wx fun e w' => ∃ a n c b m c2 q nq c3, e = .returned (.tuple #[.agg #[.slice a n c, .int .i64 ti, .int .i64 d, .slice b m c2, .slice q nq c3], .int .i64 0]) ∧ CaseC w' a n c ti d b m c2 q nq c3 rs (ls.map bstr) cs ∧ Below wx.heap.size wx w') := fun wx hx =>
      (HPA0 wx hx).mono fun e w' ⟨a, n, c, b, m, c2, q, nq, c3, h1, h2, h3⟩ => ⟨a, n, c, b, m, c2, q, nq, c3, h1, h2, h3⟩
    have HTL := fun wx a n c b m c2 q nq c3 (hC : CaseC wx a n c ti d b m c2 q nq c3 rs (ls.map bstr) cs) o (ho : toldB rs = o) => Lib.hid (law_told a n c ti d b m c2 q nq c3 rs wx hC.hru hC.hn (by rw [hC.hn]; omega) o ho)
    have hall : rs.all only = true := by rw [List.all_eq_true]; exact hok.only
    by_cases h100 : rs.length < 100
    · have htb : toldB rs = true := by unfold toldB; rw [hall, decide_eq_true h100]; rfl
      have HTL2 := fun wx a n c b m c2 q nq c3 (hC : CaseC wx a n c ti d b m c2 q nq c3 rs (ls.map bstr) cs) => HTL wx a n c b m c2 q nq c3 hC true htb
      have HLP := fun wx a n c b m c2 q nq c3 (hC : CaseC wx a n c ti d b m c2 q nq c3 rs (ls.map bstr) cs) => Lib.hid (law_print wx hC (by rw [hC.hm, List.length_map]; omega) (by rw [hC.hnq]; omega) (fun x hx => by
        obtain ⟨l, hl, rfl⟩ := List.mem_map.1 hx
        rw [tx_size]
        exact hok.logs l hl) (by rw [hC.hn]; omega) t (by rw [logs_back]; exact hpr))
      clear HPA0 HTL htb hall h100 hpr hok hP hln hts
      generalize bstr t = TX at *
      go_enter Tryz.func4, Tryz.ntmps4
      go_wp2_with (first | (go_at_call 8; (with_reducible refine HSP.out.mono ?_); rintro e w1 ⟨rfl, hb1⟩) | (go_at_call 12; (with_reducible refine (HPA _ hb1).out.mono ?_); intro e w2 h2; obtain ⟨a, n, c, b, m, c2, q, nq, c3, rfl, hC, hb2'⟩ := h2; have hb2 := on_below hb1 hb2'; have hba : Below w2.heap.size w2 (w2.alloc (.cells #[.slice a n c, .int .i64 ti, .int .i64 d, .slice b m c2, .slice q nq c3] 33)) := (Below.refl _ _).alloc (Nat.le_refl _) _; have hbox := At.alloc w2 [.slice a n c, .int .i64 ti, .int .i64 d, .slice b m c2, .slice q nq c3] 33; have hC3 := hC.on hba; have hb3 := on_below hb2 hba; have HT3 := HTL2 _ a n c b m c2 q nq c3 hC3) | (go_at_call 10; (with_reducible refine HT3.out.mono ?_); rintro e w4 ⟨rfl, hb4'⟩; have hb4 := on_below hb3 hb4'; obtain ⟨-, r0, -, r1, -, r2, -, r3, -, r4, -⟩ := (hbox.on hb4').five; have HP4 := HLP w4 a n c b m c2 q nq c3 (hC3.on hb4')) | (go_at_call 13; (with_reducible refine HP4.out.mono ?_); rintro e w5 ⟨rfl, hb5'⟩; have hb5 := on_below hb4 hb5') | fail)
      go_ret
      exact ⟨rfl, hb5⟩
    · have htb : toldB rs = false := by unfold toldB; rw [decide_eq_false h100, Bool.and_false]
      have HTL2 := fun wx a n c b m c2 q nq c3 (hC : CaseC wx a n c ti d b m c2 q nq c3 rs (ls.map bstr) cs) => HTL wx a n c b m c2 q nq c3 hC false htb
      have H100 := Lib.hid h100
      clear HPA0 HTL htb hall h100 hpr hok hP hln hts
      generalize bstr t = TX at *
      go_enter Tryz.func4, Tryz.ntmps4
      go_wp2_with (first | (go_at_call 8; (with_reducible refine HSP.out.mono ?_); rintro e w1 ⟨rfl, hb1⟩) | (go_at_call 12; (with_reducible refine (HPA _ hb1).out.mono ?_); intro e w2 h2; obtain ⟨a, n, c, b, m, c2, q, nq, c3, rfl, hC, hb2'⟩ := h2; have hb2 := on_below hb1 hb2'; have hba : Below w2.heap.size w2 (w2.alloc (.cells #[.slice a n c, .int .i64 ti, .int .i64 d, .slice b m c2, .slice q nq c3] 33)) := (Below.refl _ _).alloc (Nat.le_refl _) _; have hbox := At.alloc w2 [.slice a n c, .int .i64 ti, .int .i64 d, .slice b m c2, .slice q nq c3] 33; have hC3 := hC.on hba; have hb3 := on_below hb2 hba; have HT3 := HTL2 _ a n c b m c2 q nq c3 hC3; have hnn : (100 : Int) ≤ (n : Int) := (by have h7 := H100.out; have h8 := hC.hn; omega)) | (go_at_call 10; (with_reducible refine HT3.out.mono ?_); rintro e w4 ⟨rfl, hb4'⟩; have hb4 := on_below hb3 hb4'; obtain ⟨-, r0, -, r1, -, r2, -, r3, -, r4, -⟩ := (hbox.on hb4').five) | fail)
      go_ret
      exact ⟨rfl, hb4⟩
  · obtain ⟨hs0, hk1, hkN, hpre, -⟩ := goS_bad (lines t) noRdr 1 (lines_ne t) (Nat.le_refl _) hP hk
    subst hs0
    have HPA : ∀ wx (hx : Below w.heap.size w wx), Hid (Calls Tryz.prog 12 #[.string (bstr t)] wx fun e w' => ∃ a n c b m c2 q nq c3, e = .returned (.tuple #[.agg #[.slice a n c, .int .i64 0, .int .i64 0, .slice b m c2, .slice q nq c3], .int .i64 (k : Int)]) ∧ CaseC w' a n c 0 0 b m c2 q nq c3 [] [] [] ∧ Below wx.heap.size wx w') := fun wx hx =>
      (HPA0 wx hx).mono fun e w' ⟨a, n, c, b, m, c2, q, nq, c3, h1, h2, h3⟩ => ⟨a, n, c, b, m, c2, q, nq, c3, h1, h2, h3⟩
    have HRN := fun wx (hx : Below w.heap.size w wx) => Lib.hid (re_run_bad U hU t (by omega) hln wx (he.on hx) (hnm.on hx) k hk hP)
    obtain ⟨L, hL⟩ : ∃ L, lines t = L := ⟨_, rfl⟩
    have h10 : ∀ l ∈ L, (10 : UInt8) ∉ l := fun l hl => lines_10 t l (by rw [hL]; exact hl)
    have hLt : glue 10 L = t := by rw [← hL]; exact glue_cuts 10 _ t
    obtain ⟨N, hN⟩ : ∃ N, L.length = N := ⟨_, rfl⟩
    have hNt : N ≤ 4001 := by rw [← hN, ← hL]; have := lines_len t; omega
    rw [hL, hN] at hkN
    rw [hL] at hpre
    have HSL : ∀ wx (hx : Below w.heap.size w wx), Hid (Calls Tryz.prog 15 #[.string (bstr t), .string ⟨#[10]⟩] wx (Parted26 N L wx)) := fun wx hx =>
      (li_split (bstr t) L wx (by rw [hts]; omega) (he.on hx).wd (by rw [← hL]; rfl)).mono fun e w' ⟨g, c, ws, h1, h2, h3, h4, h5, h6, h7⟩ => by
        have hwl : ws.length = N := by rw [← hN, ← h2, List.length_map]
        exact ⟨g, c, ws, by rw [h1, hwl], h2, hwl, h3, by omega, h5, h7⟩
    have HSA := fun wx a n c b m c2 q nq c3 (hC : CaseC wx a n c 0 0 b m c2 q nq c3 [] [] []) => Lib.hid (law_same26 wx hC (case_zero wx) (by rw [hC.hn]; simp) (by rw [hC.hm]; simp) (by rw [hC.hnq]; simp))
    have hki : in64 (k : Int) := by unfold in64; omega
    have HNM := fun wx => Lib.hid (ref_num (k : Int) hki wx)
    have hil := itoa_len hki
    have s1 := fun w => tx_run w [108, 105, 110, 101, 32] (itoa (k : Int)) (by simp only [List.length_cons, List.length_nil]; omega)
    have s2 := fun w => tx_run w ([108, 105, 110, 101, 32] ++ itoa (k : Int)) [10] (by simp only [List.length_append, List.length_cons, List.length_nil]; omega)
    have e1 : lineT tLine [(k : Int)] = [108, 105, 110, 101, 32] ++ itoa (k : Int) ++ [10] := rfl
    simp only [e1] at HRN
    obtain ⟨u0, hu0⟩ : ∃ u, bstr (itoa (k : Int)) = u := ⟨_, rfl⟩
    obtain ⟨u1, hu1⟩ : ∃ u, bstr ([108, 105, 110, 101, 32] ++ itoa (k : Int)) = u := ⟨_, rfl⟩
    obtain ⟨u2, hu2⟩ : ∃ u, bstr ([108, 105, 110, 101, 32] ++ itoa (k : Int) ++ [10]) = u := ⟨_, rfl⟩
    simp only [hu2] at HRN
    simp only [hu0] at HNM
    rw [hu1, hu2] at s2
    rw [hu0, hu1] at s1
    have hk0 : ¬ (k : Int) < 1 := by omega
    have hkz : ((k : Int) == 0) = false := by simp; omega
    have hkn : ¬ (N : Int) < (k : Int) := by omega
    clear hu0 hu1 hu2 e1 hil HPA0
    by_cases hk2 : k = 1
    · have hkI : ((k : Int) == 1) = true := by rw [hk2]; rfl
      clear hpre hk2 hLt h10 hP hln hts hL hN
      generalize bstr t = TX at *
      go_enter Tryz.func4, Tryz.ntmps4
      go_wp2_with (first | (go_at_call 8; (with_reducible refine HSP.out.mono ?_); rintro e w1 ⟨rfl, hb1⟩) | (go_at_call 12; (with_reducible refine (HPA _ hb1).out.mono ?_); intro e w2 h2; obtain ⟨a, n, c, b, m, c2, q, nq, c3, rfl, hC, hb2'⟩ := h2; have hb2 := on_below hb1 hb2'; have hba : Below w2.heap.size w2 (w2.alloc (.cells #[.slice a n c, .int .i64 0, .int .i64 0, .slice b m c2, .slice q nq c3] 33)) := (Below.refl _ _).alloc (Nat.le_refl _) _; have hbox := At.alloc w2 [.slice a n c, .int .i64 0, .int .i64 0, .slice b m c2, .slice q nq c3] 33; have hC3 := hC.on hba; have hb3 := on_below hb2 hba) | (go_at_call 15; (with_reducible refine (HSL _ hb3).out.mono ?_); intro e w4 h4; obtain ⟨g5, cc, ws, rfl, hws, hwl, hrw, hwc, hcc, hb4'⟩ := h4; have hb4 := on_below hb3 hb4'; obtain ⟨-, r0, -, r1, -, r2, -, r3, -, r4, -⟩ := (hbox.on hb4').five; have HS4 := HSA w4 a n c b m c2 q nq c3 (hC3.on hb4')) | (go_at_call 14; (with_reducible refine HS4.out.mono ?_); rintro e w5 ⟨rfl, hb5'⟩; have hb5 := on_below hb4 hb5') | (go_at_call 16; (with_reducible refine (HRN _ hb5).out.mono ?_); rintro e w6 ⟨rfl, hb6'⟩; have hb6 := on_below hb5 hb6') | (go_at_call 17; (with_reducible refine (HNM _).out.mono ?_); rintro e w7 ⟨rfl, hb7'⟩; have hb7 := on_below hb6 hb7') | fail)
      go_ret
      exact ⟨rfl, hb7⟩
    · have hkI : ((k : Int) == 1) = false := by simp; omega
      obtain ⟨qq, hqq⟩ : ∃ q, k - 1 = q := ⟨_, rfl⟩
      have hqI : (k : Int) - 1 = (qq : Int) := by omega
      have hq1 : 1 ≤ qq := by omega
      have hqN : qq < N := by omega
      obtain ⟨hp1, hp2⟩ := hpre hk2
      rw [hqq] at hp1 hp2
      have hqL : qq < L.length := by rw [hN]; exact hqN
      have htk0 : L.take qq ≠ [] := by
        intro e
        have h9 : (L.take qq).length = 0 := by rw [e]; rfl
        rw [List.length_take, hN] at h9
        omega
      have ht10 : ∀ l ∈ L.take qq, (10 : UInt8) ∉ l := fun l hl => h10 l (List.mem_of_mem_take hl)
      have ht11 : ∀ l ∈ L.take (qq + 1), (10 : UInt8) ∉ l := fun l hl => h10 l (List.mem_of_mem_take hl)
      have htk1 : L.take (qq + 1) = L.take qq ++ [L[qq]] := List.take_succ_eq_append_getElem hqL
      have htk2 : L.take (qq + 1) ≠ [] := by
        intro e
        have h9 : (L.take (qq + 1)).length = 0 := by rw [e]; rfl
        rw [List.length_take, hN] at h9
        omega
      have hA1 : (parseS U (glue 10 (L.take qq) ++ [10])).2 = 0 := by rw [parse_ended ht10 htk0]; exact hp1
      have hg2 : glue 10 (L.take (qq + 1)) = glue 10 (L.take qq) ++ 10 :: L[qq] := by rw [htk1]; exact glue_snoc 10 _ _ htk0
      have hl1 : (glue 10 (L.take qq)).length ≤ 4000 := by have := glue_take 10 L qq; rw [hLt] at this; omega
      have hl2 : (glue 10 (L.take (qq + 1))).length ≤ 4000 := by have := glue_take 10 L (qq + 1); rw [hLt] at this; omega
      obtain ⟨k3, hk3⟩ : ∃ k3, (parseS U (glue 10 (L.take (qq + 1)) ++ [10])).2 = k3 := ⟨_, rfl⟩
      have hfin : k3 = k ∨ k = N := by
        by_cases hkl : k < N
        · refine .inl ?_
          rw [← hk3, parse_ended ht11 htk2]
          exact hp2 (by rw [hN]; omega)
        · exact .inr (by omega)
      have HP1 := fun wx (hx : Below w.heap.size w wx) => Lib.hid (parse_num U hU (glue 10 (L.take qq) ++ [10]) (by rw [List.length_append, List.length_singleton]; omega) wx (he.on hx) (hnm.on hx) 0 hA1)
      have HP2 := fun wx (hx : Below w.heap.size w wx) => Lib.hid (parse_num U hU (glue 10 (L.take (qq + 1)) ++ [10]) (by rw [List.length_append, List.length_singleton]; omega) wx (he.on hx) (hnm.on hx) k3 hk3)
      have HRU : Hid (∀ g5 cc, N ≤ cc → cc ≤ 100000 → ∀ w', (Instr.slice 25 (.slice (some ⟨g5, 0, none⟩) N cc) none (some (.int .i64 (qq : Int))) none).run Tryz.prog w' = .ok (.slice (some ⟨g5, 0, none⟩) qq cc) w') := fun g5 cc h1 h2 w' =>
        part_to (P := Tryz.prog) (a := some ⟨g5, 0, none⟩) (n := N) (c := cc) (m := 1) (t := 25) (e := 9) (by unfold maxLen; omega) Tryz.underlying25 (by intro w; kernel_rfl) qq qq rfl (by omega) w'
      have HJN : Hid (∀ wx g5 cc (ws : List ByteArray), ws.map (·.data.toList) = L → ws.length = N → RowS wx (some ⟨g5, 0, none⟩) ws → N ≤ cc → Calls Tryz.prog 18 #[.slice (some ⟨g5, 0, none⟩) qq cc, .string ⟨#[10]⟩] wx fun e w' => e = .returned (.string (bstr (glue 10 (L.take qq)))) ∧ Below wx.heap.size wx w') := fun wx g5 cc ws h1 h2 h3 h4 => by
        have e5 : (ws.take qq).length = qq := by rw [List.length_take, h2]; omega
        have e6 : (ws.take qq).map (·.data.toList) = L.take qq := by rw [List.map_take, h1]
        have h := li_joinL g5 0 cc (ws.take qq) wx (h3.take qq) (by omega) (by omega) (by omega) (by rw [e6]; omega)
        rw [e5, e6] at h
        exact h
      have HCELL : Hid (∀ g5 (ws : List ByteArray), ws.map (·.data.toList) = L → ws.length = N → ∀ wx, RowS wx (some ⟨g5, 0, none⟩) ws → wx.cell? ⟨g5, qq, none⟩ = some (.string (bstr L[qq]))) := fun g5 ws h1 h2 wx h3 => by
        have h7 := (h3.cell qq (by rw [h2]; exact hqN)).2
        rw [Nat.zero_add] at h7
        rw [h7]
        have h8 : L[qq] = (ws[qq]'(by rw [h2]; exact hqN)).data.toList := by simp only [← h1, List.getElem_map]
        rw [h8]
      have s3 := fun w => tx_run w (glue 10 (L.take qq)) [10] (by simp only [List.length_cons, List.length_nil]; omega)
      have hll : L[qq].length ≤ 4000 := by have h9 := congrArg List.length hg2; rw [List.length_append, List.length_cons] at h9; omega
      have s4 := fun w => tx_run w (glue 10 (L.take qq) ++ [10]) L[qq] (by simp only [List.length_append, List.length_cons, List.length_nil]; omega)
      have s5 := fun w => tx_run w (glue 10 (L.take (qq + 1))) [10] (by simp only [List.length_cons, List.length_nil]; omega)
      have e7 : glue 10 (L.take qq) ++ [10] ++ L[qq] = glue 10 (L.take (qq + 1)) := by rw [hg2, List.append_assoc]; rfl
      rw [e7] at s4
      have hfI : ((k3 : Int) == (k : Int)) = true ∨ (((k3 : Int) == (k : Int)) = false ∧ ((k : Int) == (N : Int)) = true) := by
        by_cases h8 : k3 = k
        · exact .inl (by rw [h8]; simp)
        · rcases hfin with h9 | h9
          · exact absurd h9 h8
          · exact .inr ⟨by simp; omega, by rw [h9]; simp⟩
      clear e7 htk2 hfin hk3 hA1 hg2 htk1 ht10 ht11 htk0 hp1 hp2 hpre hLt h10 hP hln hts hL hN hk2 hl1 hl2 hll hqq
      generalize bstr t = TX at *
      generalize bstr (glue 10 (L.take qq) ++ [10]) = A1 at *
      generalize bstr (glue 10 (L.take (qq + 1)) ++ [10]) = A2 at *
      generalize bstr (glue 10 (L.take qq)) = A3 at *
      generalize bstr (glue 10 (L.take (qq + 1))) = A4 at *
      rcases hfI with hfI | ⟨hfI, hfJ⟩
      · go_enter Tryz.func4, Tryz.ntmps4
        go_wp2_with (first | (go_at_call 8; (with_reducible refine HSP.out.mono ?_); rintro e w1 ⟨rfl, hb1⟩) | (go_at_call 12; first | ((with_reducible refine (HPA _ hb1).out.mono ?_); intro e w2 h2; obtain ⟨a, n, c, b, m, c2, q, nq, c3, rfl, hC, hb2'⟩ := h2; have hb2 := on_below hb1 hb2'; have hba : Below w2.heap.size w2 (w2.alloc (.cells #[.slice a n c, .int .i64 0, .int .i64 0, .slice b m c2, .slice q nq c3] 33)) := (Below.refl _ _).alloc (Nat.le_refl _) _; have hbox := At.alloc w2 [.slice a n c, .int .i64 0, .int .i64 0, .slice b m c2, .slice q nq c3] 33; have hC3 := hC.on hba; have hb3 := on_below hb2 hba) | ((with_reducible refine (HP1 _ hb8).out.mono ?_); intro e w9 h9; obtain ⟨a9, n9, c9, t9, d9, b9, m9, c29, q9, nq9, c39, rfl, hb9'⟩ := h9; have hb9 := (on_below hb8 hb9').alloc (on_below hb8 hb9').size (.cells #[.slice a9 n9 c9, .int .i64 t9, .int .i64 d9, .slice b9 m9 c29, .slice q9 nq9 c39] 33); have hrw9 := (hrw8.below hb9').below ((Below.refl _ _).alloc (Nat.le_refl _) (.cells #[.slice a9 n9 c9, .int .i64 t9, .int .i64 d9, .slice b9 m9 c29, .slice q9 nq9 c39] 33)); have hcell := HCELL.out _ ws hws hwl _ hrw9; have hglt := (hrw9.cell qq (by rw [hwl]; exact hqN)).1) | ((with_reducible refine (HP2 _ hb9).out.mono ?_); intro e w10 h10'; obtain ⟨a10, n10, c10, t10, d10, b10, m10, c210, q10, nq10, c310, rfl, hb10'⟩ := h10'; have hb10 := (on_below hb9 hb10').alloc (on_below hb9 hb10').size (.cells #[.slice a10 n10 c10, .int .i64 t10, .int .i64 d10, .slice b10 m10 c210, .slice q10 nq10 c310] 33))) | (go_at_call 15; (with_reducible refine (HSL _ hb3).out.mono ?_); intro e w4 h4; obtain ⟨g5, cc, ws, rfl, hws, hwl, hrw, hwc, hcc, hb4'⟩ := h4; have hb4 := on_below hb3 hb4'; obtain ⟨-, r0, -, r1, -, r2, -, r3, -, r4, -⟩ := (hbox.on hb4').five; have HS4 := HSA w4 a n c b m c2 q nq c3 (hC3.on hb4'); have hru := HRU.out g5 cc hwc hcc) | (go_at_call 14; (with_reducible refine HS4.out.mono ?_); rintro e w5 ⟨rfl, hb5'⟩; have hb5 := on_below hb4 hb5'; have hrw5 := hrw.below hb5') | (go_at_call 16; (with_reducible refine (HRN _ hb5).out.mono ?_); rintro e w6 ⟨rfl, hb6'⟩; have hb6 := on_below hb5 hb6'; have hrw6 := hrw5.below hb6') | (go_at_call 17; (with_reducible refine (HNM _).out.mono ?_); rintro e w7 ⟨rfl, hb7'⟩; have hb7 := on_below hb6 hb7'; have hrw7 := hrw6.below hb7'; have HJ7 := HJN.out w7 g5 cc ws hws hwl hrw7 hwc) | (go_at_call 18; (with_reducible refine HJ7.mono ?_); rintro e w8 ⟨rfl, hb8'⟩; have hb8 := on_below hb7 hb8'; have hrw8 := hrw7.below hb8') | fail)
        go_ret
        exact ⟨by simp, hb10⟩
      · go_enter Tryz.func4, Tryz.ntmps4
        go_wp2_with (first | (go_at_call 8; (with_reducible refine HSP.out.mono ?_); rintro e w1 ⟨rfl, hb1⟩) | (go_at_call 12; first | ((with_reducible refine (HPA _ hb1).out.mono ?_); intro e w2 h2; obtain ⟨a, n, c, b, m, c2, q, nq, c3, rfl, hC, hb2'⟩ := h2; have hb2 := on_below hb1 hb2'; have hba : Below w2.heap.size w2 (w2.alloc (.cells #[.slice a n c, .int .i64 0, .int .i64 0, .slice b m c2, .slice q nq c3] 33)) := (Below.refl _ _).alloc (Nat.le_refl _) _; have hbox := At.alloc w2 [.slice a n c, .int .i64 0, .int .i64 0, .slice b m c2, .slice q nq c3] 33; have hC3 := hC.on hba; have hb3 := on_below hb2 hba) | ((with_reducible refine (HP1 _ hb8).out.mono ?_); intro e w9 h9; obtain ⟨a9, n9, c9, t9, d9, b9, m9, c29, q9, nq9, c39, rfl, hb9'⟩ := h9; have hb9 := (on_below hb8 hb9').alloc (on_below hb8 hb9').size (.cells #[.slice a9 n9 c9, .int .i64 t9, .int .i64 d9, .slice b9 m9 c29, .slice q9 nq9 c39] 33); have hrw9 := (hrw8.below hb9').below ((Below.refl _ _).alloc (Nat.le_refl _) (.cells #[.slice a9 n9 c9, .int .i64 t9, .int .i64 d9, .slice b9 m9 c29, .slice q9 nq9 c39] 33)); have hcell := HCELL.out _ ws hws hwl _ hrw9; have hglt := (hrw9.cell qq (by rw [hwl]; exact hqN)).1) | ((with_reducible refine (HP2 _ hb9).out.mono ?_); intro e w10 h10'; obtain ⟨a10, n10, c10, t10, d10, b10, m10, c210, q10, nq10, c310, rfl, hb10'⟩ := h10'; have hb10 := (on_below hb9 hb10').alloc (on_below hb9 hb10').size (.cells #[.slice a10 n10 c10, .int .i64 t10, .int .i64 d10, .slice b10 m10 c210, .slice q10 nq10 c310] 33))) | (go_at_call 15; (with_reducible refine (HSL _ hb3).out.mono ?_); intro e w4 h4; obtain ⟨g5, cc, ws, rfl, hws, hwl, hrw, hwc, hcc, hb4'⟩ := h4; have hb4 := on_below hb3 hb4'; obtain ⟨-, r0, -, r1, -, r2, -, r3, -, r4, -⟩ := (hbox.on hb4').five; have HS4 := HSA w4 a n c b m c2 q nq c3 (hC3.on hb4'); have hru := HRU.out g5 cc hwc hcc) | (go_at_call 14; (with_reducible refine HS4.out.mono ?_); rintro e w5 ⟨rfl, hb5'⟩; have hb5 := on_below hb4 hb5'; have hrw5 := hrw.below hb5') | (go_at_call 16; (with_reducible refine (HRN _ hb5).out.mono ?_); rintro e w6 ⟨rfl, hb6'⟩; have hb6 := on_below hb5 hb6'; have hrw6 := hrw5.below hb6') | (go_at_call 17; (with_reducible refine (HNM _).out.mono ?_); rintro e w7 ⟨rfl, hb7'⟩; have hb7 := on_below hb6 hb7'; have hrw7 := hrw6.below hb7'; have HJ7 := HJN.out w7 g5 cc ws hws hwl hrw7 hwc) | (go_at_call 18; (with_reducible refine HJ7.mono ?_); rintro e w8 ⟨rfl, hb8'⟩; have hb8 := on_below hb7 hb8'; have hrw8 := hrw7.below hb8') | fail)
        go_ret
        exact ⟨by simp, hb10⟩
end Go.Proofs.YtmimfkhkilijcaaGreatDoor
