/- RepRun; Speaks26; WReportError; RepText: what is reached of them. -/
import Derived.Test.YtmimfkhkilijcaaGreatDoorPr11
import Derived.Test.YtmimfkhkilijcaaGreatDoorPr38
import Derived.Test.YtmimfkhkilijcaaGreatDoorPr41
import Derived.Test.YtmimfkhkilijcaaGreatDoorPr42
namespace Go.Proofs.YtmimfkhkilijcaaGreatDoor
set_option maxRecDepth 4000
open Go.ChangeShapes Go.WideShapes Go.ChangeAt Go.RowKit
open PSign PHex PQuote
open Go.Lib (itoa)
set_option linter.unusedVariables false
set_option linter.unusedSimpArgs false

abbrev tLine : List UInt8 := [108, 105, 110, 101]
theorem line2 (x0 : Int) (h0 : in64 x0) (w : World) (he : EnvW w) (N : Nat) (hN : w.heap.size = N) :
    Calls Tryz.prog 47 #[.string ⟨#[108, 105, 110, 101]⟩, .slice (some ⟨N, 0, none⟩) 1 1] (w.alloc (.cells #[.int .i64 x0] 3)) fun e w' => e = .returned (.string (bstr (lineT tLine [x0]))) ∧ Below w.heap.size w w' := by
  subst hN
  have hb : Below w.heap.size w (w.alloc (.cells (iv [x0]).toArray 3)) := (Below.refl _ _).alloc (Nat.le_refl _) _
  have hr := rowi_made w [x0] 3 (by unfold maxLen; simp) (fun x hx => by rw [List.mem_singleton.1 hx]; exact h0)
  refine (re_line tLine [x0] (some ⟨w.heap.size, 0, none⟩) 1 1 _ (he.on hb) hr rfl (by omega) (by decide)).mono ?_
  rintro e w' ⟨rfl, h⟩
  exact ⟨rfl, on_below hb h⟩
theorem glue_le (c : UInt8) : ∀ (L : List (List UInt8)) (l : List UInt8), l ∈ L → l.length ≤ (PWord.glue c L).length
  | [], l, h => by cases h
  | [x], l, h => by rw [List.mem_singleton.1 h]; exact Nat.le_refl _
  | x :: y :: r, l, h => by
    rw [PWord.glue_cons, List.length_append, List.length_cons]
    rcases List.mem_cons.1 h with rfl | h
    · omega
    · have := glue_le c (y :: r) l h
      omega
theorem lines_le (t : List UInt8) : ∀ l ∈ lines t, l.length ≤ t.length := fun l h => by
  have := glue_le 10 _ l h
  unfold lines at this
  rw [PWord.glue_cuts] at this
  exact this
theorem goS_le {U : List UInt8 → Option (List UInt8)} : ∀ (L : List (List UInt8)) (r : Rdr) (n : Nat), (goS U r n L).2 ≤ n + L.length
  | [], r, n => by show n ≤ _; omega
  | [x], r, n => by
    show (if n ≠ 1 ∧ x = [] then (r.s, 0) else (noScr, n)).2 ≤ _
    split
    · exact Nat.zero_le _
    · exact Nat.le_add_right _ _
  | x :: y :: rest, r, n => by
    rw [goS_two]
    split
    · exact Nat.le_add_right _ _
    · next r' _ =>
      have := goS_le (U := U) (y :: rest) r' (n + 1)
      simp only [List.length_cons] at this ⊢
      omega
theorem cuts_len (c : UInt8) : ∀ (k : Nat) (l : List UInt8), (PWord.cuts c k l).length ≤ k + 1 := by
  intro k
  induction k with
  | zero => intro l; exact Nat.le_refl _
  | succ k ih =>
    intro l
    by_cases hc : c ∈ l
    · obtain ⟨a, b, rfl, ha⟩ := PWord.part_at c l hc
      rw [PWord.cuts_some c k a b ha, List.length_cons]
      have := ih b
      omega
    · rw [PWord.cuts_none c _ l hc]; simp
theorem lines_len (t : List UInt8) : (lines t).length ≤ t.length + 1 := by
  have h1 := cuts_len 10 (t.count 10) t
  have h2 := List.count_le_length (a := (10 : UInt8)) (l := t)
  unfold lines
  omega
set_option maxRecDepth 100000 in
set_option maxHeartbeats 2000000 in
theorem re_run_bad (U : List UInt8 → Option (List UInt8)) (hU : UOK U) (t : List UInt8) (ht : t.length ≤ 100000) (hl : ∀ l ∈ lines t, l.length ≤ 4096) (w : World) (he : EnvE w) (hnm : Names w) (k : Nat) (hk : k ≠ 0) (hP : parseS U t = (noScr, k)) :
    Calls Tryz.prog 16 #[.string (bstr t)] w fun e w' => e = .returned (.string (bstr (lineT tLine [(k : Int)]))) ∧ Below w.heap.size w w' := by
  have HP : Hid (Calls Tryz.prog 12 #[.string (bstr t)] w fun e w' => ∃ a n c b m c2 q nq c3, e = .returned (.tuple #[.agg #[.slice a n c, .int .i64 0, .int .i64 0, .slice b m c2, .slice q nq c3], .int .i64 (k : Int)]) ∧ Below w.heap.size w w') :=
    (re_parse U hU t ht hl w he hnm _ hP).mono fun e w' ⟨a, n, c, b, m, c2, q, nq, c3, h1, h2, h3⟩ => ⟨a, n, c, b, m, c2, q, nq, c3, h1, h3⟩
  have hkl : k ≤ 100002 := by
    have h1 := goS_le (U := U) (lines t) noRdr 1
    have h2 := lines_len t
    unfold parseS at hP
    rw [hP] at h1
    simp only at h1
    omega
  have HL := fun wx (hx : EnvW wx) N hN => Lib.hid (line2 (k : Int) (by unfold in64; omega) wx hx N hN)
  have hk0 : ((k : Int) != 0) = true := by simp; exact hk
  clear hl hP
  go_enter Tryz.func16, Tryz.ntmps16
  go_wp2_with (first | (go_at_call 12; (with_reducible refine HP.out.mono ?_); intro e w2 h2; obtain ⟨a, n, c, b, m, c2, q, nq, c3, rfl, hb2⟩ := h2; have hba := hb2.alloc hb2.size (.cells #[.slice a n c, .int .i64 0, .int .i64 0, .slice b m c2, .slice q nq c3] 33); have HL2 := HL _ (he.on hba).wd (w2.heap.size + 1) (World.size_alloc _ _)) | (go_at_call 47; (with_reducible refine HL2.out.mono ?_); rintro e w3 ⟨rfl, hb3⟩) | fail)
  go_ret
  exact ⟨rfl, on_below hba hb3⟩
set_option maxRecDepth 100000 in
set_option maxHeartbeats 2000000 in
theorem re_run_ok (U : List UInt8 → Option (List UInt8)) (hU : UOK U) (t : List UInt8) (ht : t.length ≤ 100000) (hl : ∀ l ∈ lines t, l.length ≤ 4096) (w : World) (he : EnvE w) (hnm : Names w) (s : Scr) (hP : parseS U t = (s, 0)) (h1 : s.logs.length ≤ 8) (h2 : s.chs.length ≤ 120) (h3 : s.cfg.rules.length ≤ 5000) (h4 : ∀ l ∈ s.logs, l.length ≤ 400) (T : List UInt8) (hT : playT s.cfg.timeout s.cfg.drift s.cfg.rules s.logs s.chs = T) :
    Calls Tryz.prog 16 #[.string (bstr t)] w fun e w' => e = .returned (.string (bstr T)) ∧ Below w.heap.size w w' := by
  have HP : Hid (Calls Tryz.prog 12 #[.string (bstr t)] w fun e w' => ∃ a n c b m c2 q nq c3, e = .returned (.tuple #[.agg #[.slice a n c, .int .i64 s.cfg.timeout, .int .i64 s.cfg.drift, .slice b m c2, .slice q nq c3], .int .i64 0]) ∧ CaseC w' a n c s.cfg.timeout s.cfg.drift b m c2 q nq c3 s.cfg.rules (s.logs.map bstr) s.chs ∧ Below w.heap.size w w') :=
    (re_parse U hU t ht hl w he hnm _ hP).mono fun e w' ⟨a, n, c, b, m, c2, q, nq, c3, h1, h2, h3⟩ => ⟨a, n, c, b, m, c2, q, nq, c3, h1, h2, h3⟩
  have hlm : (s.logs.map bstr).map (fun x => x.data.toList) = s.logs := by
    rw [List.map_map]
    exact (List.map_congr_left (g := id) (fun x _ => rfl)).trans (List.map_id _)
  have HPL := fun wx (hx : EnvE wx) a n c b m c2 q nq c3 (hC : CaseC wx a n c s.cfg.timeout s.cfg.drift b m c2 q nq c3 s.cfg.rules (s.logs.map bstr) s.chs) => Lib.hid (re_play wx hx hC ⟨by rw [hC.hm, List.length_map]; exact h1, by rw [hC.hnq]; exact h2, by rw [hC.hn]; exact h3, fun x hx => by
    obtain ⟨l, hl, rfl⟩ := List.mem_map.1 hx
    rw [tx_size]
    exact h4 l hl⟩ T (by rw [hlm]; exact hT))
  clear hl hP h1 h2 h3 h4 hT hlm
  generalize s.cfg.timeout = ti at *
  generalize s.cfg.drift = dr at *
  go_enter Tryz.func16, Tryz.ntmps16
  go_wp2_with (first | (go_at_call 12; (with_reducible refine HP.out.mono ?_); intro e w2 h2; obtain ⟨a, n, c, b, m, c2, q, nq, c3, rfl, hC, hb2⟩ := h2; have hba := hb2.alloc hb2.size (.cells #[.slice a n c, .int .i64 ti, .int .i64 dr, .slice b m c2, .slice q nq c3] 33); have HL2 := HPL _ (he.on hba) a n c b m c2 q nq c3 (hC.on ((Below.refl _ _).alloc (Nat.le_refl _) _))) | (go_at_call 24; (with_reducible refine HL2.out.mono ?_); rintro e w3 ⟨rfl, hb3⟩) | fail)
  go_ret
  exact ⟨rfl, on_below hba hb3⟩
end Go.Proofs.YtmimfkhkilijcaaGreatDoor
namespace Go.Proofs.YtmimfkhkilijcaaGreatDoor
set_option maxRecDepth 4000
open Go.ChangeShapes Go.WideShapes Go.ChangeAt Go.RowKit
open PSign PHex PQuote
open Go.Lib (itoa)
set_option linter.unusedVariables false
set_option linter.unusedSimpArgs false

abbrev r26 : Rul := ⟨0, 0, 0, 0, 0⟩
abbrev s26 : Scr := ⟨⟨[r26], 1, 0⟩, [[]], []⟩
abbrev o26 : List UInt8 := [109, 97, 114, 107, 32, 57, 50, 50, 51, 51, 55, 50, 48, 51, 54, 56, 53, 52, 55, 55, 53, 56, 48, 55, 10] ++ [112, 97, 114, 116, 32, 48, 32, 50, 32, 48, 32, 45, 57, 50, 50, 51, 51, 55, 50, 48, 51, 54, 56, 53, 52, 55, 55, 53, 56, 48, 56, 10] ++ [101, 110, 100, 32, 57, 50, 50, 51, 51, 55, 50, 48, 51, 54, 56, 53, 52, 55, 55, 53, 56, 48, 55, 32, 48, 32, 48, 10]
abbrev b26 : List UInt8 := [115, 111, 117, 114, 99, 101, 32, 49, 32, 48, 10, 98, 111, 117, 110, 100, 101, 100, 32, 48, 10, 108, 111, 103, 32, 34, 34, 10]
theorem itoa_0 : itoa 0 = [48] := itoa_one 0 (by omega)
theorem itoa_1 : itoa 1 = [49] := itoa_one 1 (by omega)
theorem itoa_2 : itoa 2 = [50] := itoa_one 2 (by omega)
theorem dec_max : Lib.decDigits 9223372036854775807 = [57, 50, 50, 51, 51, 55, 50, 48, 51, 54, 56, 53, 52, 55, 55, 53, 56, 48, 55] := by
  simp [Lib.decDigits]
theorem dec_min : Lib.decDigits 9223372036854775808 = [57, 50, 50, 51, 51, 55, 50, 48, 51, 54, 56, 53, 52, 55, 55, 53, 56, 48, 56] := by
  simp [Lib.decDigits]
theorem itoa_max : itoa 9223372036854775807 = [57, 50, 50, 51, 51, 55, 50, 48, 51, 54, 56, 53, 52, 55, 55, 53, 56, 48, 55] := by
  rw [show (9223372036854775807 : Int) = ((9223372036854775807 : Nat) : Int) by omega, Go.Lib.itoa_nonneg, dec_max]
theorem itoa_min : itoa (-9223372036854775808) = 45 :: [57, 50, 50, 51, 51, 55, 50, 48, 51, 54, 56, 53, 52, 55, 55, 53, 56, 48, 56] := by
  unfold Go.Lib.itoa
  rw [if_pos (by omega), show (-9223372036854775808 : Int).natAbs = 9223372036854775808 by omega, dec_min]
theorem quote_nil : quote [] = [34, 34] := by unfold quote; rw [signs_nil]; rfl
theorem s26_ok : s26.Ok := by
  refine ⟨⟨fun r hr => ?_, PWord.one64, PWord.zero64⟩, fun r hr => ?_, fun l hl => ?_, fun c hc => absurd hc List.not_mem_nil⟩
  · rw [List.mem_singleton.1 hr]
    exact ⟨PWord.zero64, PWord.zero64, PWord.zero64, PWord.zero64, PWord.zero64⟩
  · rw [List.mem_singleton.1 hr]; rfl
  · rw [List.mem_singleton.1 hl]; exact Nat.zero_le _
theorem s26_text : printS s26 = b26 := by
  have h1 : PWord.hline 1 0 = [115, 111, 117, 114, 99, 101, 32] ++ (itoa 1 ++ 32 :: itoa 0) := rfl
  have h2 : PWord.rule r26 = [98, 111, 117, 110, 100, 101, 100, 32] ++ itoa 0 ++ [10] := rfl
  unfold printS PWord.print logsT chsT
  simp only [List.map_cons, List.map_nil, List.flatten_cons, List.flatten_nil, h1, h2, logLine, quote_nil, itoa_0, itoa_1]
  rfl
theorem s26_new : playT 1 0 [r26] [[]] [] = o26 := by
  have hp : Pt.raw 1 r26 [] = ⟨r26, [], 0, 0, 0, 1⟩ := by unfold Pt.raw; rw [PFrame.parse_nil]
  have hb : begun 1 [r26] [[]] = [⟨r26, [], 0, 0, 2, 1⟩] := by
    unfold begun raws
    simp only [List.zipWith_cons_cons, List.zipWith_nil_right, hp, List.map_cons, List.map_nil]
    rfl
  have hn : St.new 1 0 [r26] [[]] = ⟨[⟨r26, [], 0, 0, 2, 1⟩], 1, 0, 0, 9223372036854775807⟩ := by
    unfold St.new
    rw [hb]
    rfl
  unfold playT
  show (if nerr [r26] 1 0 1 = 0 then _ else _) = _
  rw [if_pos (show nerr [r26] 1 0 1 = 0 from one_nerr), one_new, hn]
  show outT (⟨[⟨r26, [], 0, 0, 2, 1⟩], 1, 0, 0, 9223372036854775807⟩ : St) [.mark 9223372036854775807] 1 = _
  have e1 : etexts [.mark 9223372036854775807] = [109, 97, 114, 107, 32] ++ itoa 9223372036854775807 ++ [10] := by
    have h : etexts [.mark 9223372036854775807] = PEv.eline (.mark 9223372036854775807) ++ [10] := by simp [etexts]
    rw [h, eline_mark]
  have e2 : partsT (⟨[⟨r26, [], 0, 0, 2, 1⟩], 1, 0, 0, 9223372036854775807⟩ : St) 1 = [] ++ ([112, 97, 114, 116, 32] ++ (itoa 0 ++ 32 :: (itoa 2 ++ 32 :: (itoa 0 ++ 32 :: itoa (-9223372036854775808)))) ++ [10]) := rfl
  have e3 : lineT tEnd [9223372036854775807, 0, 0] = [101, 110, 100, 32] ++ (itoa 9223372036854775807 ++ 32 :: (itoa 0 ++ 32 :: itoa 0)) ++ [10] := rfl
  have e4 : outT (⟨[⟨r26, [], 0, 0, 2, 1⟩], 1, 0, 0, 9223372036854775807⟩ : St) [.mark 9223372036854775807] 1 = etexts [.mark 9223372036854775807] ++ partsT (⟨[⟨r26, [], 0, 0, 2, 1⟩], 1, 0, 0, 9223372036854775807⟩ : St) 1 ++ lineT tEnd [9223372036854775807, 0, 0] := rfl
  rw [e4, e1, e2, e3, itoa_max, itoa_min, itoa_0, itoa_2]
  rfl
theorem headOf_x : PWord.headOf [120] = none := by
  cases h : PWord.headOf [120] with
  | none => rfl
  | some td =>
    obtain ⟨t, d⟩ := td
    have h2 := (PWord.headOf_some h).1
    have h3 : [120] = [115, 111, 117, 114, 99, 101] ++ 32 :: PWord.glue 32 ([t, d].map itoa) := h2
    simp at h3
theorem x_parse (U : List UInt8 → Option (List UInt8)) : parseS U [120, 10] = (noScr, 1) := by
  have h1 : lines [120, 10] = [[120], []] := by
    have := PWord.cuts_ended 10 [[120]] 1 (by simp) (by simp)
    exact this
  unfold parseS
  rw [h1]
  refine goS_none (by simp) ?_
  unfold rd
  rw [if_pos rfl]
  unfold rdHead
  rw [headOf_x]
set_option maxRecDepth 100000 in
set_option maxHeartbeats 2000000 in
theorem speaks26 (w : World) (he : EnvE w) (hnm : Names w) : Calls Tryz.prog 8 #[] w fun e w' => e = .returned (.bool true) ∧ Below w.heap.size w w' := by
  obtain ⟨U, hU⟩ := unq_ex
  have hp := parseS_print hU s26 s26_ok
  rw [s26_text] at hp
  have H1 := Lib.hid (re_run_ok U hU b26 (by decide) (fun l hl => Nat.le_trans (lines_le b26 l hl) (by decide)) w he hnm s26 hp (by decide) (by decide) (by decide) (fun l hl => by rw [List.mem_singleton.1 hl]; exact Nat.zero_le _) _ s26_new)
  have H2 := fun wx (hx : Below w.heap.size w wx) => Lib.hid (re_run_bad U hU [120, 10] (by decide) (fun l hl => Nat.le_trans (lines_le _ l hl) (by decide)) wx (he.on hx) (hnm.on hx) 1 (by omega) (x_parse U))
  rw [show lineT tLine [((1 : Nat) : Int)] = [108, 105, 110, 101, 32] ++ itoa 1 ++ [10] from rfl, itoa_1] at H2
  clear hp
  go_enter Tryz.func8, Tryz.ntmps8
  go_wp2_with (first | (go_at_call 16; first | ((with_reducible refine H1.out.mono ?_); rintro e w1 ⟨rfl, hb1⟩; have H3 := H2 w1 hb1) | ((with_reducible refine H3.out.mono ?_); rintro e w2 ⟨rfl, hb2⟩)) | fail)
  go_ret
  exact ⟨rfl, on_below hb1 hb2⟩
end Go.Proofs.YtmimfkhkilijcaaGreatDoor
namespace Go.Proofs.YtmimfkhkilijcaaGreatDoor
set_option maxRecDepth 4000
open Go.ChangeShapes Go.WideShapes Go.ChangeAt Go.RowKit
open PSign PHex PQuote
open Go.Lib (itoa)
set_option linter.unusedVariables false
set_option linter.unusedSimpArgs false

theorem errT (n : Nat) (h : n < 10) : lineT tError [(n : Int)] = [101, 114, 114, 111, 114, 32] ++ [UInt8.ofNat (48 + n)] ++ [10] := by
  have : lineT tError [(n : Int)] = [101, 114, 114, 111, 114, 32] ++ itoa (n : Int) ++ [10] := rfl
  rw [this, itoa_one n h]
theorem play_bad {t d : Int} {rs : List Rul} {ls : List (List UInt8)} {cs : List (Bool × Int)} {z : Int} (h : nerr rs t d ls.length = z) (h0 : z ≠ 0) : playT t d rs ls cs = lineT tError [z] := by
  unfold playT
  rw [h, if_neg h0]
set_option maxRecDepth 100000 in
set_option maxHeartbeats 2000000 in
theorem walk_ReportError (w : World) (he : EnvE w) (hnm : Names w) (a0 : Int) (w0 : (Lit.int .i64 a0).wf = true) (a1 : Int) (w1 : (Lit.int .i64 a1).wf = true) :
    Calls Tryz.prog 6 #[.int .i64 a0, .int .i64 a1] w fun e w' => e = .returned (.bool true) ∧ Below w.heap.size w w' := by
  have h0 : in64 a0 := bounds_i64 w0
  have h1 : in64 a1 := bounds_i64 w1
  have HSP := Lib.hid (speaks26 w he hnm)
  have HPL : Hid (∀ wx (hx : EnvE wx) (N : Nat) (hN : N < wx.heap.size) T, wx.cell? ⟨N, 0, none⟩ = some (.int .i64 0) → wx.cell? ⟨N, 1, none⟩ = some (.int .i64 0) → wx.cell? ⟨N, 2, none⟩ = some (.int .i64 0) → wx.cell? ⟨N, 3, none⟩ = some (.int .i64 0) → wx.cell? ⟨N, 4, none⟩ = some (.int .i64 0) → playT a0 a1 [r26] [] [] = T → Calls Tryz.prog 24 #[.agg #[.slice (some ⟨N, 0, none⟩) 1 1, .int .i64 a0, .int .i64 a1, .slice none 0 0, .slice none 0 0]] wx fun e w' => e = .returned (.string (bstr T)) ∧ Below wx.heap.size wx w') := by
    intro wx hx N hN T c0 c1 c2 c3 c4 hT
    refine re_play (rs := [r26]) (ls := []) (cs := []) wx hx ⟨⟨fun i hi => ⟨N, 0, rfl, hN, fun j hj => ?_⟩⟩, rfl, Nat.le_refl _, (by unfold maxLen; simp), fun r hr => ?_, h0, h1, ⟨fun i hi => (Nat.not_lt_zero _ hi).elim⟩, rfl, Nat.le_refl _, Nat.zero_le _, ⟨fun i hi => (Nat.not_lt_zero _ hi).elim⟩, rfl, Nat.le_refl _, Nat.zero_le _, fun r hr => absurd hr List.not_mem_nil, fun r hr => absurd hr List.not_mem_nil⟩ ⟨Nat.zero_le _, Nat.zero_le _, (by simp), fun r hr => absurd hr List.not_mem_nil⟩ T hT
    · obtain rfl : i = 0 := by simpa using hi
      have hj' : j = 0 ∨ j = 1 ∨ j = 2 ∨ j = 3 ∨ j = 4 := by omega
      rcases hj' with rfl | rfl | rfl | rfl | rfl <;> first | exact c0 | exact c1 | exact c2 | exact c3 | exact c4
    · rw [List.mem_singleton.1 hr]
      exact ⟨PWord.zero64, PWord.zero64, PWord.zero64, PWord.zero64, PWord.zero64⟩
  by_cases hbad : a0 < 1 ∨ a1 < 0
  · have hT : playT a0 a1 [r26] [] [] = lineT tError [((7 : Nat) : Int)] := by
      refine play_bad ?_ (by omega)
      unfold nerr ccheck
      simp [hbad]
    rw [errT 7 (by omega)] at hT
    go_enter Tryz.func6, Tryz.ntmps6
    go_wp2_with (first | (go_at_call 8; (with_reducible refine HSP.out.mono ?_); rintro e w2 ⟨rfl, hb2⟩) | fail)
    have hba : Below w2.heap.size w2 ((w2.alloc (.cells #[.int .i64 0, .int .i64 0, .int .i64 0, .int .i64 0, .int .i64 0] 59)).alloc (.cells #[.slice (some ⟨w2.heap.size, 0, none⟩) 1 1, .int .i64 a0, .int .i64 a1] 24)) := ((Below.refl _ _).alloc (Nat.le_refl _) _).alloc (by simp) _
    obtain ⟨hg, c0, -, c1, -, c2, -, c3, -, c4, -⟩ := ((At.alloc w2 [.int .i64 0, .int .i64 0, .int .i64 0, .int .i64 0, .int .i64 0] 59).on ((Below.refl _ _).alloc (Nat.le_refl _) (.cells #[.slice (some ⟨w2.heap.size, 0, none⟩) 1 1, .int .i64 a0, .int .i64 a1] 24))).five
    refine (HPL.out _ (he.on (on_below hb2 hba)) w2.heap.size hg _ c0 c1 c2 c3 c4 hT).mono ?_
    rintro e w3 ⟨rfl, hb3⟩
    have hbb := on_below (on_below hb2 hba) hb3
    clear hg c0 c1 c2 c3 c4 hT HPL
    by_cases h2 : a0 < 1
    · go_wp2
      go_ret
      exact ⟨rfl, hbb⟩
    · have h3 : a1 < 0 := by omega
      go_wp2
      go_ret
      exact ⟨rfl, hbb⟩
  · have hT : playT a0 a1 [r26] [] [] = lineT tError [((6 : Nat) : Int)] := by
      refine play_bad ?_ (by omega)
      have hc : ccheck [r26] a0 a1 = 0 := by
        unfold ccheck
        rw [if_neg (by simp), if_neg hbad]
        rfl
      unfold nerr
      rw [hc]
      rfl
    rw [errT 6 (by omega)] at hT
    have h2 : ¬ a0 < 1 := by omega
    have h3 : ¬ a1 < 0 := by omega
    go_enter Tryz.func6, Tryz.ntmps6
    go_wp2_with (first | (go_at_call 8; (with_reducible refine HSP.out.mono ?_); rintro e w2 ⟨rfl, hb2⟩) | fail)
    have hba : Below w2.heap.size w2 ((w2.alloc (.cells #[.int .i64 0, .int .i64 0, .int .i64 0, .int .i64 0, .int .i64 0] 59)).alloc (.cells #[.slice (some ⟨w2.heap.size, 0, none⟩) 1 1, .int .i64 a0, .int .i64 a1] 24)) := ((Below.refl _ _).alloc (Nat.le_refl _) _).alloc (by simp) _
    obtain ⟨hg, c0, -, c1, -, c2, -, c3, -, c4, -⟩ := ((At.alloc w2 [.int .i64 0, .int .i64 0, .int .i64 0, .int .i64 0, .int .i64 0] 59).on ((Below.refl _ _).alloc (Nat.le_refl _) (.cells #[.slice (some ⟨w2.heap.size, 0, none⟩) 1 1, .int .i64 a0, .int .i64 a1] 24))).five
    refine (HPL.out _ (he.on (on_below hb2 hba)) w2.heap.size hg _ c0 c1 c2 c3 c4 hT).mono ?_
    rintro e w3 ⟨rfl, hb3⟩
    have hbb := on_below (on_below hb2 hba) hb3
    clear hg c0 c1 c2 c3 c4 hT HPL
    go_wp2
    go_ret
    exact ⟨rfl, hbb⟩
end Go.Proofs.YtmimfkhkilijcaaGreatDoor
namespace Go.Proofs.YtmimfkhkilijcaaGreatDoor
set_option maxRecDepth 4000
open Go.ChangeShapes Go.WideShapes Go.ChangeAt Go.RowKit
open PWord PSign PHex PQuote
open Go.Lib (itoa)
set_option linter.unusedVariables false
set_option linter.unusedSimpArgs false

theorem glue_take (c : UInt8) : ∀ (L : List (List UInt8)) (k : Nat), (glue c (L.take k)).length ≤ (glue c L).length
  | [], k => by simp
  | x :: L, 0 => by simp [glue]
  | [x], k + 1 => by simp
  | x :: y :: r, 1 => by
    rw [List.take_succ_cons, List.take_zero, glue_cons, List.length_append]
    show x.length ≤ _
    omega
  | x :: y :: r, k + 2 => by
    have h := glue_take c (y :: r) (k + 1)
    rw [List.take_succ_cons] at h ⊢
    rw [List.take_succ_cons, glue_cons, glue_cons, List.length_append, List.length_append, List.length_cons, List.length_cons]
    omega
/-- Lines of a text, each ended. -/
theorem lines_ended {L : List (List UInt8)} (h : ∀ l ∈ L, (10 : UInt8) ∉ l) (h0 : L ≠ []) : lines (glue 10 L ++ [10]) = L ++ [[]] := by
  unfold lines
  rw [← ended_glue 10 L h0, count_ended 10 _ h]
  exact cuts_ended 10 _ _ h (Nat.le_refl _)
theorem parse_ended {U : List UInt8 → Option (List UInt8)} {L : List (List UInt8)} (h : ∀ l ∈ L, (10 : UInt8) ∉ l) (h0 : L ≠ []) : parseS U (glue 10 L ++ [10]) = goS U noRdr 1 (L ++ [[]]) := by
  unfold parseS
  rw [lines_ended h h0]
theorem glue_snoc (c : UInt8) : ∀ (L : List (List UInt8)) (x : List UInt8), L ≠ [] → glue c (L ++ [x]) = glue c L ++ c :: x
  | [], x, h => absurd rfl h
  | [y], x, _ => rfl
  | y :: z :: r, x, _ => by
    have h := glue_snoc c (z :: r) x (by simp)
    show glue c (y :: z :: (r ++ [x])) = _
    rw [glue_cons, glue_cons, show z :: (r ++ [x]) = (z :: r) ++ [x] from rfl, h, List.append_assoc]
    rfl
/-- strings.Join with line feeds. -/
theorem li_joinL (g o c : Nat) (xs : List ByteArray) (w : World) (hr : RowS w (some ⟨g, o, none⟩) xs) (h0 : 0 < xs.length) (hn : xs.length ≤ 100000) (hc : xs.length ≤ c) (hlen : (glue 10 (xs.map (·.data.toList))).length ≤ 1000000) :
    Calls Tryz.prog 18 #[.slice (some ⟨g, o, none⟩) xs.length c, .string ⟨#[10]⟩] w fun e w' => e = .returned (.string (bstr (glue 10 (xs.map (·.data.toList))))) ∧ Below w.heap.size w w' := by
  have hj : Lib.join (xs.map (·.data.toList)) (⟨#[10]⟩ : ByteArray).data.toList = glue 10 (xs.map (·.data.toList)) := join_glue 10 _
  refine (Tryz.strings_Join g o c xs ⟨#[10]⟩ w (fun j x hx => ?_) (hr.cell 0 h0).1 (by omega) hc (by rw [hj]; omega)).mono ?_
  · obtain ⟨hj, rfl⟩ := List.getElem?_eq_some_iff.1 hx
    exact (hr.cell j hj).2
  · rintro e w' ⟨rfl, hb⟩
    exact ⟨by rw [hj], hb⟩
def ParseN (k : Nat) (w : World) (e : Ending) (w' : World) : Prop := ∃ a n c t d b m c2 q nq c3, e = .returned (.tuple #[.agg #[.slice a n c, .int .i64 t, .int .i64 d, .slice b m c2, .slice q nq c3], .int .i64 (k : Int)]) ∧ Below w.heap.size w w'
theorem parse_num (U : List UInt8 → Option (List UInt8)) (hU : UOK U) (t : List UInt8) (ht : t.length ≤ 4096) (w : World) (he : EnvE w) (hnm : Names w) (k : Nat) (hP : (parseS U t).2 = k) :
    Calls Tryz.prog 12 #[.string (bstr t)] w (ParseN k w) := by
  subst hP
  exact (re_parse U hU t (by omega) (fun l hl => Nat.le_trans (lines_le t l hl) ht) w he hnm _ rfl).mono fun e w' ⟨a, n, c, b, m, c2, q, nq, c3, h1, h2, h3⟩ => ⟨a, n, c, _, _, b, m, c2, q, nq, c3, h1, h3⟩
/-- How many there are. -/
theorem few_lines {s : Scr} {t : List UInt8} (hs : s.Ok) (h : printS s = t) : s.cfg.rules.length + s.logs.length + s.chs.length + 1 ≤ t.length := by
  have h1 := lines_len t
  rw [← h, lines_printS s hs.only, h] at h1
  unfold slines at h1
  simp only [List.length_append, List.length_map, plines_len, List.length_cons, List.length_nil] at h1
  omega
end Go.Proofs.YtmimfkhkilijcaaGreatDoor
