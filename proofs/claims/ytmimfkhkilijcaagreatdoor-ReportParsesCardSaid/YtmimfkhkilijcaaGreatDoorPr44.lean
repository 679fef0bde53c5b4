/- RepPrint; RepRefP: what is reached of them. -/
import Derived.Test.YtmimfkhkilijcaaGreatDoorPr13
import Derived.Test.YtmimfkhkilijcaaGreatDoorPr15
import Derived.Test.YtmimfkhkilijcaaGreatDoorPr16
import Derived.Test.YtmimfkhkilijcaaGreatDoorPr33
import Derived.Test.YtmimfkhkilijcaaGreatDoorPr34
import Derived.Test.YtmimfkhkilijcaaGreatDoorPr35
import Derived.Test.YtmimfkhkilijcaaGreatDoorPr36
namespace Go.Proofs.YtmimfkhkilijcaaGreatDoor
set_option maxRecDepth 4000
open Go.ChangeShapes Go.WideShapes Go.ChangeAt Go.RowKit
open PWord PSign PHex PQuote
open Go.Lib (itoa)
set_option linter.unusedVariables false
set_option linter.unusedSimpArgs false

theorem logLine_len {l : List UInt8} (h : l.length ≤ 400) : (logLine l).length ≤ 4006 := by
  have := PEv.quote_big l
  unfold logLine
  rw [List.length_append]
  show 4 + _ ≤ _
  omega
theorem logsT_len : ∀ (ls : List (List UInt8)), (∀ l ∈ ls, l.length ≤ 400) → (logsT ls).length ≤ ls.length * 4007
  | [], _ => by simp [logsT]
  | l :: ls, h => by
    have h1 := logsT_len ls (fun x hx => h x (by simp [hx]))
    have h2 := logLine_len (h l (by simp))
    have : logsT (l :: ls) = (logLine l ++ [10]) ++ logsT ls := rfl
    rw [this]
    simp only [List.length_append, List.length_cons, List.length_nil]
    omega
theorem cline_len {t : Bool} {n : Int} (h : in64 n) : (cline t n).length ≤ 26 := by
  have := itoa_len h
  unfold cline
  rw [List.length_append, List.length_cons]
  cases t <;> simp [cname] <;> omega
theorem chsT_len : ∀ (cs : List (Bool × Int)), (∀ c ∈ cs, in64 c.2) → (chsT cs).length ≤ cs.length * 27
  | [], _ => by simp [chsT]
  | c :: cs, h => by
    have h1 := chsT_len cs (fun x hx => h x (by simp [hx]))
    have h2 := cline_len (t := c.1) (h c (by simp))
    have : chsT (c :: cs) = (cline c.1 c.2 ++ [10]) ++ chsT cs := rfl
    rw [this]
    simp only [List.length_append, List.length_cons, List.length_nil]
    omega
theorem print_len (c : Cfg) (hf : c.Fits) : (print c).length ≤ (c.rules.length + 1) * 67 := by
  have := ptext_len c hf c.rules.length (Nat.le_refl _)
  rwa [ptext_all] at this
theorem take_bytes (ls : List ByteArray) (k : Nat) (hk : k < ls.length) : (ls.map fun s => s.data.toList).take (k + 1) = (ls.map fun s => s.data.toList).take k ++ [ls[k].data.toList] := by
  rw [List.take_succ_eq_append_getElem (by rw [List.length_map]; exact hk), List.getElem_map]
theorem logs_next (ls : List ByteArray) (k : Nat) (hk : k < ls.length) : logsT ((ls.map fun s => s.data.toList).take (k + 1)) = logsT ((ls.map fun s => s.data.toList).take k) ++ (logLine ls[k].data.toList ++ [10]) := by
  rw [take_bytes ls k hk, logsT_snoc]
theorem chs_next (cs : List (Bool × Int)) (k : Nat) (hk : k < cs.length) : chsT (cs.take (k + 1)) = chsT (cs.take k) ++ (cline cs[k].1 cs[k].2 ++ [10]) := by
  rw [List.take_succ_eq_append_getElem hk, chsT_snoc]
set_option maxRecDepth 100000 in
set_option maxHeartbeats 8000000 in
theorem re_print {a : Option Addr} {n c : Nat} {t d : Int} {b : Option Addr} {m c2 : Nat} {q : Option Addr} {nq c3 : Nat} {rs : List Rul} {ls : List ByteArray} {cs : List (Bool × Int)} (w : World) (he : EnvE w) (hnm : Names w) (hC : CaseC w a n c t d b m c2 q nq c3 rs ls cs) (hS : SmallC n m nq ls) (hn : n ≤ 1000) (T : List UInt8) (hT : printS ⟨⟨rs, t, d⟩, ls.map (fun s => s.data.toList), cs⟩ = T) :
    Calls Tryz.prog 11 #[.agg #[.slice a n c, .int .i64 t, .int .i64 d, .slice b m c2, .slice q nq c3]] w fun e w' => e = .returned (.string (bstr T)) ∧ Below w.heap.size w w' := by
  obtain ⟨hm8, hnq, -, h400⟩ := hS
  have hbx : Below w.heap.size w (w.alloc (.cells #[.slice a n c, .int .i64 t, .int .i64 d, .slice b m c2, .slice q nq c3] 33)) := (Below.refl _ _).alloc (Nat.le_refl _) _
  have hA0 := At.alloc w [.slice a n c, .int .i64 t, .int .i64 d, .slice b m c2, .slice q nq c3] 33
  obtain ⟨w0, hw0⟩ : ∃ w0, w.alloc (.cells #[.slice a n c, .int .i64 t, .int .i64 d, .slice b m c2, .slice q nq c3] 33) = w0 := ⟨_, rfl⟩
  rw [hw0] at hbx hA0
  have hgw : w.heap.size < w0.heap.size := hA0.1
  have he0 := he.on hbx
  have hn0 := hnm.on hbx
  have hC0 := hC.on hbx
  have hf : (⟨rs, t, d⟩ : Cfg).Fits := ⟨hC.hfit, hC.ht, hC.hd⟩
  have hpl := print_len ⟨rs, t, d⟩ hf
  simp only at hpl
  rw [← hC.hn] at hpl
  have hlog : ∀ l ∈ ls.map (fun s => s.data.toList), l.length ≤ 400 := fun l hl => by
    obtain ⟨s, hs, rfl⟩ := List.mem_map.1 hl
    exact h400 s hs
  have HLL := Lib.hid (fun k => logsT_len ((ls.map fun s => s.data.toList).take k) (fun l hl => hlog l (List.mem_of_mem_take hl)))
  have HLA := Lib.hid (logsT_len (ls.map fun s => s.data.toList) hlog)
  have HCL := Lib.hid (fun k => chsT_len (cs.take k) (fun l hl => hC.hci l (List.mem_of_mem_take hl)))
  have hml : (ls.map fun s => s.data.toList).length = m := by rw [List.length_map]; exact hC.hm.symm
  rw [hml] at HLA
  have HML := Lib.hid hml
  unfold printS at hT
  simp only at hT
  have hbz := b_zero w0
  have hwb : Below w0.heap.size w0 (w0.alloc (.cells #[.pointer none, .slice none 0 0] 81)) := (Below.refl _ _).alloc (Nat.le_refl _) _
  have HP := Lib.hid (cf_print ⟨rs, t, d⟩ hf a n c (w0.alloc (.cells #[.pointer none, .slice none 0 0] 81)) (he0.on hwb).wd (hn0.on hwb) (hC0.on hwb).hru hC.hn hn)
  obtain ⟨T1, hT1⟩ : ∃ T1, print ⟨rs, t, d⟩ = T1 := ⟨_, rfl⟩
  rw [hT1] at HP hT hpl
  have HW1 := Lib.hid (fun w' h hB => b_write w0.heap.size w0.heap.size [] (bstr T1) w' h (by rw [tx_size]; simp only [List.length_nil]; omega) hB)
  have HT := Lib.hid hT
  have HBZ := Lib.hid hbz
  have HWB := Lib.hid hwb
  obtain ⟨hg, y0, -, y1, -, y2, -, y3, -, y4, -⟩ := hA0.five
  clear hT hT1 hbz hlog hf he hnm hC hml
  go_enter Tryz.func11, Tryz.ntmps11
  go_wp2_with (first | (go_at_call 37; (with_reducible refine HP.out.mono ?_); rintro e w1 ⟨rfl, hb1⟩; have hB1 := bld_on HBZ.out hb1; have hc1 := on_below HWB.out hb1) | (go_at_call 36; (with_reducible refine (HW1.out _ hB1 hc1.size).mono ?_); rintro e w2 ⟨rfl, hB2, hq2, -⟩; have hc2 := hc1.trans hq2; obtain ⟨-, x0, -, x1, -, x2, -, x3, -, x4, -⟩ := (hA0.below hc2 hgw).five) | fail)
  clear hw0 y0 y1 y2 y3 y4
  have hBL : Bld w0.heap.size w0.heap.size (T1 ++ logsT ((ls.map fun s => s.data.toList).take 0)) w2 := by
    rw [List.take_zero]
    show Bld _ _ (T1 ++ []) w2
    rw [List.append_nil]
    exact hB2
  clear HP HW1 hB1 hc1 hb1 hB2 hq2 HBZ HWB
  go_loopw [15] (fun i wr => ∃ k : Nat, k ≤ m ∧ i = .int .i64 k ∧ Bld w0.heap.size w0.heap.size (T1 ++ logsT ((ls.map fun s => s.data.toList).take k)) wr ∧ Below w0.heap.size w0 wr) (fun i _ => m - (intOf i).toNat)
  case atStart => exact ⟨0, Nat.zero_le _, rfl, hBL, hc2⟩
  case round =>
    clear hBL hc2 x0 x1 x2 x3 x4
    obtain ⟨k, hk, rfl, hbl, hb⟩ := hrel
    have hwB := hb.size
    have her := he0.on hb
    have hll := HLL.out k
    rw [List.length_take] at hll
    by_cases hlt : k < m
    · have hk1 : k < ls.length := by rw [← hC0.hm]; exact hlt
      have hrow := (hC0.hlo).below hb
      obtain ⟨b2, o2, rfl, -, -⟩ := hrow.at_ k hk1
      obtain ⟨hbl2, q0⟩ := hrow.cell k hk1
      have hsz := h400 _ (List.getElem_mem hk1)
      have hnx := logs_next ls k hk1
      generalize ls[k] = s at *
      have hsl : s.data.toList.length = s.size := by simp
      have hlln := logLine_len (l := s.data.toList) (by omega)
      have HQ := Lib.hid (q_quote s wr (by omega) her.qu)
      obtain ⟨X, hX⟩ : ∃ X, T1 ++ logsT ((ls.map fun s => s.data.toList).take k) = X := ⟨_, rfl⟩
      have hXl : X.length ≤ 200000 := by rw [← hX, List.length_append]; omega
      have HNX : Hid (T1 ++ logsT ((ls.map fun s => s.data.toList).take (k + 1)) = X ++ (logLine s.data.toList ++ [10])) := by
        refine Lib.hid ?_
        rw [hnx, ← hX, List.append_assoc]
      rw [hX] at hbl
      have hl4 : (logLine s.data.toList).length = 4 + (quote s.data.toList).length := by unfold logLine; rw [List.length_append]; rfl
      have h1 := fun w => tx_run w [108, 111, 103, 32] (quote s.data.toList) (by simp only [List.length_cons, List.length_nil]; omega)
      have h2 := fun w => tx_run w (logLine s.data.toList) [10] (by simp only [List.length_cons, List.length_nil]; omega)
      have e1 : [108, 111, 103, 32] ++ quote s.data.toList = logLine s.data.toList := rfl
      rw [e1] at h1
      obtain ⟨u1, hu1⟩ : ∃ u, bstr (logLine s.data.toList) = u := ⟨_, rfl⟩
      obtain ⟨u2, hu2⟩ : ∃ u, bstr (logLine s.data.toList ++ [10]) = u := ⟨_, rfl⟩
      have HW := Lib.hid (fun w' h hB => b_write w0.heap.size w0.heap.size X (bstr (logLine s.data.toList ++ [10])) w' h (by rw [tx_size]; simp only [List.length_append, List.length_cons, List.length_nil]; omega) hB)
      rw [hu1] at h1 h2
      rw [hu2] at h2 HW
      have HU2 := Lib.hid hu2
      clear hu1 hu2 hX hnx e1 hrow
      generalize bstr (quote s.data.toList) = u0 at *
      go_wp2_with (first | (go_at_call 38; (with_reducible refine HQ.out.mono ?_); rintro e w3 ⟨rfl, hb3⟩; have hB3 := bld_on hbl hb3; have hc3 := on_below hb hb3) | (go_at_call 36; (with_reducible refine (HW.out _ hB3 hc3.size).mono ?_); rintro e w4 ⟨rfl, hB4, hq4, -⟩) | fail)
      go_roundw
      case rel => exact ⟨k + 1, by omega, by go_num, by rw [HNX.out]; rw [← HU2.out] at hB4; exact hB4, hc3.trans hq4⟩
      case measure => simp [intOf]; omega
    · obtain rfl : k = m := by omega
      rw [List.take_of_length_le (by rw [HML.out]; exact Nat.le_refl _)] at hbl
      obtain ⟨X0, hX0⟩ : ∃ X, T1 ++ logsT (ls.map fun s => s.data.toList) = X := ⟨_, rfl⟩
      have hX0l : X0.length ≤ 150000 := by rw [← hX0, List.length_append]; have := HLA.out; omega
      have hT2 := HT.out
      rw [hX0] at hbl hT2
      obtain ⟨-, x0, -, x1, -, x2, -, x3, -, x4, -⟩ := (hA0.below hb hgw).five
      have hBL : Bld w0.heap.size w0.heap.size (X0 ++ chsT (cs.take 0)) wr := by
        rw [List.take_zero]
        show Bld _ _ (X0 ++ []) wr
        rw [List.append_nil]
        exact hbl
      have HT2 := Lib.hid hT2
      clear hX0 hT2 hbl HT hll HLL HLA
      go_wp2
      go_loopw [28] (fun i wx => ∃ j : Nat, j ≤ nq ∧ i = .int .i64 j ∧ Bld w0.heap.size w0.heap.size (X0 ++ chsT (cs.take j)) wx ∧ Below w0.heap.size w0 wx) (fun i _ => nq - (intOf i).toNat)
      case atStart => exact ⟨0, Nat.zero_le _, rfl, hBL, hb⟩
      case round =>
        clear hBL hb hwB her x0 x1 x2 x3 x4
        obtain ⟨j, hj, rfl, hbl, hb⟩ := hrel
        have hwB := hb.size
        have her := he0.on hb
        have hcl := HCL.out j
        rw [List.length_take] at hcl
        by_cases hjl : j < nq
        · have hj1 : j < cs.length := by rw [← hC0.hnq]; exact hjl
          have hrow := (hC0.hch).below hb
          obtain ⟨b2, o2, rfl, -, -⟩ := hrow.at_ j hj1
          obtain ⟨hbl2, r0, r1⟩ := RowC.cells hrow j hj1
          have hin := hC0.hci _ (List.getElem_mem hj1)
          have hnx := chs_next cs j hj1
          generalize cs[j] = x at *
          obtain ⟨ct, cn⟩ := x
          simp only at r0 r1 hin hnx
          have hcln := cline_len (t := ct) hin
          have hba : Below wr.heap.size wr (wr.alloc (.cells #[.bool ct, .int .i64 cn] 50)) := (Below.refl _ _).alloc (Nat.le_refl _) _
          have hbB := hb.trans (hba.mono hwB)
          have HQ := Lib.hid (ch_line ct cn hin (wr.alloc (.cells #[.bool ct, .int .i64 cn] 50)) (her.on hba).wd)
          have hblA := bld_on hbl hba
          obtain ⟨X, hX⟩ : ∃ X, X0 ++ chsT (cs.take j) = X := ⟨_, rfl⟩
          have hXl : X.length ≤ 200000 := by rw [← hX, List.length_append]; omega
          have HNX : Hid (X0 ++ chsT (cs.take (j + 1)) = X ++ (cline ct cn ++ [10])) := by
            refine Lib.hid ?_
            rw [hnx, ← hX, List.append_assoc]
          rw [hX] at hblA
          have h2 := fun w => tx_run w (cline ct cn) [10] (by simp only [List.length_cons, List.length_nil]; omega)
          obtain ⟨u2, hu2⟩ : ∃ u, bstr (cline ct cn ++ [10]) = u := ⟨_, rfl⟩
          have HW := Lib.hid (fun w' h hB => b_write w0.heap.size w0.heap.size X (bstr (cline ct cn ++ [10])) w' h (by rw [tx_size]; simp only [List.length_append, List.length_cons, List.length_nil]; omega) hB)
          rw [hu2] at h2 HW
          have HU2 := Lib.hid hu2
          clear hu2 hX hnx hrow hbl hba
          generalize bstr (cline ct cn) = u0 at *
          go_wp2_with (first | (go_at_call 39; (with_reducible refine HQ.out.mono ?_); rintro e w3 ⟨rfl, hb3⟩; have hB3 := bld_on hblA hb3; have hc3 := on_below hbB hb3) | (go_at_call 36; (with_reducible refine (HW.out _ hB3 hc3.size).mono ?_); rintro e w4 ⟨rfl, hB4, hq4, -⟩) | fail)
          go_roundw
          case rel => exact ⟨j + 1, by omega, by go_num, by rw [HNX.out]; rw [← HU2.out] at hB4; exact hB4, hc3.trans hq4⟩
          case measure => simp [intOf]; omega
        · obtain rfl : j = nq := by omega
          rw [List.take_of_length_le (by rw [← hC0.hnq]; exact Nat.le_refl _), HT2.out] at hbl
          have HS := Lib.hid (b_text w0.heap.size w0.heap.size T wr hbl hwB)
          go_wp2_with (go_at_call 40; (with_reducible refine HS.out.mono ?_); rintro e w6 ⟨rfl, hb6⟩)
          go_ret
          exact ⟨rfl, on_below hbx (hb.trans hb6)⟩
end Go.Proofs.YtmimfkhkilijcaaGreatDoor
namespace Go.Proofs.YtmimfkhkilijcaaGreatDoor
set_option maxRecDepth 4000
open Go.ChangeShapes Go.WideShapes Go.ChangeAt Go.RowKit
open PWord PSign PHex PQuote
open Go.Lib (itoa)
set_option linter.unusedVariables false
set_option linter.unusedSimpArgs false

theorem logLine_lenG {l : List UInt8} (h : l.length ≤ 4096) : (logLine l).length ≤ 40966 := by
  have := PEv.quote_big l
  unfold logLine
  rw [List.length_append]
  show 4 + _ ≤ _
  omega
theorem logsT_lenG : ∀ (ls : List (List UInt8)), (∀ l ∈ ls, l.length ≤ 4096) → (logsT ls).length ≤ ls.length * 40967
  | [], _ => by simp [logsT]
  | l :: ls, h => by
    have h1 := logsT_lenG ls (fun x hx => h x (by simp [hx]))
    have h2 := logLine_lenG (h l (by simp))
    have : logsT (l :: ls) = (logLine l ++ [10]) ++ logsT ls := rfl
    rw [this]
    simp only [List.length_append, List.length_cons, List.length_nil]
    omega
set_option maxRecDepth 100000 in
set_option maxHeartbeats 8000000 in
theorem law_print {a : Option Addr} {n c : Nat} {t d : Int} {b : Option Addr} {m c2 : Nat} {q : Option Addr} {nq c3 : Nat} {rs : List Rul} {ls : List ByteArray} {cs : List (Bool × Int)} (w : World) (hC : CaseC w a n c t d b m c2 q nq c3 rs ls cs) (hm8 : m ≤ 100000) (hnq : nq ≤ 100000) (h400 : ∀ s ∈ ls, s.size ≤ 4096) (hn : n ≤ 1000) (T : List UInt8) (hT : printS ⟨⟨rs, t, d⟩, ls.map (fun s => s.data.toList), cs⟩ = T) :
    Calls Tryz.prog 13 #[.agg #[.slice a n c, .int .i64 t, .int .i64 d, .slice b m c2, .slice q nq c3]] w fun e w' => e = .returned (.string (bstr T)) ∧ Below w.heap.size w w' := by
  have hbx : Below w.heap.size w (w.alloc (.cells #[.slice a n c, .int .i64 t, .int .i64 d, .slice b m c2, .slice q nq c3] 28)) := (Below.refl _ _).alloc (Nat.le_refl _) _
  have hA0 := At.alloc w [.slice a n c, .int .i64 t, .int .i64 d, .slice b m c2, .slice q nq c3] 28
  obtain ⟨w0, hw0⟩ : ∃ w0, w.alloc (.cells #[.slice a n c, .int .i64 t, .int .i64 d, .slice b m c2, .slice q nq c3] 28) = w0 := ⟨_, rfl⟩
  rw [hw0] at hbx hA0
  have hgw : w.heap.size < w0.heap.size := hA0.1
  have hC0 := hC.on hbx
  have hf : (⟨rs, t, d⟩ : Cfg).Fits := ⟨hC.hfit, hC.ht, hC.hd⟩
  have hpl := print_len ⟨rs, t, d⟩ hf
  simp only at hpl
  rw [← hC.hn] at hpl
  have hlog : ∀ l ∈ ls.map (fun s => s.data.toList), l.length ≤ 4096 := fun l hl => by
    obtain ⟨s, hs, rfl⟩ := List.mem_map.1 hl
    exact h400 s hs
  have HLL := Lib.hid (fun k => logsT_lenG ((ls.map fun s => s.data.toList).take k) (fun l hl => hlog l (List.mem_of_mem_take hl)))
  have HLA := Lib.hid (logsT_lenG (ls.map fun s => s.data.toList) hlog)
  have HCL := Lib.hid (fun k => chsT_len (cs.take k) (fun l hl => hC.hci l (List.mem_of_mem_take hl)))
  have hml : (ls.map fun s => s.data.toList).length = m := by rw [List.length_map]; exact hC.hm.symm
  rw [hml] at HLA
  have HML := Lib.hid hml
  unfold printS at hT
  simp only at hT
  have HP := Lib.hid (ref_print ⟨rs, t, d⟩ hf a n c w0 hC0.hru hC0.hn hn)
  obtain ⟨T1, hT1⟩ : ∃ T1, print ⟨rs, t, d⟩ = T1 := ⟨_, rfl⟩
  rw [hT1] at HP hT hpl
  have HT := Lib.hid hT
  obtain ⟨hg, y0, -, y1, -, y2, -, y3, -, y4, -⟩ := hA0.five
  clear hT hT1 hlog hf hC hml
  go_enter Tryz.func13, Tryz.ntmps13
  go_wp2_with (first | (go_at_call 43; (with_reducible refine HP.out.mono ?_); rintro e w2 ⟨rfl, hc2⟩; obtain ⟨-, x0, -, x1, -, x2, -, x3, -, x4, -⟩ := (hA0.below hc2 hgw).five) | fail)
  clear hw0 y0 y1 y2 y3 y4 HP
  go_loopw [3, 15] (fun v i wr => ∃ k : Nat, k ≤ m ∧ i = .int .i64 k ∧ v = .string (bstr (T1 ++ logsT ((ls.map fun s => s.data.toList).take k))) ∧ Below w0.heap.size w0 wr) (fun _ i _ => m - (intOf i).toNat)
  case atStart => exact ⟨0, Nat.zero_le _, rfl, by rw [List.take_zero]; show _ = Value.string (bstr (T1 ++ [])); rw [List.append_nil], hc2⟩
  case round =>
    clear hc2 x0 x1 x2 x3 x4
    obtain ⟨k, hk, rfl, rfl, hb⟩ := hrel
    have hwB := hb.size
    have hll := HLL.out k
    rw [List.length_take] at hll
    by_cases hlt : k < m
    · have hk1 : k < ls.length := by rw [← hC0.hm]; exact hlt
      have hrow := (hC0.hlo).below hb
      obtain ⟨b2, o2, rfl, -, -⟩ := hrow.at_ k hk1
      obtain ⟨hbl2, q0⟩ := hrow.cell k hk1
      have hsz := h400 _ (List.getElem_mem hk1)
      have hnx := logs_next ls k hk1
      generalize ls[k] = s at *
      have hsl : s.data.toList.length = s.size := by simp
      have hlln := logLine_lenG (l := s.data.toList) (by omega)
      have HQ := Lib.hid (ref_quote s wr (by omega))
      obtain ⟨X, hX⟩ : ∃ X, T1 ++ logsT ((ls.map fun s => s.data.toList).take k) = X := ⟨_, rfl⟩
      have hXl : X.length ≤ 10000000000 := by rw [← hX, List.length_append]; omega
      have HNX : Hid (T1 ++ logsT ((ls.map fun s => s.data.toList).take (k + 1)) = X ++ (logLine s.data.toList ++ [10])) := by
        refine Lib.hid ?_
        rw [hnx, ← hX, List.append_assoc]
      have hl4 : (logLine s.data.toList).length = 4 + (quote s.data.toList).length := by unfold logLine; rw [List.length_append]; rfl
      have h1 := fun w => tx_run w [108, 111, 103, 32] (quote s.data.toList) (by simp only [List.length_cons, List.length_nil]; omega)
      have h2 := fun w => tx_run w (logLine s.data.toList) [10] (by simp only [List.length_cons, List.length_nil]; omega)
      have e1 : [108, 111, 103, 32] ++ quote s.data.toList = logLine s.data.toList := rfl
      rw [e1] at h1
      obtain ⟨u1, hu1⟩ : ∃ u, bstr (logLine s.data.toList) = u := ⟨_, rfl⟩
      obtain ⟨u2, hu2⟩ : ∃ u, bstr (logLine s.data.toList ++ [10]) = u := ⟨_, rfl⟩
      have h3 := fun w => tx_run w X (logLine s.data.toList ++ [10]) (by simp only [List.length_append, List.length_cons, List.length_nil]; omega)
      obtain ⟨u3, hu3⟩ : ∃ u, bstr (X ++ (logLine s.data.toList ++ [10])) = u := ⟨_, rfl⟩
      obtain ⟨u4, hu4⟩ : ∃ u, bstr X = u := ⟨_, rfl⟩
      rw [hu1] at h1 h2
      rw [hu2] at h2 h3
      rw [hu3, hu4] at h3
      have HU3 := Lib.hid hu3
      rw [hX, hu4]
      clear hu1 hu2 hu3 hu4 hX hnx e1 hrow
      generalize bstr (quote s.data.toList) = u0 at *
      go_wp2_with (first | (go_at_call 44; (with_reducible refine HQ.out.mono ?_); rintro e w3 ⟨rfl, hb3⟩; have hc3 := on_below hb hb3) | fail)
      go_roundw
      case rel => exact ⟨k + 1, by omega, by go_num, by rw [HNX.out, HU3.out], hc3⟩
      case measure => simp [intOf]; omega
    · obtain rfl : k = m := by omega
      rw [List.take_of_length_le (by rw [HML.out]; exact Nat.le_refl _)]
      obtain ⟨X0, hX0⟩ : ∃ X, T1 ++ logsT (ls.map fun s => s.data.toList) = X := ⟨_, rfl⟩
      have hX0l : X0.length ≤ 9000000000 := by rw [← hX0, List.length_append]; have := HLA.out; omega
      have hT2 := HT.out
      rw [hX0] at hT2 ⊢
      obtain ⟨-, x0, -, x1, -, x2, -, x3, -, x4, -⟩ := (hA0.below hb hgw).five
      have HT2 := Lib.hid hT2
      clear hX0 hT2 HT hll HLL HLA
      go_wp2
      go_loopw [3, 29] (fun v i wx => ∃ j : Nat, j ≤ nq ∧ i = .int .i64 j ∧ v = .string (bstr (X0 ++ chsT (cs.take j))) ∧ Below w0.heap.size w0 wx) (fun _ i _ => nq - (intOf i).toNat)
      case atStart => exact ⟨0, Nat.zero_le _, rfl, by rw [List.take_zero]; show _ = Value.string (bstr (X0 ++ [])); rw [List.append_nil], hb⟩
      case round =>
        clear hb hwB x0 x1 x2 x3 x4
        obtain ⟨j, hj, rfl, rfl, hb⟩ := hrel
        have hwB := hb.size
        have hcl := HCL.out j
        rw [List.length_take] at hcl
        by_cases hjl : j < nq
        · have hj1 : j < cs.length := by rw [← hC0.hnq]; exact hjl
          have hrow := (hC0.hch).below hb
          obtain ⟨b2, o2, rfl, -, -⟩ := hrow.at_ j hj1
          obtain ⟨hbl2, r0, r1⟩ := RowC.cells hrow j hj1
          have hin := hC0.hci _ (List.getElem_mem hj1)
          have hnx := chs_next cs j hj1
          generalize cs[j] = x at *
          obtain ⟨ct, cn⟩ := x
          simp only at r0 r1 hin hnx
          have hcln := cline_len (t := ct) hin
          have hba : Below wr.heap.size wr (wr.alloc (.cells #[.bool ct, .int .i64 cn] 50)) := (Below.refl _ _).alloc (Nat.le_refl _) _
          have hbB := hb.trans (hba.mono hwB)
          have HQ := Lib.hid (ref_num cn hin (wr.alloc (.cells #[.bool ct, .int .i64 cn] 50)))
          obtain ⟨X, hX⟩ : ∃ X, X0 ++ chsT (cs.take j) = X := ⟨_, rfl⟩
          have hXl : X.length ≤ 10000000000 := by rw [← hX, List.length_append]; omega
          have HNX : Hid (X0 ++ chsT (cs.take (j + 1)) = X ++ (cline ct cn ++ [10])) := by
            refine Lib.hid ?_
            rw [hnx, ← hX, List.append_assoc]
          have hil := itoa_len hin
          have h2 := fun w => tx_run w (cline ct cn) [10] (by simp only [List.length_cons, List.length_nil]; omega)
          have h3 := fun w => tx_run w X (cline ct cn ++ [10]) (by simp only [List.length_append, List.length_cons, List.length_nil]; omega)
          obtain ⟨u2, hu2⟩ : ∃ u, bstr (cline ct cn ++ [10]) = u := ⟨_, rfl⟩
          obtain ⟨u3, hu3⟩ : ∃ u, bstr (X ++ (cline ct cn ++ [10])) = u := ⟨_, rfl⟩
          obtain ⟨u4, hu4⟩ : ∃ u, bstr X = u := ⟨_, rfl⟩
          rw [hu2] at h2 h3
          rw [hu3, hu4] at h3
          rw [hX, hu4]
          have HU3 := Lib.hid hu3
          cases ct with
          | false =>
            have h1 := fun w => tx_run w [112, 111, 108, 108, 32] (itoa cn) (by simp only [List.length_cons, List.length_nil]; omega)
            have e1 : [112, 111, 108, 108, 32] ++ itoa cn = cline false cn := rfl
            rw [e1] at h1
            clear hu2 hu3 hu4 hX hnx e1 hrow
            generalize bstr (itoa cn) = u0 at *
            generalize bstr (cline false cn) = u5 at *
            go_wp2_with (first | (go_at_call 17; (with_reducible refine HQ.out.mono ?_); rintro e w3 ⟨rfl, hb3⟩; have hc3 := on_below hbB hb3) | fail)
            go_roundw
            case rel => exact ⟨j + 1, by omega, by go_num, by rw [HNX.out, HU3.out], hc3⟩
            case measure => simp [intOf]; omega
          | true =>
            have h1 := fun w => tx_run w [116, 105, 99, 107, 32] (itoa cn) (by simp only [List.length_cons, List.length_nil]; omega)
            have e1 : [116, 105, 99, 107, 32] ++ itoa cn = cline true cn := rfl
            rw [e1] at h1
            clear hu2 hu3 hu4 hX hnx e1 hrow
            generalize bstr (itoa cn) = u0 at *
            generalize bstr (cline true cn) = u5 at *
            go_wp2_with (first | (go_at_call 17; (with_reducible refine HQ.out.mono ?_); rintro e w3 ⟨rfl, hb3⟩; have hc3 := on_below hbB hb3) | fail)
            go_roundw
            case rel => exact ⟨j + 1, by omega, by go_num, by rw [HNX.out, HU3.out], hc3⟩
            case measure => simp [intOf]; omega
        · obtain rfl : j = nq := by omega
          rw [List.take_of_length_le (by rw [← hC0.hnq]; exact Nat.le_refl _), HT2.out]
          go_wp2
          go_ret
          exact ⟨rfl, on_below hbx hb⟩
end Go.Proofs.YtmimfkhkilijcaaGreatDoor
