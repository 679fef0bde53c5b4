/- Contracts of the model's calls: the marks of those that are so; the least one; time goes on. -/
import Derived.Test.YtoecikeleoaecaaGreatModS
import Derived.Test.YtoecikeleoaecaaGreatKBase
namespace Go.Proofs.YtoecikeleoaecaaGreat
set_option maxRecDepth 4000
open Go.ChangeShapes Go.WideShapes Go.ChangeAt Go.RowKit
open PHist PRing PSat PClamp PBound PFrame PSign PTree PEv
set_option linter.unusedVariables false
set_option linter.unusedSimpArgs false

set_option maxHeartbeats 1000000 in
theorem sl_min (a : Option Addr) (n c : Nat) (l : List Int) (w : World) (hn : n = l.length) (hl : RowI w .i64 a l) (h0 : 0 < n) (h1 : n ≤ 100000) (z : Int) (hz : minOf l = z) :
    Calls Tryz.prog 156 #[.slice a n c] w fun e w' => e = .returned (.int .i64 z) ∧ w = w' := by
  have HN := Lib.hid hn
  have h0l : 0 < l.length := by omega
  have H1 := Lib.hid (minOf_one l h0l)
  have HZ := Lib.hid hz
  obtain ⟨b, off, rfl, hb, hc⟩ := hl.at_ 0 h0l
  rw [Nat.add_zero] at hc
  have hn1 : ¬ ((n : Int) < 1) := by omega
  clear hn hz
  go_enter Tryz.func156, Tryz.ntmps156
  go_wp2
  go_loop [3, 4] (fun s i => ∃ k : Nat, 1 ≤ k ∧ k ≤ n ∧ i = .int .i64 k ∧ s = .int .i64 (minOf (l.take k))) (fun _ i => n - (intOf i).toNat)
  case atStart => exact ⟨1, Nat.le_refl _, h0, rfl, by rw [H1.out]⟩
  case round =>
    obtain ⟨k, hk1, hk, rfl, rfl⟩ := hrel
    by_cases hlt : k < n
    · have hkl : k < l.length := by rw [← HN.out]; exact hlt
      obtain ⟨b', off', he, hb', hc'⟩ := hl.at_ k hkl
      cases he
      have HT := minOf_take l k hk1 hkl
      have HX := Lib.hid HT
      clear HT
      generalize l[k] = x at *
      generalize hm : minOf (l.take k) = m at *
      have HM := Lib.hid hm
      clear hm
      by_cases hmx : x < m
      · have hxm : ¬ (m ≤ x) := by omega
        have HE := Lib.hid (show min m x = x by omega)
        go_wp2
        go_round
        case rel => exact ⟨k + 1, by omega, by omega, by go_num, by rw [HX.out, HE.out]⟩
        case measure => simp [intOf] <;> omega
      · have hxm : m ≤ x := by omega
        have HE := Lib.hid (show min m x = m by omega)
        go_wp2
        go_round
        case rel => exact ⟨k + 1, by omega, by omega, by go_num, by rw [HX.out, HE.out]⟩
        case measure => simp [intOf] <;> omega
    · obtain rfl : k = n := by omega
      go_wp2
      go_ret
      exact ⟨ret_int (by rw [List.take_of_length_le (by rw [HN.out]; exact Nat.le_refl _)]; exact HZ.out), rfl⟩

def MarksPost (n : Nat) (l : List Int) (w : World) (e : Ending) (w' : World) : Prop := ∃ a c, e = .returned (.slice a n c) ∧ n = l.length ∧ RowI w' .i64 a l ∧ Below w.heap.size w w'
set_option maxHeartbeats 4000000 in
theorem mo_marks (g : Nat) (ru : Value) (a : Option Addr) (n c : Nat) (l : List Pv) (ps : List Pt) (t d k m q : Int) (w : World) (hA : At w g [ru, .int .i64 t, .int .i64 d, .slice a n c, .int .i64 k, .int .i64 m]) (hr : RowP w a l) (hn : n = l.length) (hl : l.map (·.p) = ps) (hok : ∀ p ∈ ps, p.Ok) (h8 : n ≤ 1000) :
    Calls Tryz.prog 155 #[.pointer (some ⟨g, 0, none⟩), .int .i64 q] w (MarksPost (marksTo ps q n).length (marksTo ps q n) w) := by
  obtain ⟨i0, hi0, hz0, hz1, hz2⟩ := info_parts info_int
  have HL := Lib.hid hl
  have HN := Lib.hid hn
  have HOK := Lib.hid hok
  have HBD : Hid (∀ j, j ≤ n → ∀ x ∈ marksTo ps q j, -9223372036854775808 ≤ x ∧ x ≤ 9223372036854775807) := by
    intro j
    induction j with
    | zero => intro _ x hx; cases hx
    | succ j ih =>
      intro hj x hx
      unfold marksTo at hx
      split at hx
      · rcases List.mem_append.1 hx with hx | hx
        · exact ih (by omega) x hx
        · rw [List.mem_singleton] at hx
          subst hx
          exact mark_in (hok _ (pat_mem (by rw [← hl, List.length_map]; omega)))
      · exact ih (by omega) x hx
  obtain ⟨hg, -, -, -, -, -, -, p3, -, -, -, -, -⟩ := hA.cells6
  clear hl hn hok hA
  go_enter Tryz.func155, Tryz.ntmps155
  go_wp2
  go_loopw [5, 13] (fun v i wr => ∃ j : Nat, j ≤ n ∧ i = .int .i64 j ∧ Sl w.heap.size wr 1 v (marksTo ps q j).length (iv (marksTo ps q j)) ∧ Below w.heap.size w wr) (fun _ i _ => n - (intOf i).toNat)
  case atStart => exact ⟨0, Nat.zero_le _, rfl, Sl.nil _ _ _, Below.refl _ _⟩
  case round =>
    obtain ⟨j, hj, rfl, hsl, hbw⟩ := hrel
    by_cases hlt : j < n
    · have hjl : j < l.length := by rw [← HN.out]; exact hlt
      have hrow := hr.on hbw
      obtain ⟨b, off, rfl, -, -⟩ := hr.row.at_ j hjl
      have hcell := hrow.cell j hjl
      have hpj : l[j].p = pat ps j := by rw [pat_lt (by rw [← HL.out, List.length_map]; exact hjl)]; simp only [← HL.out, List.getElem_map]
      have hpo : (l[j]).p.Ok := HOK.out _ (by rw [← HL.out]; exact List.mem_map_of_mem (List.getElem_mem hjl))
      have hvo := hrow.ok _ (List.getElem_mem hjl)
      have hml := marksTo_len ps q j
      have HS : Hid (marksTo ps q (j + 1) = if (l[j]).p.is = q then marksTo ps q j ++ [(l[j]).p.mark] else marksTo ps q j) := by
        show marksTo ps q (j + 1) = _
        rw [hpj]; rfl
      have HM := fun w' (h : PvOk w' l[j]) => Lib.hid (mo_mark l[j] w' h hpo _ rfl)
      clear hpj hpo
      generalize l[j] = v at *
      obtain ⟨⟨⟨kd, bd, pc, wn, sg⟩, recs, er, rd, is, tl⟩, av, cv⟩ := v
      simp only [Pv.val] at HM hcell HS
      obtain ⟨hbb, r0, r1, r2, r3, r4, r5, r6, r7, r8, r9⟩ := hcell
      have hba := (Below.refl wr.heap.size wr).alloc (Nat.le_refl _) (.cells #[.int .i64 kd, .int .i64 bd, .int .i64 pc, .int .i64 wn, .int .i64 sg, .slice av recs.length cv, .int .i64 er, .int .i64 rd, .int .i64 is, .int .i64 tl] 141)
      have hP := At.alloc wr [.int .i64 kd, .int .i64 bd, .int .i64 pc, .int .i64 wn, .int .i64 sg, .slice av recs.length cv, .int .i64 er, .int .i64 rd, .int .i64 is, .int .i64 tl] 141
      have hvo1 := hvo.on hba
      have hsl1 := hsl.onW hba
      have hbw1 := on_below hbw hba
      have HM1 := HM _ hvo1
      clear HM hvo
      generalize (Pt.mark ⟨⟨kd, bd, pc, wn, sg⟩, recs, er, rd, is, tl⟩) = z at *
      generalize marksTo ps q j = L at *
      have hsz := hbw.size
      go_upto_region 5 with fail
      generalize wr.alloc (.cells #[.int .i64 kd, .int .i64 bd, .int .i64 pc, .int .i64 wn, .int .i64 sg, .slice av recs.length cv, .int .i64 er, .int .i64 rd, .int .i64 is, .int .i64 tl] 141) = w1 at *
      obtain ⟨hgp, q0, x0, q1, x1, q2, x2, q3, x3, q4, x4, q5, x5, q6, x6, q7, x7, q8, x8, q9, x9⟩ := hP.ten
      by_cases hq : is = q
      · subst hq
        rw [if_pos rfl] at HS
        have hs1 : w.heap.size ≤ w1.heap.size := hbw1.size
        have hm1 : L.length + 1 ≤ maxLen := by unfold maxLen; omega
        go_wp2_with (first | (go_at_call 84; (with_reducible refine HM1.out.mono ?_); rintro e9 w2 ⟨rfl, hb2⟩; have hsl2 := hsl1.onW hb2; have hs2 : w.heap.size ≤ w2.heap.size := Nat.le_trans hs1 hb2.size) | (at_builtin; refine wpList_append_sl _ rfl (.tmp 21) (.tmp 24) 151 151 rfl 3 i0 (.int .i64 0) 8 Tryz.underlying151 hi0 hz0 hz1 hz2 rfl rfl (hsl2.alloc _) _ 1 [.int .i64 z] rfl (src_oneN Tryz.underlying151 _ (.int .i64 z) 3 _ rfl rfl) hm1 (by omega) (by simp; omega) ?_; intro v1 w3 k1 k2 k3))
        go_roundw
        case rel =>
          refine ⟨j + 1, by omega, by go_num, ?_, ?_⟩
          · rw [HS.out, List.length_append, iv_snoc']
            exact k1
          · have hb2' := on_below hbw1 hb2
            exact (hb2'.alloc hb2'.size _).upd k2 (by simp; omega) (fun i _ h => (hsl2.lt i h).1)
        case measure => simp [intOf] <;> omega
      · have hq' : (is == q) = false := by rw [beq_eq_false_iff_ne]; exact hq
        rw [if_neg hq] at HS
        clear hq
        go_wp2_with fail
        go_roundw
        case rel => exact ⟨j + 1, by omega, by go_num, by rw [HS.out]; exact hsl1, hbw1⟩
        case measure => simp [intOf] <;> omega
    · obtain rfl : j = n := by omega
      have hbd := HBD.out j (Nat.le_refl _)
      generalize marksTo ps q j = L at *
      obtain ⟨hL, a1, c1, rfl, hrow⟩ := rowi_of_sl hsl hbd
      have HR := Lib.hid hrow
      have HB := Lib.hid hbw
      clear hsl hbw hbd hrow HBD
      go_wp2_with fail
      go_ret
      exact ⟨a1, c1, rfl, rfl, HR.out, HB.out⟩

theorem idx_two (w : World) : (Instr.index 231 (.agg #[.int .i64 0, .int .i64 1]) (.int .i64 0)).run Tryz.prog w = .ok (.int .i64 0) w ∧ (Instr.index 231 (.agg #[.int .i64 0, .int .i64 1]) (.int .i64 1)).run Tryz.prog w = .ok (.int .i64 1) w := ⟨by kernel_rfl, by kernel_rfl⟩
set_option maxHeartbeats 2000000 in
theorem mo_least (g : Nat) (ru : Value) (a : Option Addr) (n c : Nat) (l : List Pv) (ps : List Pt) (t d k m : Int) (w : World) (hA : At w g [ru, .int .i64 t, .int .i64 d, .slice a n c, .int .i64 k, .int .i64 m]) (hr : RowP w a l) (hn : n = l.length) (hl : l.map (·.p) = ps) (hok : ∀ p ∈ ps, p.Ok) (h8 : n ≤ 1000) (z : Int) (hz : least ps = z) :
    Calls Tryz.prog 126 #[.pointer (some ⟨g, 0, none⟩)] w fun e w' => e = .returned (.int .i64 z) ∧ Below w.heap.size w w' := by
  have hlm := least_marks ps
  have hpn : ps.length = n := by rw [hn, ← hl, List.length_map]
  rw [hpn, hz] at hlm
  have HM := fun q w' (hb : Below w.heap.size w w') => Lib.hid (mo_marks g ru a n c l ps t d k m q w' (hA.on hb) (hr.on hb) hn hl hok h8)
  have h0 := marksTo_len ps 0 n
  have h1 := marksTo_len ps 1 n
  obtain ⟨x0, x1⟩ := idx_two w
  have HX := fun w' => idx_two w'
  clear hA hr hn hl hok hpn hz x0 x1
  have HM0 := HM 0
  have HM1 := HM 1
  clear HM
  generalize marksTo ps 0 n = L0 at *
  generalize marksTo ps 1 n = L1 at *
  have HMN := fun (L : List Int) (a' : Option Addr) (c' : Nat) (w' : World) (h : RowI w' .i64 a' L) (h0 : 0 < L.length) (h1 : L.length ≤ 1000) => Lib.hid (sl_min a' L.length c' L w' rfl h h0 (by omega) _ rfl)
  have HLM := Lib.hid hlm
  have H0 : Hid (L0.length ≤ 1000) := by show L0.length ≤ 1000; omega
  have H1 : Hid (L1.length ≤ 1000) := by show L1.length ≤ 1000; omega
  clear hlm h0 h1
  go_enter Tryz.func126, Tryz.ntmps126
  go_wp2
  go_loopw [7] (fun i wr => ∃ j : Nat, j ≤ 2 ∧ i = .int .i64 j ∧ Hid (0 < j → L0 = []) ∧ Hid (1 < j → L1 = []) ∧ Below w.heap.size w wr) (fun i _ => 2 - (intOf i).toNat)
  case atStart => exact ⟨0, by omega, rfl, fun h => absurd h (by omega), fun h => absurd h (by omega), Below.refl _ _⟩
  case round =>
    obtain ⟨j, hj, rfl, he0, he1, hbw⟩ := hrel
    obtain ⟨x0, x1⟩ := HX wr
    rcases (show j = 0 ∨ j = 1 ∨ j = 2 by omega) with rfl | rfl | rfl
    · cases L0 with
      | nil =>
        have HMA := HM0 wr hbw
        go_wp2_with (first | (go_at_call 155; (with_reducible refine HMA.out.mono ?_); intro e9 w2 hY; obtain ⟨a2, c2, rfl, -, hrow2, hb2⟩ := hY) | fail)
        go_roundw
        case rel => exact ⟨1, by omega, by go_num, fun _ => trivial, fun h => absurd h (by omega), on_below hbw hb2⟩
        case measure => simp [intOf] <;> omega
      | cons x r =>
        have HMA := HM0 wr hbw
        have hpos : Hid (0 < (x :: r).length) := Nat.succ_pos _
        have hzz : minOf (x :: r) = z := by rw [HLM.out, if_pos (by simp)]
        have HZ := Lib.hid hzz
        have HMI := HMN (x :: r)
        rw [hzz] at HMI
        clear hzz HM1
        generalize x :: r = L at *
        have hp1 : (0 : Int) < (L.length : Int) := by have := hpos.out; omega
        go_wp2_with (first | (go_at_call 155; (with_reducible refine HMA.out.mono ?_); intro e9 w2 hY; obtain ⟨a2, c2, rfl, -, hrow2, hb2⟩ := hY; have HMJ := HMI a2 c2 w2 hrow2 hpos.out H0.out) | (go_at_call 156; (with_reducible refine HMJ.out.mono ?_); rintro e9 w3 ⟨rfl, rfl⟩) | fail)
        go_ret
        exact ⟨rfl, on_below hbw hb2⟩
    · have h00 := he0.out (by omega)
      subst h00
      cases L1 with
      | nil =>
        have HMA := HM1 wr hbw
        go_wp2_with (first | (go_at_call 155; (with_reducible refine HMA.out.mono ?_); intro e9 w2 hY; obtain ⟨a2, c2, rfl, -, hrow2, hb2⟩ := hY) | fail)
        go_roundw
        case rel => exact ⟨2, by omega, by go_num, fun _ => trivial, fun _ => trivial, on_below hbw hb2⟩
        case measure => simp [intOf] <;> omega
      | cons x r =>
        have HMA := HM1 wr hbw
        have hpos : Hid (0 < (x :: r).length) := Nat.succ_pos _
        have hzz : minOf (x :: r) = z := by rw [HLM.out, if_neg (by simp), if_pos (by simp)]
        have HMI := HMN (x :: r)
        rw [hzz] at HMI
        clear hzz HM0
        generalize x :: r = L at *
        have hp1 : (0 : Int) < (L.length : Int) := by have := hpos.out; omega
        go_wp2_with (first | (go_at_call 155; (with_reducible refine HMA.out.mono ?_); intro e9 w2 hY; obtain ⟨a2, c2, rfl, -, hrow2, hb2⟩ := hY; have HMJ := HMI a2 c2 w2 hrow2 hpos.out H1.out) | (go_at_call 156; (with_reducible refine HMJ.out.mono ?_); rintro e9 w3 ⟨rfl, rfl⟩) | fail)
        go_ret
        exact ⟨rfl, on_below hbw hb2⟩
    · have h00 := he0.out (by omega)
      have h01 := he1.out (by omega)
      subst h00 h01
      have hzz : (9223372036854775807 : Int) = z := by rw [HLM.out, if_neg (by simp), if_neg (by simp)]
      have HZ := Lib.hid hzz
      clear hzz
      go_wp2_with fail
      go_ret
      exact ⟨ret_int HZ.out, hbw⟩

/-- A state that went on, and its events. -/
def MoPost (K : Option Addr → Nat → List R → Prop) (B g : Nat) (ru : Value) (a : Option Addr) (n c : Nat) (ps : List Pt) (t d k m : Int) (S : Nat → Prop) (es : List Ev) (w : World) (e : Ending) (w' : World) : Prop :=
  ∃ l r, e = .returned r ∧ Sl w.heap.size w' 1 r es.length (es.map evv) ∧ MoS K B w' g ru a n c l ps t d k m ∧ Upd S w w'
set_option maxHeartbeats 2000000 in
theorem mo_advance (K : Option Addr → Nat → List R → Prop) (B g : Nat) (ru : Value) (a : Option Addr) (n c : Nat) (l : List Pv) (ps : List Pt) (t d k m : Int) (w : World) (h : MoS K B w g ru a n c l ps t d k m) (hok : ∀ p ∈ ps, p.Ok) (h8 : n ≤ 1000) :
    Calls Tryz.prog 80 #[.pointer (some ⟨g, 0, none⟩)] w (MoPost K B g ru a n c ps t d k (further m ps) (fun b => b = g) (marksE m ps) w) := by
  have HLE := Lib.hid (mo_least g ru a n c l ps t d k m w h.blk h.rowp h.len h.map hok h8 _ rfl)
  have HH := Lib.hid h
  by_cases hle : least ps ≤ m
  · have hfm := Lib.hid (show further m ps = m from if_pos hle)
    have hme := Lib.hid (show marksE m ps = [] from if_pos hle)
    have hzz : least ps ≤ m := hle
    clear hle h hok
    generalize least ps = z at *
    go_enter Tryz.func80, Tryz.ntmps80
    go_wp2_with (first | (go_at_call 126; (with_reducible refine HLE.out.mono ?_); rintro e9 w1 ⟨rfl, hb1⟩; obtain ⟨hg, -, -, -, -, -, -, -, -, -, -, p5, x5⟩ := (HH.out.blk.on hb1).cells6) | fail)
    go_ret
    rw [hfm.out, hme.out]
    exact ⟨l, .slice none 0 0, rfl, Sl.nil _ _ _, HH.out.on hb1, Upd.of_below hb1 (fun q h1 h2 => by omega)⟩
  · have hfm := Lib.hid (show further m ps = least ps from if_neg hle)
    have hme := Lib.hid (show marksE m ps = [.mark (least ps)] from if_neg hle)
    have hzz : m < least ps := by omega
    clear hle h hok
    generalize least ps = z at *
    have hlt' : ¬ (z ≤ m) := by omega
    go_enter Tryz.func80, Tryz.ntmps80
    go_wp2_with (first | (go_at_call 126; (with_reducible refine HLE.out.mono ?_); rintro e9 w1 ⟨rfl, hb1⟩; obtain ⟨hg, -, -, -, -, -, -, -, -, -, -, p5, x5⟩ := (HH.out.blk.on hb1).cells6) | fail)
    go_ret
    rw [hfm.out, hme.out]
    obtain ⟨h2, hu2⟩ := (HH.out.on hb1).setNow z
    have hba := (Below.refl (w1.setCell ⟨g, 5, none⟩ (.int .i64 z)).heap.size (w1.setCell ⟨g, 5, none⟩ (.int .i64 z))).alloc (Nat.le_refl _) (.cells #[.iface 65 (.agg #[.int .i64 z])] 67)
    have hu3 : Upd (fun q => q = g) w (w1.setCell ⟨g, 5, none⟩ (.int .i64 z)) := (Upd.of_below hb1 (fun q h1 h2 => by omega)).trans hu2 (fun _ _ h => h)
    exact ⟨l, _, rfl, evi_row (.mark z) _ rfl (by simp [World.setCell]) hu3.size, h2.on hba, hu3.alloc _⟩
end Go.Proofs.YtoecikeleoaecaaGreat
