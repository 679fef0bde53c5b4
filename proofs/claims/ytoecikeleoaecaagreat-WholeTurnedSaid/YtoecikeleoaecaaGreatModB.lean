/- Contracts of the model's calls: the walk of the beginning. -/
import Derived.Test.YtoecikeleoaecaaGreatModA
import Derived.Test.YtoecikeleoaecaaGreatKRefS
namespace Go.Proofs.YtoecikeleoaecaaGreat
set_option maxRecDepth 4000
open Go.ChangeShapes Go.WideShapes Go.ChangeAt Go.RowKit
open PHist PRing PSat PClamp PBound PFrame PVar PCrc PSign PTree PEv
set_option linter.unusedVariables false
set_option linter.unusedSimpArgs false

set_option maxHeartbeats 8000000 in
theorem mo_new (rs : List Rul) (t d : Int) (ls : List ByteArray) (a : Option Addr) (n c : Nat) (b : Option Addr) (m c2 : Nat) (w : World) (h1 : RowU w a rs) (h2 : RowS w b ls) (hn : n = rs.length) (hm : m = ls.length) (hz : nerr rs t d m = 0) (h8 : m ≤ 8) (hf : ∀ r ∈ rs, r.Fits) (ht : in64 t) (hd : in64 d) (hs : ∀ s ∈ ls, s.size ≤ 400) :
    Calls Tryz.prog 33 #[.agg #[.slice a n c, .int .i64 t, .int .i64 d], .slice b m c2] w (NewM (St.new t d rs (ls.map fun s => s.data.toList)) (St.newE t rs (ls.map fun s => s.data.toList)) rs n w) := by
  have e := fun (w : World) (o : Obj) => (Below.refl w.heap.size w).alloc (Nat.le_refl _) o
  have hA0 := (At.alloc w [.slice a n c, .int .i64 t, .int .i64 d] 24).on (e _ (.cells #[.slice none 0 0, .int .i64 0, .int .i64 0, .slice none 0 0, .int .i64 0, .int .i64 0] 70))
  have hA1 := At.alloc (w.alloc (.cells #[.slice a n c, .int .i64 t, .int .i64 d] 24)) [.slice none 0 0, .int .i64 0, .int .i64 0, .slice none 0 0, .int .i64 0, .int .i64 0] 70
  rw [World.size_alloc] at hA1
  have hb0 : Below w.heap.size w ((w.alloc (.cells #[.slice a n c, .int .i64 t, .int .i64 d] 24)).alloc (.cells #[.slice none 0 0, .int .i64 0, .int .i64 0, .slice none 0 0, .int .i64 0, .int .i64 0] 70)) := on_below (e _ _) (e _ _)
  obtain ⟨hc0, hmn⟩ := nerr_zero hz
  have HC := Lib.hid (cf_check rs t d a n c _ (h1.below hb0) hn (by omega) 0 hc0)
  have ht1 := ccheck_t hc0
  have HRO : Hid (∀ p ∈ raws t rs (ls.map fun s => s.data.toList), p.Ok) := raws_ok (fun r hr => ⟨ccheck_ok hc0 r hr, hf r hr⟩) (fun l hl => by
    obtain ⟨s, hs', rfl⟩ := List.mem_map.1 hl
    exact hs s hs') ⟨ht1.2.1, ht.2⟩
  have HOK : Hid (∀ p ∈ begun t rs (ls.map fun s => s.data.toList), p.Ok) := fun p hp => by
    obtain ⟨q, hq, rfl⟩ := List.mem_map.1 hp
    exact (HRO.out q hq).settled
  have hadd : add 0 t = t := add_zero_in ⟨ht1.2.1, ht.2⟩
  have HB1 : Hid (∀ p, a = some p → 0 < rs.length → p.block < w.heap.size) := fun p hp h0 => by
    obtain ⟨b', off, hab, hb, -⟩ := h1.at_ 0 h0
    rw [hab] at hp; cases hp
    exact hb
  have HB2 : Hid (∀ p, b = some p → 0 < ls.length → p.block < w.heap.size) := fun p hp h0 => by
    obtain ⟨b', off, hab, hb, -⟩ := h2.at_ 0 h0
    rw [hab] at hp; cases hp
    exact hb
  have H1 := Lib.hid (h1.below hb0)
  have H2 := Lib.hid (h2.below hb0)
  have HS := Lib.hid hs
  have HRL := Lib.hid (raws_len (t := t) (rs := rs) (ls := ls.map fun s => s.data.toList) (by rw [List.length_map]; omega))
  have HLL : Hid ((ls.map fun s => s.data.toList).length = rs.length) := by show _ = _; rw [List.length_map]; omega
  obtain rfl : m = n := by omega
  have HAP := fun w' (hb : Below w.heap.size w w') => Lib.hid (mo_apart a m c rs none 0 0 [] t d 0 (-9223372036854775808) w' (h1.below hb) hn (RowP.nil _ _) rfl (by omega) (by omega))
  have HN := Lib.hid hn
  have HM := Lib.hid hm
  have htt : in64 t := ht
  clear h1 h2 hn hm hz hs hc0 hmn ht1 hd ht
  have hne : ((m : Int) != (m : Int)) = false := by simp
  go_enter Tryz.func33, Tryz.ntmps33
  go_upto_region 1 with fail
  generalize (w.alloc (.cells #[.slice a m c, .int .i64 t, .int .i64 d] 24)).alloc (.cells #[.slice none 0 0, .int .i64 0, .int .i64 0, .slice none 0 0, .int .i64 0, .int .i64 0] 70) = w1 at *
  obtain ⟨hg0, p0, x0, p1, x1, p2, x2⟩ := hA0.three
  go_upto_region 6 with (first | (go_at_call 45; (with_reducible refine HC.out.mono ?_); rintro e w2 ⟨rfl, hb2⟩; obtain ⟨hgc, c0, z0, c1, z1, c2, z2⟩ := (hA0.on hb2).three))
  have hA0b := hA0.on hb2
  have hA1b := hA1.on hb2
  have hbw2 := on_below hb0 hb2
  have H1b := Lib.hid (H1.out.below hb2)
  have H2b := Lib.hid (H2.out.below hb2)
  have hlt2 : w.heap.size + 1 < w2.heap.size := hA1b.1
  have HAP2 := HAP _ hbw2
  clear hA0 hA1 hb0 p0 x0 p1 x1 p2 x2 hg0 hb2 H1 H2 HAP
  go_upto_region 8 with (first | (go_at_call 76; (with_reducible refine HAP2.out.mono ?_); intro e w3 hY; obtain ⟨ra2, rc2, a2, cc2, rfl, hs3, ht3, hb3, hne3, hnil3⟩ := hY; obtain ⟨hn1, hn2⟩ := hnil3 rfl; subst hn1; subst hn2) | fail)
  have hba := e w3 (.cells #[.slice ra2 m rc2, .int .i64 t, .int .i64 d, .slice none 0 0, .int .i64 0, .int .i64 (-9223372036854775808)] 70)
  have hBl := At.alloc w3 [.slice ra2 m rc2, .int .i64 t, .int .i64 d, .slice none 0 0, .int .i64 0, .int .i64 (-9223372036854775808)] 70
  have hb4 := on_below hb3 hba
  have hbw4 := on_below hbw2 hb4
  have hru4 := (hs3.onW hba).base (show w.heap.size + 2 ≤ w2.heap.size by omega)
  have hrg : ∀ q, (Value.slice ra2 m rc2).ownBlock = some q → q < w3.heap.size := fun q hq => (hs3.lt q hq).2
  have hA0c := hA0b.on hb4
  have hA1c := hA1b.on hb4
  have H1c := Lib.hid (H1b.out.below hb4)
  have H2c := Lib.hid (H2b.out.below hb4)
  have hg3 : w.heap.size + 1 < w3.heap.size := Nat.lt_of_lt_of_le hlt2 hb3.size
  have HR0 : MoN (w3.alloc (.cells #[.slice ra2 m rc2, .int .i64 t, .int .i64 d, .slice none 0 0, .int .i64 0, .int .i64 (-9223372036854775808)] 70)) (w3.alloc (.cells #[.slice ra2 m rc2, .int .i64 t, .int .i64 d, .slice none 0 0, .int .i64 0, .int .i64 (-9223372036854775808)] 70)) w3.heap.size (.slice ra2 m rc2) 0 t d rs (ls.map fun s => s.data.toList) none 0 (.slice none 0 0) [] :=
    ⟨⟨hBl, Sl.nil _ _ _, rfl, rfl, (fun h => by cases h), fun v hv => (by cases hv), fun v hv => (by cases hv), fun v hv => (by cases hv)⟩, Sl.nil _ _ _, fun b hb => (by cases hb), Upd.refl _ _⟩
  clear hs3 ht3 hb3 hba hb4 hbw2 hA0b hA1b H1b H2b hgc c0 z0 c1 z1 c2 z2 hne3 hnil3 HAP2 hlt2
  have hgl := hBl.1
  clear hBl
  generalize w3.alloc (.cells #[.slice ra2 m rc2, .int .i64 t, .int .i64 d, .slice none 0 0, .int .i64 0, .int .i64 (-9223372036854775808)] 70) = w4 at *
  generalize w3.heap.size = g at *
  obtain ⟨hg0, p0, x0, p1, x1, p2, x2⟩ := hA0c.three
  have hru4' := Lib.hid hru4
  have hbw4' := Lib.hid hbw4
  clear hru4 hbw4
  go_wp2_with fail
  go_loopw [9, 34] (fun vo vi wr => ∃ (k : Nat) (a' : Option Addr) (c' : Nat) (l : List Pv), k ≤ m ∧ vi = .int .i64 k ∧ MoN w4 wr g (.slice ra2 m rc2) k t d rs (ls.map fun s => s.data.toList) a' c' vo l) (fun _ i _ => m - (intOf i).toNat)
  case atStart => exact ⟨0, none, 0, [], Nat.zero_le _, rfl, HR0⟩
  case round =>
    clear HR0 p0 x0 p1 x1 p2 x2 hg0
    obtain ⟨k, a', c', l, hk, rfl, hR⟩ := hrel
    obtain ⟨ao, co, hre⟩ := hR.evr.shape
    subst hre
    by_cases hlt : k < m
    · have hkr : k < rs.length := by rw [← HN.out]; exact hlt
      have hkl : k < ls.length := by rw [← HM.out]; exact hlt
      have hrow := RowG.upd H1c.out hR.new (fun p hp h => by have h1 := HB1.out p hp (by omega); have h2 : g ≤ p.block := h; omega)
      have hstr := RowS.upd H2c.out hR.new (fun p hp h => by have h1 := HB2.out p hp (by omega); have h2 : g ≤ p.block := h; omega)
      obtain ⟨bb, offb, rfl, -, -⟩ := hrow.at_ k hkr
      obtain ⟨bs, offs, rfl, -, -⟩ := hstr.at_ k hkl
      have hraw := raws_at (t := t) HLL.out k hkr
      rw [List.getElem_map] at hraw
      have hrawk : k < (raws t rs (ls.map fun s => s.data.toList)).length := by rw [HRL.out]; exact hkr
      have hrok := HRO.out _ (pat_mem hrawk)
      have HTR := take_raw hrawk _ rfl
      have HPA := fun wx => Lib.hid (log_parse2 ls[k] wx (by have := HS.out _ (List.getElem_mem hkl); omega))
      have hrc := RowU.cells hrow k hkr
      have hst0 := hstr.cell k hkl
      unfold Pt.raw at hraw
      generalize rs[k] = ru at *
      obtain ⟨kd, bd, pc, wn, sg⟩ := ru
      generalize parse ls[k].data.toList = pp at *
      obtain ⟨recs, ln, er⟩ := pp
      simp only at hraw hrc
      generalize ls[k] = sk at *
      have HFL : Hid ((faults (pat (raws t rs (ls.map fun s => s.data.toList)) k) k).length ≤ 1) := faults_len _ _
      have HFK : Hid ((faultsTo (raws t rs (ls.map fun s => s.data.toList)) k).length ≤ k) := faultsTo_len _ _
      have hfe : faultsTo (raws t rs (ls.map fun s => s.data.toList)) (k + 1) = faultsTo (raws t rs (ls.map fun s => s.data.toList)) k ++ faults (pat (raws t rs (ls.map fun s => s.data.toList)) k) k := rfl
      have h400 : recs.length ≤ 400 := by rw [hraw] at hrok; exact hrok.few
      have hpre : ∀ p ∈ (begun t rs (ls.map fun s => s.data.toList)).take k, p.recs.length ≤ 400 := fun p hp => (HOK.out p (List.mem_of_mem_take hp)).few
      rw [hraw] at HTR hfe
      have HSE := fun (K' : Option Addr → Nat → List R → Prop) (a1 : Option Addr) (c1 : Nat) (l1 : List Pv) wx (h : MoS K' (g + 1) wx g (.slice ra2 m rc2) a1 (k + 1) c1 l1 ((begun t rs (ls.map fun s => s.data.toList)).take k ++ [⟨⟨kd, bd, pc, wn, sg⟩, recs, er, 0, 0, t⟩]) t d 0 (-9223372036854775808)) => Lib.hid (mo_settle K' (g + 1) g (.slice ra2 m rc2) a1 (k + 1) c1 l1 _ t d 0 (-9223372036854775808) k wx h (by omega) (fun p hp => by
        rcases List.mem_append.1 hp with hp | hp
        · exact hpre p hp
        · rw [List.mem_singleton] at hp; rw [hp]; exact h400) (by omega))
      rw [HTR.1, HTR.2] at HSE
      have HFE := Lib.hid hfe
      obtain ⟨hbb, r0, r1, r2, r3, r4⟩ := hrc
      obtain ⟨hbs, s0⟩ := hst0
      have hbr := e wr (.cells #[.int .i64 kd, .int .i64 bd, .int .i64 pc, .int .i64 wn, .int .i64 sg] 55)
      have hRu := At.alloc wr [.int .i64 kd, .int .i64 bd, .int .i64 pc, .int .i64 wn, .int .i64 sg] 55
      have hgr : g + 1 ≤ wr.heap.size := Nat.le_trans hgl hR.new.size
      rw [hraw] at HFL
      generalize faults ⟨⟨kd, bd, pc, wn, sg⟩, recs, er, 0, 0, t⟩ k = fl at *
      clear HTR hfe hraw hrok hpre hrow hstr HS
      have hmm : (k : Int) < (m : Int) := by omega
      go_upto_region 12 with (first | (go_at_call 77; (with_reducible refine (HPA _).out.mono ?_); intro e w5 hG; obtain ⟨ar, cr, rfl, hRR, hb5, hle, hcap, hnr⟩ := hG) | fail)
      have hRu5 := hRu.on hb5
      have hbr5 := on_below hbr hb5
      have hN5 : ∀ q, ar = some q → wr.heap.size ≤ q.block := fun q hq => by have := hnr q hq; rw [World.size_alloc] at this; omega
      clear r0 r1 r2 r3 r4 s0 hbb hbs hRu hbr hnr HPA hb5
      have hM5 := hR.st.on hbr5
      obtain ⟨i0, hi0, hz0, hz1, hz2⟩ := info_parts info_cl_pt
      have hone := Pv.cells_one ⟨⟨⟨kd, bd, pc, wn, sg⟩, recs, er, 0, 0, t⟩, ar, cr⟩
      have HDL := fun wx (hx : Below w5.heap.size w5 wx) => Lib.hid (hadd ▸ mo_deadline g _ _ t d 0 (-9223372036854775808) wx (hM5.on hx).blk (by unfold in64; omega) htt)
      have HF : ∀ wx, Upd (fun q => (Value.slice a' k c').ownBlock = some q) w5 wx → wx.cell? ⟨g, 3, none⟩ = some (.slice a' k c') ∧ wx.frozen? ⟨g, 3, none⟩ = false := fun wx hx => by
        obtain ⟨-, -, -, -, -, -, -, t3, y3, -, -, -, -⟩ := (hM5.blk.upd hx hM5.ne).cells6
        exact ⟨t3, y3⟩
      have HF5 : ∀ wx, Upd (fun q => q = g ∨ (Value.slice a' k c').ownBlock = some q) w5 wx → wx.cell? ⟨wr.heap.size, 0, none⟩ = some (.int .i64 kd) ∧ wx.cell? ⟨wr.heap.size, 1, none⟩ = some (.int .i64 bd) ∧ wx.cell? ⟨wr.heap.size, 2, none⟩ = some (.int .i64 pc) ∧ wx.cell? ⟨wr.heap.size, 3, none⟩ = some (.int .i64 wn) ∧ wx.cell? ⟨wr.heap.size, 4, none⟩ = some (.int .i64 sg) := fun wx hx => by
        obtain ⟨-, u0, -, u1, -, u2, -, u3, -, u4, -⟩ := (hRu5.upd hx (fun h => h.elim (fun h => by have h' : wr.heap.size = g := h; omega) (fun h => by have := (hR.st.row.lt _ h).2; omega))).five
        exact ⟨u0, u1, u2, u3, u4⟩
      have HUM : ∀ wx, Upd (fun q => (Value.slice a' k c').ownBlock = some q) w5 wx → Upd (fun q => q = g ∨ (Value.slice a' k c').ownBlock = some q) w5 wx := fun wx hx => hx.mono (fun _ _ h => .inr h)
      have hm1 : k + 1 ≤ maxLen := by unfold maxLen; omega
      have hrl5 := hM5.row
      have hgl5 : g + 1 ≤ w5.heap.size := Nat.le_trans hgr hbr5.size
      have HPU := fun (w6 w7 : World) (a1 : Option Addr) (c1 : Nat) (h6 : Below wr.heap.size wr w6) (hvo : PvOk w6 ⟨⟨⟨kd, bd, pc, wn, sg⟩, recs, er, 0, 0, t⟩, ar, cr⟩) hva q1 q2 q3 => MoS.push (w6 := w6) (w7 := w7) (a1 := a1) (c1 := c1) (v := ⟨⟨⟨kd, bd, pc, wn, sg⟩, recs, er, 0, 0, t⟩, ar, cr⟩) hR.st h6 hvo (fun p hp h0 => Nat.le_trans hgr (hN5 p hp)) hva q1 q2 q3
      have HVO : Hid (∀ wx, Below w5.heap.size w5 wx → PvOk wx ⟨⟨⟨kd, bd, pc, wn, sg⟩, recs, er, 0, 0, t⟩, ar, cr⟩) := fun wx hx => ⟨hRR.on hx, hle, hcap⟩
      have HVA : Hid (∀ wx, Below w5.heap.size w5 wx → ∀ q, ar = some q → 0 < recs.length → wr.heap.size ≤ q.block ∧ q.block < wx.heap.size) := fun wx hx q hq h0 => by
        obtain ⟨b', off, hab, hb, -⟩ := hRR.at_ 0 h0
        have h3 := hN5 q hq
        rw [hab] at hq; cases hq
        have h1 : b' < w5.heap.size := hb
        exact ⟨h3, Nat.lt_of_lt_of_le h1 hx.size⟩
      obtain ⟨t3, y3⟩ := HF w5 (Upd.refl _ _)
      obtain ⟨u0, u1, u2, u3, u4⟩ := HF5 w5 (Upd.refl _ _)
      clear hRu5 hRR
      go_cut [] (fun wx => ∃ (a1 : Option Addr) (c1 : Nat), MoS (fun a _ r => ∀ p, a = some p → 0 < r.length → g + 1 ≤ p.block) (g + 1) wx g (.slice ra2 m rc2) a1 (k + 1) c1 (l ++ [⟨⟨⟨kd, bd, pc, wn, sg⟩, recs, er, 0, 0, t⟩, ar, cr⟩]) ((begun t rs (ls.map fun s => s.data.toList)).take k ++ [⟨⟨kd, bd, pc, wn, sg⟩, recs, er, 0, 0, t⟩]) t d 0 (-9223372036854775808) ∧ Upd (fun q => q = g ∨ (Value.slice a' k c').ownBlock = some q) w5 wx ∧ ∀ q, (Value.slice a1 (k + 1) c1).ownBlock = some q → (Value.slice a' k c').ownBlock = some q ∨ w5.heap.size ≤ q)
      case first =>
        have hHR := Lib.hid hR
        have hHM := Lib.hid hM5
        clear HSE HFE HFL HFK HOK HRO HRL HLL HB1 HB2 H1c H2c hR hM5 hN5 HN HM
        clear t3 y3 u0 u1 u2 u3 u4
        obtain ⟨t3, y3⟩ := HF w5.drew (Upd.refl _ _).drew
        obtain ⟨u0, u1, u2, u3, u4⟩ := HF5 w5.drew (Upd.refl _ _).drew
        go_region_law
          (first | (go_simp; go_at_call 78; (with_reducible refine (HDL _ (Below.refl _ _).drew).out.mono ?_); rintro e w6 ⟨rfl, hb6⟩; have hbx := on_below (Below.refl w5.heap.size w5).drew hb6; have hux : Upd (fun q => (Value.slice a' k c').ownBlock = some q) w5 w6 := Upd.of_below hbx (fun q hq h => by omega); have hux5 := HUM _ hux; obtain ⟨x6, z6⟩ := HF _ hux; obtain ⟨v0, v1, v2, v3, v4⟩ := HF5 _ hux5; obtain ⟨x7, z7⟩ := HF (w6.alloc (.cells #[.int .i64 kd, .int .i64 bd, .int .i64 pc, .int .i64 wn, .int .i64 sg, .slice ar recs.length cr, .int .i64 er, .int .i64 0, .int .i64 0, .int .i64 t] 141)) (hux.alloc _)) | (refine step_append_mine rfl (.tmp 49) (.tmp 55) 68 68 rfl 141 i0 (.agg #[.int .i64 0, .int .i64 0, .int .i64 0, .int .i64 0, .int .i64 0, .slice none 0 0, .int .i64 0, .int .i64 0, .int .i64 0, .int .i64 0]) 96 Tryz.underlying68 hi0 hz0 hz1 hz2 rfl (.slice a' k c') _ 1 [.int .i64 kd, .int .i64 bd, .int .i64 pc, .int .i64 wn, .int .i64 sg, .slice ar recs.length cr, .int .i64 er, .int .i64 0, .int .i64 0, .int .i64 t] rfl rfl (B := g + 1) (xs := pvs l) (n := k) ((hrl5.onW hbx).alloc _) (src_cells Tryz.underlying68 _ [.int .i64 kd, .int .i64 bd, .int .i64 pc, .int .i64 wn, .int .i64 sg, .slice ar recs.length cr, .int .i64 er, .int .i64 0, .int .i64 0, .int .i64 t] 141 _ rfl 10 rfl hone) hm1 (by omega) (by have := hbx.size; simp; omega) ?_; intro a1 c1 wz q1 q2 q3; have huz := (hux.alloc (.cells #[.int .i64 kd, .int .i64 bd, .int .i64 pc, .int .i64 wn, .int .i64 sg, .slice ar recs.length cr, .int .i64 er, .int .i64 0, .int .i64 0, .int .i64 t] 141)).trans q2 (fun _ _ h => h); have huz5 := HUM _ huz; have hst5 := fun u => huz5.setCell (p := ⟨g, 3, none⟩) (fun _ => .inl rfl) u; obtain ⟨x3, z3⟩ := HF _ huz))
        all_goals (go_wp2_with fail; go_meet)
        all_goals
          have hb6' := hbx.alloc hbx.size (.cells #[.int .i64 kd, .int .i64 bd, .int .i64 pc, .int .i64 wn, .int .i64 sg, .slice ar recs.length cr, .int .i64 er, .int .i64 0, .int .i64 0, .int .i64 t] 141)
          have hP := HPU _ _ a1 c1 (on_below hbr5 hb6') (HVO.out _ hb6') (HVA.out _ hb6') q1 q2 q3
          exact ⟨a1, c1, hP.1, (Upd.of_below (S := fun q => q = g ∨ (Value.slice a' k c').ownBlock = some q) hb6' (fun q h1 h2 => by omega)).trans hP.2 (fun _ _ h => h), fun q hq => (q3 q hq).imp id (fun h => Nat.le_trans hb6'.size h)⟩
      case rest =>
        obtain ⟨a1, c1, hM1, hU1, hq3⟩ := hcut
        have hog : ∀ q, (Value.slice ao (faultsTo (raws t rs (ls.map fun s => s.data.toList)) k).length co).ownBlock = some q → g + 1 ≤ q ∧ q < wr.heap.size := fun q hq => hR.evr.lt q hq
        have hM1' := hM1.reK (K' := fun a _ r => ∀ p, a = some p → 0 < r.length → g + 1 ≤ p.block ∧ (Value.slice ao (faultsTo (raws t rs (ls.map fun s => s.data.toList)) k).length co).ownBlock ≠ some p.block) (fun v hv p hp h0 => ⟨hM1.kk v hv p hp h0, fun e => by
          rcases List.mem_append.1 hv with hv | hv
          · exact (hR.fo _ e).2 v hv p hp h0 rfl
          · rw [List.mem_singleton] at hv
            subst hv
            have := (hog _ e).2
            have := hN5 p hp
            omega⟩)
        have HS1 := HSE _ a1 c1 _ wc hM1'
        have hEc := (hR.evr.onW hbr5).upd hU1 (fun q h1 h2 => by
          rcases h2 with h2 | h2
          · have := (hog q h1).1; omega
          · exact (hR.fo q h1).1 h2)
        obtain ⟨j0, hj0, hy0, hy1, hy2⟩ := info_parts info_cl_ev
        have hf1 := HFL.out
        have hf2 := HFK.out
        have hsc : g + 1 ≤ wc.heap.size := Nat.le_trans hgl5 hU1.size
        have hap : ∀ q, (Value.slice a1 (k + 1) c1).ownBlock = some q → (Value.slice ao (faultsTo (raws t rs (ls.map fun s => s.data.toList)) k).length co).ownBlock ≠ some q := fun q h1 h2 => (hq3 q h1).elim (fun h3 => (hR.fo q h2).1 h3) (fun h3 => by have := (hog q h2).2; have := hbr5.size; omega)
        have hHR := Lib.hid hR
        clear hR HPU HVO HVA HF HF5 HUM HDL hone hM1 hM1' HSE t3 y3 u0 u1 u2 u3 u4 hM5 hrl5
        go_wp2_with (first | (go_at_call 79; (with_reducible refine HS1.out.mono ?_); intro e ws hY; obtain ⟨l2, r2, rfl, hr2, hM2, hU2⟩ := hY; obtain ⟨av, cv, hre⟩ := hr2.shape; subst hre; have hEs := hEc.upd hU2 (fun q h1 h2 => hap q h2 h1); have hss : g + 1 ≤ ws.heap.size := Nat.le_trans hsc hU2.size) | (at_builtin; refine wpList_append_sl _ rfl (.tmp 58) (.tmp 60) 41 41 rfl 67 j0 _ 16 Tryz.underlying41 hj0 hy0 hy1 hy2 rfl rfl hEs (.slice av fl.length cv) fl.length (fl.map evv) rfl (src_sl hr2 Tryz.underlying41 (evv_one _)) (by unfold maxLen; omega) (by omega) hss ?_; intro v9 w9 l1 u1 l3) | fail)
        go_roundw
        case rel =>
          exact ⟨k + 1, a1, c1, l2, by omega, by go_num, MoN.step hHR.out hbr5 hgr hU1 hq3 hM2 hU2 (by rw [HFE.out, List.length_append]) (by rw [HFE.out, List.map_append]; exact l1) u1 l3⟩
        case measure => simp [intOf] <;> omega
    · obtain rfl : k = m := by omega
      have hbl : (begun t rs (ls.map fun s => s.data.toList)).length = k := by unfold begun; rw [List.length_map, HRL.out, HN.out]
      have hst := hR.st
      rw [List.take_of_length_le (by omega)] at hst
      have hog : ∀ q, (Value.slice ao (faultsTo (raws t rs (ls.map fun s => s.data.toList)) k).length co).ownBlock = some q → g + 1 ≤ q ∧ q < wr.heap.size := fun q hq => hR.evr.lt q hq
      have hst' := hst.reK (K' := fun a _ r => ∀ p, a = some p → 0 < r.length → g + 1 ≤ p.block ∧ (Value.slice ao (faultsTo (raws t rs (ls.map fun s => s.data.toList)) k).length co).ownBlock ≠ some p.block) (fun v hv p hp h0 => ⟨hst.kk v hv p hp h0, fun e => (hR.fo _ e).2 v hv p hp h0 rfl⟩)
      have HADV := Lib.hid (mo_advance _ (g + 1) g _ a' k c' l _ t d 0 (-9223372036854775808) wr hst' HOK.out (by omega))
      have hel : (faultsTo (raws t rs (ls.map fun s => s.data.toList)) k).length ≤ k := faultsTo_len _ _
      have hml : (marksE (-9223372036854775808) (begun t rs (ls.map fun s => s.data.toList))).length ≤ 1 := marksE_len _ _
      have HES : Hid (St.newE t rs (ls.map fun s => s.data.toList) = faultsTo (raws t rs (ls.map fun s => s.data.toList)) k ++ marksE (-9223372036854775808) (begun t rs (ls.map fun s => s.data.toList))) := by
        show _ ++ _ = _
        rw [← HN.out]
      have HSNx : St.new t d rs (ls.map fun s => s.data.toList) = ⟨begun t rs (ls.map fun s => s.data.toList), t, d, 0, further (-9223372036854775808) (begun t rs (ls.map fun s => s.data.toList))⟩ := rfl
      have hev := hR.evr
      have hAz := hA1c.upd hR.new (fun h => by have h' : g ≤ w.heap.size + 1 := h; omega)
      have hgw : g + 1 ≤ wr.heap.size := Nat.le_trans hgl hR.new.size
      have HRR := Lib.hid hR
      have HBL := Lib.hid hbl
      obtain ⟨i0, hi0, hz0, hz1, hz2⟩ := info_parts info_cl_ev
      clear hst hst' hR HRL HLL H1c H2c HB1 HB2 HRO HS hbl
      generalize further (-9223372036854775808) (begun t rs (ls.map fun s => s.data.toList)) = fu at *
      generalize marksE (-9223372036854775808) (begun t rs (ls.map fun s => s.data.toList)) = ms at *
      have HSN := Lib.hid HSNx
      clear HSNx
      go_upto_region 16 with (first | (go_at_call 80; (with_reducible refine HADV.out.mono ?_); intro e ws hY; obtain ⟨l2, r2, rfl, hr2, hM2, hU2⟩ := hY; obtain ⟨av, cv, hre⟩ := hr2.shape; subst hre; have hEs := hev.upd hU2 (fun q h1 h2 => by have h3 := (hog q h1).1; have h4 : q = g := h2; omega); have hss : g + 1 ≤ ws.heap.size := Nat.le_trans hgw hU2.size) | (at_builtin; refine wpList_append_sl _ rfl (.tmp 63) (.tmp 64) 41 41 rfl 67 i0 _ 16 Tryz.underlying41 hi0 hz0 hz1 hz2 rfl rfl hEs (.slice av ms.length cv) ms.length (ms.map evv) rfl (src_sl hr2 Tryz.underlying41 (evv_one _)) (by unfold maxLen; omega) (by omega) hss ?_; intro v9 w9 l1 u1 l3) | fail)
      have hM9 := hM2.upd u1 (fun h => by have := (hog _ h).1; omega) (fun q h1 h2 => (HRR.out.fo q h2).1 h1) (fun v hv p hp h0 h => (hM2.kk v hv p hp h0).2 h)
      have hAz9 := (hAz.upd hU2 (fun h => by have h' : w.heap.size + 1 = g := h; omega)).upd u1 (fun h => by have := (hog _ h).1; omega)
      obtain ⟨-, p0, x0, p1, x1, p2, x2, p3, x3, p4, x4, p5, x5⟩ := hM9.blk.cells6
      obtain ⟨-, q0, y0, q1, y1, q2, y2, q3, y3, q4, y4, q5, y5⟩ := hAz9.cells6
      have hT := Lib.hid (fun x0 x1 x2 x3 x4 x5 => At.all6 hAz9 x0 x1 x2 x3 x4 x5)
      have hUf := Lib.hid (fun x0 x1 x2 x3 x4 x5 => Upd.all6 (Upd.refl (fun b => b = w.heap.size + 1) w9) (g := w.heap.size + 1) (fun _ => rfl) x0 x1 x2 x3 x4 x5)
      have hr2' := Lib.hid hr2
      have hM2' := Lib.hid hM2
      clear hM9 hAz9 hAz hr2 hM2 hEs hev HADV
      go_wp2_with fail
      refine bodyPost_ret (results_at3 (fn := Tryz.f33) rfl _ rfl (hT.out _ _ _ _ _ _) Tryz.underlying70 rfl (by kernel_rfl)) rfl ?_
      rw [HSN.out, HES.out]
      exact MoN.done HRR.out hbw4'.out hg3 hru4'.out hrg HN.out HBL.out.symm hM2'.out hU2 (by rw [List.length_append]) (by rw [List.map_append]) l1 u1 l3 (hUf.out _ _ _ _ _ _)
end Go.Proofs.YtoecikeleoaecaaGreat
