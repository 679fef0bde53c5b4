/- A state of the model, and the document's: they are alike. -/
import Derived.Test.YtoecikeleoaecaaGreatModC
import Derived.Test.YtoecikeleoaecaaGreatSameR
import Derived.Test.YtoecikeleoaecaaGreatKRefT
import Derived.Deep.RegionHeld3
namespace Go.Proofs.YtoecikeleoaecaaGreat
set_option maxRecDepth 4000
open Go.ChangeShapes Go.WideShapes Go.ChangeAt Go.RowKit
open PHist PRing PSat PClamp PBound PFrame PVar PCrc PSign PTree PEv
set_option linter.unusedVariables false
set_option linter.unusedSimpArgs false

theorem alike_out (s : St) (i : Int) (hi : ¬ (0 ≤ i ∧ i < s.ps.length)) : s.refused i = true := by
  unfold St.refused
  rw [decide_eq_true hi]; rfl
set_option maxRecDepth 100000 in
set_option maxHeartbeats 8000000 in
theorem alike_true (ra : Option Addr) (rn rc : Nat) (a a2 : Option Addr) (n c c2 : Nat) (l l2 : List Pv) (s : St) (w : World) (h1 : RowP w a l) (h2 : RowP w a2 l2) (hn : n = s.ps.length) (hl : l.map (·.p) = s.ps) (hl2 : l2.map (·.p) = s.ps) (hok : s.Ok) :
    Calls Tryz.prog 37 #[.agg #[.slice ra rn rc, .int .i64 s.timeout, .int .i64 s.drift, .slice a n c, .int .i64 s.clock, .int .i64 s.now], .agg #[.slice a2 n c2, .int .i64 s.timeout, .int .i64 s.drift, .int .i64 s.clock, .int .i64 s.now]] w fun e w' => e = .returned (.bool true) ∧ Below w.heap.size w w' := by
  have e := fun (w : World) (o : Obj) => (Below.refl w.heap.size w).alloc (Nat.le_refl _) o
  have hA0 := (At.alloc w [.slice ra rn rc, .int .i64 s.timeout, .int .i64 s.drift, .slice a n c, .int .i64 s.clock, .int .i64 s.now] 70).on (e _ (.cells #[.slice a2 n c2, .int .i64 s.timeout, .int .i64 s.drift, .int .i64 s.clock, .int .i64 s.now] 37))
  have hA1 := At.alloc (w.alloc (.cells #[.slice ra rn rc, .int .i64 s.timeout, .int .i64 s.drift, .slice a n c, .int .i64 s.clock, .int .i64 s.now] 70)) [.slice a2 n c2, .int .i64 s.timeout, .int .i64 s.drift, .int .i64 s.clock, .int .i64 s.now] 37
  rw [World.size_alloc] at hA1
  have hb0 : Below w.heap.size w ((w.alloc (.cells #[.slice ra rn rc, .int .i64 s.timeout, .int .i64 s.drift, .slice a n c, .int .i64 s.clock, .int .i64 s.now] 70)).alloc (.cells #[.slice a2 n c2, .int .i64 s.timeout, .int .i64 s.drift, .int .i64 s.clock, .int .i64 s.now] 37)) := on_below (e _ _) (e _ _)
  have h10 := h1.on hb0
  have h20 := h2.on hb0
  have hn8 : n ≤ 8 := by rw [hn]; exact hok.n
  have hln : n = l.length := by rw [hn, ← hl, List.length_map]
  have hln2 : n = l2.length := by rw [hn, ← hl2, List.length_map]
  have HRM := fun wx (hx : RowP wx a l) (i : Int) (o : Bool) (ho : s.refused i = o) => Lib.hid (mo_refused ra rn rc a n c l s i wx hx hln hl hok o ho)
  have HRR := fun wx (hx : RowP wx a2 l2) (i : Int) (o : Bool) (ho : s.refused i = o) => Lib.hid (ref_refused a2 n c2 l2 s i wx hx hln2 hl2 hok o ho)
  have HO1 := Lib.hid (alike_out s (-1) (by omega))
  have HO2 := Lib.hid (alike_out s n (by omega))
  have HL := Lib.hid hl
  have HL2 := Lib.hid hl2
  have HN := Lib.hid hln
  have HN2 := Lib.hid hln2
  have HOK := Lib.hid hok
  clear h1 h2 hl hl2 hln hln2 hn hok
  go_enter Tryz.func37, Tryz.ntmps37
  go_upto_region 1 with fail
  generalize (w.alloc (.cells #[.slice ra rn rc, .int .i64 s.timeout, .int .i64 s.drift, .slice a n c, .int .i64 s.clock, .int .i64 s.now] 70)).alloc (.cells #[.slice a2 n c2, .int .i64 s.timeout, .int .i64 s.drift, .int .i64 s.clock, .int .i64 s.now] 37) = w1 at *
  have HC0 := fun wx (hx : Below w1.heap.size w1 wx) => (hA0.on hx).cells6
  have HC1 := fun wx (hx : Below w1.heap.size w1 wx) => (hA1.on hx).five
  obtain ⟨-, p0, -, p1, -, p2, -, p3, -, p4, -, p5, -⟩ := hA0.cells6
  obtain ⟨-, q0, -, q1, -, q2, -, q3, -, q4, -⟩ := hA1.five
  go_wp2_with fail
  go_loopw [32] (fun i wr => ∃ k : Nat, k ≤ n ∧ i = .int .i64 k ∧ Below w1.heap.size w1 wr) (fun i _ => n - (intOf i).toNat)
  case atStart => exact ⟨0, Nat.zero_le _, rfl, Below.refl _ _⟩
  case round =>
    clear p0 p1 p2 p3 p4 p5 q0 q1 q2 q3 q4
    obtain ⟨k, hk, rfl, hbw⟩ := hrel
    obtain ⟨-, p0, -, p1, -, p2, -, p3, -, p4, -, p5, -⟩ := HC0 _ hbw
    obtain ⟨-, q0, -, q1, -, q2, -, q3, -, q4, -⟩ := HC1 _ hbw
    have hr1 := h10.on hbw
    have hr2 := h20.on hbw
    by_cases hlt : k < n
    · have hkl : k < l.length := by rw [← HN.out]; exact hlt
      have hkl2 : k < l2.length := by rw [← HN2.out]; exact hlt
      obtain ⟨b, off, rfl, -, -⟩ := hr1.row.at_ k hkl
      obtain ⟨b2, off2, rfl, -, -⟩ := hr2.row.at_ k hkl2
      have hkp : k < s.ps.length := by rw [← HL.out, List.length_map]; exact hkl
      have hpk : l[k].p = pat s.ps k := by rw [pat_lt hkp]; simp only [← HL.out, List.getElem_map]
      have hpk2 : l2[k].p = pat s.ps k := by rw [pat_lt hkp]; simp only [← HL2.out, List.getElem_map]
      have hpo : (pat s.ps k).Ok := HOK.out.pt _ (pat_mem hkp)
      have hcell := hr1.cell k hkl
      have hcell2 := fun wx (hx : Below wr.heap.size wr wx) => (hr2.on hx).cell k hkl2
      have hvo := hr1.ok _ (List.getElem_mem hkl)
      have hvo2 := hr2.ok _ (List.getElem_mem hkl2)
      generalize hv1 : l[k] = v at *
      generalize hv2 : l2[k] = v2 at *
      obtain ⟨p, av, cv⟩ := v
      obtain ⟨p', av2, cv2⟩ := v2
      simp only at hpk hpk2
      subst hpk hpk2
      have HM1 := fun wx (h : PvOk wx ⟨pat s.ps k, av, cv⟩) => Lib.hid (mo_mark ⟨pat s.ps k, av, cv⟩ wx h hpo _ rfl)
      have HM2 := fun wx (h : PvOk wx ⟨pat s.ps k, av2, cv2⟩) => Lib.hid (ref_mark ⟨pat s.ps k, av2, cv2⟩ wx h hpo _ rfl)
      have HSA := fun wx (h1 : RowR wx av (pat s.ps k).recs) (h2 : RowR wx av2 (pat s.ps k).recs) => Lib.hid (ref_sameR av av2 cv cv2 (pat s.ps k).recs (pat s.ps k).recs wx h1 h2 true (by simp))
      have HR1 := fun wx (hx : Below wr.heap.size wr wx) => HRM wx (hr1.on hx) k _ rfl
      have HR2 := fun wx (hx : Below wr.heap.size wr wx) => HRR wx (hr2.on hx) k _ rfl
      clear hpo hv1 hv2
      generalize s.refused (k : Int) = o at *
      generalize pat s.ps k = p at *
      obtain ⟨⟨kd, bd, pc, wn, sg⟩, recs, er, rd, is, tl⟩ := p
      simp only [Pv.val] at HM1 HM2 hcell hcell2 HSA hvo hvo2
      generalize (Pt.mark ⟨⟨kd, bd, pc, wn, sg⟩, recs, er, rd, is, tl⟩) = z at *
      obtain ⟨hbb, r0, r1, r2, r3, r4, r5, r6, r7, r8, r9⟩ := hcell
      have hbx := e wr (.cells #[.int .i64 kd, .int .i64 bd, .int .i64 pc, .int .i64 wn, .int .i64 sg, .slice av recs.length cv, .int .i64 er, .int .i64 rd, .int .i64 is, .int .i64 tl] 141)
      have hP := At.alloc wr [.int .i64 kd, .int .i64 bd, .int .i64 pc, .int .i64 wn, .int .i64 sg, .slice av recs.length cv, .int .i64 er, .int .i64 rd, .int .i64 is, .int .i64 tl] 141
      have hkn : (k : Int) < (n : Int) := by omega
      go_upto_region 6 with fail
      clear r0 r1 r2 r3 r4 r5 r6 r7 r8 r9 p0 p1 p2 p3 p4 p5 q0 q1 q2 q3 q4 hbb
      obtain ⟨hbb, r0, r1, r2, r3, r4, r5, r6, r7, r8, r9⟩ := hcell2 _ hbx
      obtain ⟨-, q0, -, q1, -, q2, -, q3, -, q4, -⟩ := HC1 _ (on_below hbw hbx)
      have hbq := e (wr.alloc (.cells #[.int .i64 kd, .int .i64 bd, .int .i64 pc, .int .i64 wn, .int .i64 sg, .slice av recs.length cv, .int .i64 er, .int .i64 rd, .int .i64 is, .int .i64 tl] 141)) (.cells #[.int .i64 kd, .int .i64 bd, .int .i64 pc, .int .i64 wn, .int .i64 sg, .slice av2 recs.length cv2, .int .i64 er, .int .i64 rd, .int .i64 is, .int .i64 tl] 58)
      have hQ := At.alloc (wr.alloc (.cells #[.int .i64 kd, .int .i64 bd, .int .i64 pc, .int .i64 wn, .int .i64 sg, .slice av recs.length cv, .int .i64 er, .int .i64 rd, .int .i64 is, .int .i64 tl] 141)) [.int .i64 kd, .int .i64 bd, .int .i64 pc, .int .i64 wn, .int .i64 sg, .slice av2 recs.length cv2, .int .i64 er, .int .i64 rd, .int .i64 is, .int .i64 tl] 58
      rw [World.size_alloc] at hQ
      have hP3 := hP.on hbq
      have hb3 := on_below hbx hbq
      go_upto_region 7 with fail
      clear r0 r1 r2 r3 r4 r5 r6 r7 r8 r9 q0 q1 q2 q3 q4 hbb hP hbx hbq hcell2
      generalize (wr.alloc (.cells #[.int .i64 kd, .int .i64 bd, .int .i64 pc, .int .i64 wn, .int .i64 sg, .slice av recs.length cv, .int .i64 er, .int .i64 rd, .int .i64 is, .int .i64 tl] 141)).alloc (.cells #[.int .i64 kd, .int .i64 bd, .int .i64 pc, .int .i64 wn, .int .i64 sg, .slice av2 recs.length cv2, .int .i64 er, .int .i64 rd, .int .i64 is, .int .i64 tl] 58) = w3 at *
      have hb3w := on_below hbw hb3
      have HF : ∀ wx, Below w3.heap.size w3 wx → wx.cell? ⟨wr.heap.size, 0, none⟩ = some (.int .i64 kd) ∧ wx.cell? ⟨wr.heap.size, 1, none⟩ = some (.int .i64 bd) ∧ wx.cell? ⟨wr.heap.size, 2, none⟩ = some (.int .i64 pc) ∧ wx.cell? ⟨wr.heap.size, 3, none⟩ = some (.int .i64 wn) ∧ wx.cell? ⟨wr.heap.size, 4, none⟩ = some (.int .i64 sg) ∧ wx.cell? ⟨wr.heap.size, 5, none⟩ = some (.slice av recs.length cv) ∧ wx.cell? ⟨wr.heap.size, 6, none⟩ = some (.int .i64 er) ∧ wx.cell? ⟨wr.heap.size, 7, none⟩ = some (.int .i64 rd) ∧ wx.cell? ⟨wr.heap.size, 8, none⟩ = some (.int .i64 is) ∧ wx.cell? ⟨wr.heap.size, 9, none⟩ = some (.int .i64 tl) ∧ wx.cell? ⟨wr.heap.size + 1, 0, none⟩ = some (.int .i64 kd) ∧ wx.cell? ⟨wr.heap.size + 1, 1, none⟩ = some (.int .i64 bd) ∧ wx.cell? ⟨wr.heap.size + 1, 2, none⟩ = some (.int .i64 pc) ∧ wx.cell? ⟨wr.heap.size + 1, 3, none⟩ = some (.int .i64 wn) ∧ wx.cell? ⟨wr.heap.size + 1, 4, none⟩ = some (.int .i64 sg) ∧ wx.cell? ⟨wr.heap.size + 1, 5, none⟩ = some (.slice av2 recs.length cv2) ∧ wx.cell? ⟨wr.heap.size + 1, 6, none⟩ = some (.int .i64 er) ∧ wx.cell? ⟨wr.heap.size + 1, 7, none⟩ = some (.int .i64 rd) ∧ wx.cell? ⟨wr.heap.size + 1, 8, none⟩ = some (.int .i64 is) ∧ wx.cell? ⟨wr.heap.size + 1, 9, none⟩ = some (.int .i64 tl) ∧ wx.cell? ⟨w.heap.size, 0, none⟩ = some (.slice ra rn rc) ∧ wx.cell? ⟨w.heap.size, 1, none⟩ = some (.int .i64 s.timeout) ∧ wx.cell? ⟨w.heap.size, 2, none⟩ = some (.int .i64 s.drift) ∧ wx.cell? ⟨w.heap.size, 3, none⟩ = some (.slice (some ⟨b, off, none⟩) n c) ∧ wx.cell? ⟨w.heap.size, 4, none⟩ = some (.int .i64 s.clock) ∧ wx.cell? ⟨w.heap.size, 5, none⟩ = some (.int .i64 s.now) ∧ wx.cell? ⟨w.heap.size + 1, 0, none⟩ = some (.slice (some ⟨b2, off2, none⟩) n c2) ∧ wx.cell? ⟨w.heap.size + 1, 1, none⟩ = some (.int .i64 s.timeout) ∧ wx.cell? ⟨w.heap.size + 1, 2, none⟩ = some (.int .i64 s.drift) ∧ wx.cell? ⟨w.heap.size + 1, 3, none⟩ = some (.int .i64 s.clock) ∧ wx.cell? ⟨w.heap.size + 1, 4, none⟩ = some (.int .i64 s.now) := fun wx hx => by
        obtain ⟨-, g0, -, g1, -, g2, -, g3, -, g4, -, g5, -, g6, -, g7, -, g8, -, g9, -⟩ := (hP3.on hx).ten
        obtain ⟨-, k0, -, k1, -, k2, -, k3, -, k4, -, k5, -, k6, -, k7, -, k8, -, k9, -⟩ := (hQ.on hx).ten
        obtain ⟨-, p0, -, p1, -, p2, -, p3, -, p4, -, p5, -⟩ := HC0 _ (on_below hb3w hx)
        obtain ⟨-, q0, -, q1, -, q2, -, q3, -, q4, -⟩ := HC1 _ (on_below hb3w hx)
        exact ⟨g0, g1, g2, g3, g4, g5, g6, g7, g8, g9, k0, k1, k2, k3, k4, k5, k6, k7, k8, k9, p0, p1, p2, p3, p4, p5, q0, q1, q2, q3, q4⟩
      have hbd : Below w3.heap.size w3 w3.drew := (Below.refl _ _).drew
      have HSA3 := fun wx (hx : Below w3.heap.size w3 wx) => HSA wx ((hvo.on (on_below hb3 hx)).row) ((hvo2.on (on_below hb3 hx)).row)
      have HM13 := fun wx (hx : Below w3.heap.size w3 wx) => HM1 wx (hvo.on (on_below hb3 hx))
      have HM23 := fun wx (hx : Below w3.heap.size w3 wx) => HM2 wx (hvo2.on (on_below hb3 hx))
      have HR13 := fun wx (hx : Below w3.heap.size w3 wx) => HR1 wx (on_below hb3 hx)
      have HR23 := fun wx (hx : Below w3.heap.size w3 wx) => HR2 wx (on_below hb3 hx)
      have HB3 := Lib.hid hb3w
      clear HSA HM1 HM2 HR1 HR2 hvo hvo2 hP3 hQ HRM HRR hr1 hr2 HC0 HC1 hb3w hb3 HL HL2 HN HN2 HOK HO1 HO2 hA0 hA1 h10 h20
      go_cut [98] (fun v wx => v = .bool false ∧ Below w3.heap.size w3 wx)
      case first =>
        go_region_held3 (fun wx => wx.cell? ⟨wr.heap.size, 0, none⟩ = some (.int .i64 kd) ∧ wx.cell? ⟨wr.heap.size, 1, none⟩ = some (.int .i64 bd) ∧ wx.cell? ⟨wr.heap.size, 2, none⟩ = some (.int .i64 pc) ∧ wx.cell? ⟨wr.heap.size, 3, none⟩ = some (.int .i64 wn) ∧ wx.cell? ⟨wr.heap.size, 4, none⟩ = some (.int .i64 sg) ∧ wx.cell? ⟨wr.heap.size, 5, none⟩ = some (.slice av recs.length cv) ∧ wx.cell? ⟨wr.heap.size, 6, none⟩ = some (.int .i64 er) ∧ wx.cell? ⟨wr.heap.size, 7, none⟩ = some (.int .i64 rd) ∧ wx.cell? ⟨wr.heap.size, 8, none⟩ = some (.int .i64 is) ∧ wx.cell? ⟨wr.heap.size, 9, none⟩ = some (.int .i64 tl) ∧ wx.cell? ⟨wr.heap.size + 1, 0, none⟩ = some (.int .i64 kd) ∧ wx.cell? ⟨wr.heap.size + 1, 1, none⟩ = some (.int .i64 bd) ∧ wx.cell? ⟨wr.heap.size + 1, 2, none⟩ = some (.int .i64 pc) ∧ wx.cell? ⟨wr.heap.size + 1, 3, none⟩ = some (.int .i64 wn) ∧ wx.cell? ⟨wr.heap.size + 1, 4, none⟩ = some (.int .i64 sg) ∧ wx.cell? ⟨wr.heap.size + 1, 5, none⟩ = some (.slice av2 recs.length cv2) ∧ wx.cell? ⟨wr.heap.size + 1, 6, none⟩ = some (.int .i64 er) ∧ wx.cell? ⟨wr.heap.size + 1, 7, none⟩ = some (.int .i64 rd) ∧ wx.cell? ⟨wr.heap.size + 1, 8, none⟩ = some (.int .i64 is) ∧ wx.cell? ⟨wr.heap.size + 1, 9, none⟩ = some (.int .i64 tl) ∧ wx.cell? ⟨w.heap.size, 0, none⟩ = some (.slice ra rn rc) ∧ wx.cell? ⟨w.heap.size, 1, none⟩ = some (.int .i64 s.timeout) ∧ wx.cell? ⟨w.heap.size, 2, none⟩ = some (.int .i64 s.drift) ∧ wx.cell? ⟨w.heap.size, 3, none⟩ = some (.slice (some ⟨b, off, none⟩) n c) ∧ wx.cell? ⟨w.heap.size, 4, none⟩ = some (.int .i64 s.clock) ∧ wx.cell? ⟨w.heap.size, 5, none⟩ = some (.int .i64 s.now) ∧ wx.cell? ⟨w.heap.size + 1, 0, none⟩ = some (.slice (some ⟨b2, off2, none⟩) n c2) ∧ wx.cell? ⟨w.heap.size + 1, 1, none⟩ = some (.int .i64 s.timeout) ∧ wx.cell? ⟨w.heap.size + 1, 2, none⟩ = some (.int .i64 s.drift) ∧ wx.cell? ⟨w.heap.size + 1, 3, none⟩ = some (.int .i64 s.clock) ∧ wx.cell? ⟨w.heap.size + 1, 4, none⟩ = some (.int .i64 s.now))
          (first | (with_reducible exact HF _ (Below.refl _ _)) | (with_reducible exact HF _ hbd) | (with_reducible exact HF _ hx4) | (with_reducible exact HF _ hx5) | (with_reducible exact HF _ hx6) | (with_reducible exact HF _ hx7) | (with_reducible exact HF _ hx8) | fail)
          (first | (go_at_call 83; (with_reducible refine (HSA3 _ hbd).out.mono ?_); rintro e4 w4 ⟨rfl, hq4⟩; have hx4 := on_below hbd (on_quiet hq4); clear hq4) | (go_at_call 84; (with_reducible refine (HM13 _ hx4).out.mono ?_); rintro e5 w5 ⟨rfl, hb5⟩; have hx5 := on_below hx4 hb5) | (go_at_call 28; (with_reducible refine (HM23 _ hx5).out.mono ?_); rintro e6 w6 ⟨rfl, hb6⟩; have hx6 := on_below hx5 hb6) | (go_at_call 85; (with_reducible refine (HR13 _ hx6).out.mono ?_); rintro e7 w7 ⟨rfl, hb7⟩; have hx7 := on_below hx6 hb7) | (go_at_call 30; (with_reducible refine (HR23 _ hx7).out.mono ?_); rintro e8 w8 ⟨rfl, hb8⟩; have hx8 := on_below hx7 hb8) | fail)
        all_goals (go_wp2_with fail; go_meet)
        all_goals exact ⟨rfl, hx8⟩
      case rest =>
        obtain ⟨rfl, hbc⟩ := hcut
        have HBC := Lib.hid hbc
        clear hbc HF HSA3 HM13 HM23 HR13 HR23 hbd
        go_wp2_with fail
        go_roundw
        case rel => exact ⟨k + 1, by omega, by go_num, on_below HB3.out HBC.out⟩
        case measure => simp [intOf] <;> omega
    · obtain rfl : k = n := by omega
      have HR1 := HRM wr hr1 (-1) true HO1.out
      have HR2 := fun wx (hx : Below wr.heap.size wr wx) => HRM wx (hr1.on hx) k true HO2.out
      have HC := fun wx (hx : Below wr.heap.size wr wx) => HC0 wx (on_below hbw hx)
      have HB := Lib.hid (on_below hb0 hbw)
      clear hr1 hr2 HRM HRR hbw
      go_wp2_with (first | (go_at_call 85; (with_reducible refine HR1.out.mono ?_); rintro e4 w4 ⟨rfl, hb4⟩; have HR4 := HR2 _ hb4; obtain ⟨-, u0, -, u1, -, u2, -, u3, -, u4, -, u5, -⟩ := HC _ hb4) | (go_at_call 85; (with_reducible refine HR4.out.mono ?_); rintro e5 w5 ⟨rfl, hb5⟩) | fail)
      go_ret
      exact ⟨rfl, on_below HB.out (on_below hb4 hb5)⟩
end Go.Proofs.YtoecikeleoaecaaGreat
