/- The walk of WholeTurned. -/
import Derived.Test.YtoecikeleoaecaaGreatKTop
import Derived.Deep.RegionHeld3
namespace Go.Proofs.YtoecikeleoaecaaGreat
set_option maxRecDepth 4000
open Go.ChangeShapes Go.WideShapes Go.ChangeAt Go.RowKit
open PHist PRing PSat PClamp PBound PFrame PVar PCrc PSign PTree PEv
set_option linter.unusedVariables false
set_option linter.unusedSimpArgs false

set_option maxRecDepth 100000 in
set_option maxHeartbeats 4000000 in
theorem walk_WholeTurned (w : World) (c0 : Array Value) (d0 : (((List (Int × Int × Int × Int × Int × Unit)) × Int × Int × Unit) × (List ByteArray) × (List (Bool × Int × Unit)) × Unit)) (w0 : Rd w (.pair (.pair (.sl (.pair (.int .i64) (.pair (.int .i64) (.pair (.int .i64) (.pair (.int .i64) (.pair (.int .i64) .unit)))))) (.pair (.int .i64) (.pair (.int .i64) .unit))) (.pair (.sl .str) (.pair (.sl (.pair .bool (.pair (.int .i64) .unit))) .unit))) c0.toList d0) :
    Calls Tryz.prog 10 #[.agg c0] w fun e w' => e = .returned (.bool true) ∧ Below w.heap.size w w' := by
  obtain ⟨a, n, c, t, dr, b, m, c2, q, nq, c3, rs, ls, cs, rfl, hC⟩ := Rd.case w0
  clear w0
  have hbx : Below w.heap.size w (w.alloc (.cells #[.slice a n c, .int .i64 t, .int .i64 dr, .slice b m c2, .slice q nq c3] 28)) := (Below.refl _ _).alloc (Nat.le_refl _) _
  have hA0 := At.alloc w [.slice a n c, .int .i64 t, .int .i64 dr, .slice b m c2, .slice q nq c3] 28
  have hC0 := hC.on hbx
  have hsz : w.heap.size < (w.alloc (.cells #[.slice a n c, .int .i64 t, .int .i64 dr, .slice b m c2, .slice q nq c3] 28)).heap.size := hA0.1
  clear hC
  have HSP := fun wx => Lib.hid (none12 wx)
  go_enter Tryz.func10, Tryz.ntmps10
  go_wp2_with fail
  generalize w.alloc (.cells #[.slice a n c, .int .i64 t, .int .i64 dr, .slice b m c2, .slice q nq c3] 28) = w0 at *
  have HSM := fun wx (hx : Below w0.heap.size w0 wx) => Lib.hid (law_small a n c t dr b m c2 q nq c3 ls wx (hC0.on hx).hlo hC0.hm (fun s hs => hC0.hsl s hs))
  have HA := fun wx (hx : Below w0.heap.size w0 wx) => At.five (hA0.below hx hsz)
  go_wp2_with (go_at_call 38; (with_reducible refine (HSP _).out.mono ?_); rintro e w1 ⟨rfl, hb1⟩; obtain ⟨-, x0, -, x1, -, x2, -, x3, -, x4, -⟩ := HA _ hb1)
  go_at_call 13
  refine (HSM _ hb1).out.mono ?_
  intro e w2 hS
  obtain ⟨z, rfl, hz, hb2'⟩ := hS
  have hb2 := on_below hb1 hb2'
  obtain ⟨-, y0, -, y1, -, y2, -, y3, -, y4, -⟩ := HA _ hb2
  rcases hz with rfl | ⟨rfl, hSm⟩
  · go_wp2
    go_ret
    exact ⟨rfl, on_below hbx hb2⟩
  have HCR := fun wx (hx : Below w0.heap.size w0 wx) => Lib.hid (cl_rules rs a n c wx (hC0.hru.below hx) hC0.hn (by have := hSm.2.2.1; omega))
  have HCL := fun wx (hx : Below w0.heap.size w0 wx) => Lib.hid (cl_logs ls b m c2 wx (hC0.hlo.below hx) hC0.hm (by have := hSm.1; omega))
  have hbd := on_below hb2 (Below.refl _ _).drew
  have hbA : Below w0.heap.size w0 (w2.alloc (.cells #[.slice none 0 0, .int .i64 0, .int .i64 0, .slice none 0 0, .slice none 0 0] 28)).drew := (hb2.alloc hb2.size _).drew
  have hZA : At (w2.alloc (.cells #[.slice none 0 0, .int .i64 0, .int .i64 0, .slice none 0 0, .slice none 0 0] 28)).drew w2.heap.size [.slice none 0 0, .int .i64 0, .int .i64 0, .slice none 0 0, .slice none 0 0] := (At.alloc w2 _ _).drew
  have hC3 := Lib.hid hC0
  have HBX := Lib.hid hbx
  have HSS := Lib.hid hSm
  clear x0 x1 x2 x3 x4 hb2' HSP HSM hC0 hbx hSm
  have HF := fun wx (hx : Below w0.heap.size w0 wx) => (show wx.cell? ⟨w.heap.size, 0, none⟩ = some (.slice a n c) ∧ wx.cell? ⟨w.heap.size, 1, none⟩ = some (.int .i64 t) ∧ wx.cell? ⟨w.heap.size, 2, none⟩ = some (.int .i64 dr) ∧ wx.cell? ⟨w.heap.size, 3, none⟩ = some (.slice b m c2) ∧ wx.cell? ⟨w.heap.size, 4, none⟩ = some (.slice q nq c3) from by obtain ⟨-, g0, -, g1, -, g2, -, g3, -, g4, -⟩ := HA wx hx; exact ⟨g0, g1, g2, g3, g4⟩)
  go_upto_region 5 with fail
  go_cut [3] (fun v wx => TopAt w0 n m t dr rs ls v wx)
  case first =>
    go_region_held3 (fun wx => wx.cell? ⟨w.heap.size, 0, none⟩ = some (.slice a n c) ∧ wx.cell? ⟨w.heap.size, 1, none⟩ = some (.int .i64 t) ∧ wx.cell? ⟨w.heap.size, 2, none⟩ = some (.int .i64 dr) ∧ wx.cell? ⟨w.heap.size, 3, none⟩ = some (.slice b m c2) ∧ wx.cell? ⟨w.heap.size, 4, none⟩ = some (.slice q nq c3))
      (first | (with_reducible exact HF _ hb2) | (with_reducible exact HF _ hbd) | (with_reducible exact HF _ hbA) | (with_reducible exact HF _ hBr) | (with_reducible exact HF _ hBl) | (with_reducible refine HF _ ?_; with_reducible (repeat' (first | exact hbd | exact hbA | exact hBr | exact hBl | refine Below.setCell ?_ ?_ _ | refine Below.alloc ?_ ?_ _)); all_goals (first | exact hb2.size | exact hbd.size | exact hBr.size | exact hBl.size | exact hbA.size)) | fail)
      (first | (go_at_call 39; first | ((with_reducible refine (HCR _ hbd).out.mono ?_); intro e wr hY; obtain ⟨vr, rfl, hvr, hbr⟩ := hY; obtain ⟨ar, cr, hsar⟩ := hvr.shape; subst hsar; have hBr := on_below hbd hbr) | ((with_reducible refine (HCR _ hbA).out.mono ?_); intro e wr hY; obtain ⟨vr, rfl, hvr, hbr⟩ := hY; obtain ⟨ar, cr, hsar⟩ := hvr.shape; subst hsar; have hBr := on_below hbA hbr; have hZr := hZA.on hbr; obtain ⟨-, z0r, y0r, z1r, y1r, z2r, y2r, z3r, y3r, z4r, y4r⟩ := hZr.five) | ((with_reducible refine (HCR _ hBl).out.mono ?_); intro e wr hY; obtain ⟨vr, rfl, hvr, hbr⟩ := hY; obtain ⟨ar, cr, hsar⟩ := hvr.shape; subst hsar; have hBr := on_below hBl hbr; have hvl' := hvl.onW hbr; try (have hZr := hZl.on hbr; obtain ⟨-, z0r, y0r, z1r, y1r, z2r, y2r, z3r, y3r, z4r, y4r⟩ := hZr.five)) | ((with_reducible refine (HCR _ (hBl.alloc hBl.size _)).out.mono ?_); intro e wr hY; obtain ⟨vr, rfl, hvr, hbr⟩ := hY; obtain ⟨ar, cr, hsar⟩ := hvr.shape; subst hsar; have hBr := on_below (hBl.alloc hBl.size _) hbr; have hvl' := (hvl.onW ((Below.refl wl.heap.size wl).alloc (Nat.le_refl _) _)).onW hbr; have hZr := (At.alloc wl [.slice none 0 0, .int .i64 0, .int .i64 0, .slice none 0 0, .slice none 0 0] 28).on hbr; obtain ⟨-, z0r, y0r, z1r, y1r, z2r, y2r, z3r, y3r, z4r, y4r⟩ := hZr.five)) | (go_at_call 40; first | ((with_reducible refine (HCL _ hbd).out.mono ?_); intro e wl hY; obtain ⟨vl, rfl, hvl, hbl⟩ := hY; obtain ⟨al, cl, hsal⟩ := hvl.shape; subst hsal; have hBl := on_below hbd hbl) | ((with_reducible refine (HCL _ hbA).out.mono ?_); intro e wl hY; obtain ⟨vl, rfl, hvl, hbl⟩ := hY; obtain ⟨al, cl, hsal⟩ := hvl.shape; subst hsal; have hBl := on_below hbA hbl; have hZl := hZA.on hbl; obtain ⟨-, z0l, y0l, z1l, y1l, z2l, y2l, z3l, y3l, z4l, y4l⟩ := hZl.five) | ((with_reducible refine (HCL _ hBr).out.mono ?_); intro e wl hY; obtain ⟨vl, rfl, hvl, hbl⟩ := hY; obtain ⟨al, cl, hsal⟩ := hvl.shape; subst hsal; have hBl := on_below hBr hbl; have hvr' := hvr.onW hbl; try (have hZl := hZr.on hbl; obtain ⟨-, z0l, y0l, z1l, y1l, z2l, y2l, z3l, y3l, z4l, y4l⟩ := hZl.five)) | ((with_reducible refine (HCL _ (hBr.alloc hBr.size _)).out.mono ?_); intro e wl hY; obtain ⟨vl, rfl, hvl, hbl⟩ := hY; obtain ⟨al, cl, hsal⟩ := hvl.shape; subst hsal; have hBl := on_below (hBr.alloc hBr.size _) hbl; have hvr' := (hvr.onW ((Below.refl wr.heap.size wr).alloc (Nat.le_refl _) _)).onW hbl; have hZl := (At.alloc wr [.slice none 0 0, .int .i64 0, .int .i64 0, .slice none 0 0, .slice none 0 0] 28).on hbl; obtain ⟨-, z0l, y0l, z1l, y1l, z2l, y2l, z3l, y3l, z4l, y4l⟩ := hZl.five)) | fail)
    all_goals (go_wp2_with fail; go_meet)
    all_goals have hs2 := hb2.size
    all_goals have hsr := hBr.size
    · exact topAt_of _ hvr' hvl hbd.size hsr (fun k hk e => by have := (hvl.lt k hk).1; have := (hvr.lt k e).2; omega) hBl
    · exact topAt_set hZl hvr' hvl hbd.size (Nat.le_trans hsr (by simp)) hsr (fun k hk => by have := (hvr.lt k hk).2; omega) (fun k hk => by have h := (hvl.lt k hk).1; simp at h; omega) (fun k hk e => by have h := (hvl.lt k hk).1; simp at h; have := (hvr.lt k e).2; omega) hBl
    · exact topAt_set hZl hvr' hvl hbA.size hsr hs2 (fun k hk => by have h := (hvr.lt k hk).1; simp at h; omega) (fun k hk => by have h := (hvl.lt k hk).1; have h2 := hbr.size; simp at h2; omega) (fun k hk e => by have h := (hvl.lt k hk).1; have := (hvr.lt k e).2; omega) hBl
  case rest =>
    obtain ⟨g, a5, c5, b5, c6, rfl, hA5, hR5, hL5, hg5, k1, k2, hbc⟩ := hcut
    obtain ⟨a6, c6', he6, HRV⟩ := ru_reverse _ n rs wc hR5 hC3.out.hn (by have := HSS.out.2.2.1; omega)
    cases he6
    have hSR := Lib.hid (fun (wx : World) (h : Sl w0.heap.size wx 1 (.slice b5 m c6) m (sv ls)) => str_reverse _ m ls wx h hC3.out.hm (by have := HSS.out.1; omega))
    obtain ⟨-, t0, -, t1, -, t2, -, t3, -, t4, -⟩ := hA5.five
    have HRV' := Lib.hid HRV
    clear HRV HCR HCL hbd hbA hZA
    go_upto_region 7 with (go_at_call 41; (with_reducible refine HRV'.out.mono ?_); rintro e w6 ⟨rfl, hru6, hu6⟩; have hA6 := hA5.upd hu6 (fun h => k1 _ h rfl); have hL6 := hL5.upd hu6 (fun k hk h => (k2 k hk).2 h); have hb6 := hbc.upd hu6 hbc.size (fun i _ h => (hR5.lt i h).1); obtain ⟨-, v0, -, v1, -, v2, -, v3, -, v4, -⟩ := hA6.five)
    obtain ⟨a7, c7, he7, HRS⟩ := hSR.out w6 hL6
    cases he7
    have HRS' := Lib.hid HRS
    clear HRS
    go_upto_region 8 with (go_at_call 42; (with_reducible refine HRS'.out.mono ?_); rintro e w7 ⟨rfl, hls7, hu7⟩; have hA7 := hA6.upd hu7 (fun h => (k2 _ h).1 rfl); have hru7 : RowU w7 a5 rs.reverse := RowG.upd hru6 hu7 (fun p hp h => (k2 p.block h).2 (by rw [hp]; rfl)); have hb7 := hb6.upd hu7 hb6.size (fun i _ h => (hL6.lt i h).1); obtain ⟨-, p0, -, p1, -, p2, -, p3, -, p4, -⟩ := HA _ hb7)
    have HB7 := Lib.hid hb7
    have hlm : (ls.map fun s => s.data.toList).length = m := by rw [List.length_map]; exact hC3.out.hm.symm
    clear hu6 hu7 hru6 hL6 hA6 hR5 hL5 hb6 hbc t0 t1 t2 t3 t4 v0 v1 v2 v3 v4 k1 k2 hA5 hg5 HF HRS' HRV' hSR
    by_cases hz : nerr rs t dr m = 0
    · have hmn := (nerr_zero hz).2
      have HN1 := Lib.hid (case_new rs t dr ls a n c b m c2 w7 w7 (Below.refl _ _) (hC3.out.hru.below hb7) (hC3.out.hlo.below hb7) hC3.out.hn hC3.out.hm hz HSS.out.1 hC3.out.hfit hC3.out.ht hC3.out.hd HSS.out.2.2.2)
      have HN2 := fun w8 (hx : Below w7.heap.size w7 w8) => Lib.hid (case_new rs.reverse t dr ls.reverse a5 n c5 b5 m c6 w8 w8 (Below.refl _ _) (hru7.below hx) (hls7.below hx) (by rw [List.length_reverse]; exact hC3.out.hn) (by rw [List.length_reverse]; exact hC3.out.hm) (nerr_rev.2 hz) HSS.out.1 (fun r hr => hC3.out.hfit r (List.mem_reverse.1 hr)) hC3.out.ht hC3.out.hd (fun s hs => HSS.out.2.2.2 s (List.mem_reverse.1 hs)))
      have hll : (ls.map fun s => s.data.toList).length = rs.length := by rw [hlm]; exact hmn
      have hel := newE_len t rs (ls.map fun s => s.data.toList)
      have hps : (St.new t dr rs (ls.map fun s => s.data.toList)).ps.length = m := new_plen hC3.out.hm hz
      have hE1 := newE_rev (t := t) hll
      have hE2 := elast_rev (t := t) hll
      rw [List.map_reverse, new_rev hll] at HN2
      rw [← List.map_reverse] at HN2 hE1 hE2
      generalize St.new t dr rs (ls.map fun s => s.data.toList) = s0 at *
      generalize St.newE t rs (ls.map fun s => s.data.toList) = l0 at *
      generalize St.newE t rs.reverse (ls.reverse.map fun s => s.data.toList) = l9 at *
      have HL9 : Hid (l0.length ≤ 9) := by show l0.length ≤ 9; have := HSS.out.1; omega
      have HQ := Lib.hid hC3.out.hnq
      have HCI := Lib.hid hC3.out.hci
      have HCH := Lib.hid (hC3.out.hch.below hb7)
      have HM8 : Hid (m ≤ 8) := HSS.out.1
      have hnq120 : nq ≤ 120 := HSS.out.2.1
      have HPS := Lib.hid hps
      have hE1' := Lib.hid hE1
      have HE2 := Lib.hid hE2
      clear hz hmn hll hel hlm hE1 hE2 hps HSS hru7 hls7 hC3
      go_upto_region 12 with (first | (go_at_call 14; (with_reducible refine HN1.out.mono ?_); intro e w8 hY; obtain ⟨tag1, W1, ev1, V1, ga, rfl, hI1, hb8⟩ := hY; have HN3 := HN2 w8 hb8; obtain ⟨-, q0, -, q1, -, q2, -, q3, -, q4, -⟩ := (hA7.on hb8).five) | (go_at_call 14; (with_reducible refine HN3.out.mono ?_); intro e w9 hY; obtain ⟨tag2, W2, ev2, V2, gb, rfl, hI2, hb9⟩ := hY) | fail)
      have hb79 := on_below hb8 hb9
      have hDuo := Duo.of_new hI1 hI2
      have hL9 : l9.length ≤ 100000 := by rw [hE1'.out]; have := HL9.out; omega
      have hL0 : l0.length ≤ 100000 := by have := HL9.out; omega
      have HBA := fun wx (hx : Below w9.heap.size w9 wx) => Lib.hid (((hI1.on hb9).on hx).begins hL0 l0.length rfl)
      have HBB := fun wx (hx : Below w9.heap.size w9 wx) => Lib.hid ((hI2.on hx).begins hL9 l0.length hE1'.out.symm)
      obtain ⟨L, hLL⟩ : ∃ L, l0.length = L := ⟨_, rfl⟩
      rw [hLL] at hE1' HL9
      rw [hLL] at hL0 HBA HBB
      rw [hE1'.out, hLL] at hDuo
      have HX0 := Below.refl w9.heap.size w9
      obtain ⟨-, r0, -, r1, -, r2, -, r3, -, r4, -⟩ := HA _ (on_below HB7.out hb79)
      have HAQ := fun wx (hx : Below w9.heap.size w9 wx) => HA _ (on_below (on_below HB7.out hb79) hx)
      have HAW := fun wx (hx : Below w7.heap.size w7 wx) => HA _ (on_below HB7.out hx)
      clear HN1 HN2 HN3 HA hI1 hI2 q0 q1 q2 q3 q4 p0 p1 p2 p3 p4 y0 y1 y2 y3 y4 hA7 hb8 hb9
      have HLN : Hid (l9.length = L) := hE1'
      have hLL2 := Lib.hid hLL
      clear hLL
      go_upto_region 15 with (first | (go_at_call 19; first | ((with_reducible refine (HBA _ HX0).out.mono ?_); intro e wa hY; obtain ⟨va, rfl, hva, hba⟩ := hY; obtain ⟨aa, ca, hsa⟩ := hva.shape; subst hsa; have hXa := on_below HX0 hba) | ((with_reducible refine (HBB _ hXa).out.mono ?_); intro e wb hY; obtain ⟨vb, rfl, hvb, hbb⟩ := hY; obtain ⟨ab, cb, hsb⟩ := hvb.shape; subst hsb; have hXb := on_below hXa hbb) | ((with_reducible refine (HBA _ hXb).out.mono ?_); intro e wd hY; obtain ⟨vd, rfl, hvd, hbd⟩ := hY; obtain ⟨ad, cd, hsd⟩ := hvd.shape; subst hsd; have hXd := on_below hXb hbd; have HLd := Lib.hid (last_of hvd hLL2.out hL0 _ rfl)) | ((with_reducible refine (HBB _ hXe).out.mono ?_); intro e wf hY; obtain ⟨vf, rfl, hvf, hbf⟩ := hY; obtain ⟨af, cf, hsf⟩ := hvf.shape; subst hsf; have hXf := on_below hXe hbf; have HLf := Lib.hid (last_of hvf HLN.out hL0 _ HE2.out))) | (go_at_call 43; first | ((with_reducible refine HLd.out.mono ?_); rintro e we ⟨rfl, hbe⟩; have hXe := on_below hXd hbe) | ((with_reducible refine HLf.out.mono ?_); rintro e wg ⟨rfl, hbg⟩; have hXg := on_below hXf hbg; obtain ⟨-, s0', -, s1', -, s2', -, s3', -, s4', -⟩ := HAQ _ hXg)) | fail)
      have hDg := hDuo.on hXg
      have HAG := fun wx (hx : Below w7.heap.size w7 wx) => (show wx.cell? ⟨w.heap.size, 4, none⟩ = some (.slice q nq c3) from by obtain ⟨-, -, -, -, -, -, -, -, -, g4, -⟩ := HAW wx hx; exact g4)
      have HBZ := Lib.hid (on_below HBX.out HB7.out)
      clear hXa hXb hXd hXe hXf hva hvb hvd hvf hba hbb hbd hbe hbf hbg HLd HLf HBA HBB HX0 hDuo r0 r1 r2 r3 r4 HAQ hb79 s0' s1' s2' s3' hXg HAW
      go_wp2_with fail
      go_loopw [91] (fun i wr => ∃ k : Nat, k ≤ nq ∧ i = .int .i64 k ∧ (s0.run (cs.take k)).ps.length = m ∧ Duo w7 (fun _ => False) V1 ga V2 gb wr (s0.run (cs.take k)) (s0.run (cs.take k)).rev (9 + 40 * k) (9 + 40 * k)) (fun i _ => nq - (intOf i).toNat)
      case atStart => exact ⟨0, Nat.zero_le _, rfl, HPS.out, hDg.le HL9.out HL9.out⟩
      case round =>
        clear hDg
        obtain ⟨k, hk, rfl, hps, hD⟩ := hrel
        by_cases hlt : k < nq
        · have hkc : k < cs.length := by rw [← HQ.out]; exact hlt
          have hrow := HCH.out.below hD.below
          obtain ⟨bq, offq, hq', -, -⟩ := hrow.at_ k hkc
          subst hq'
          obtain ⟨hbq, r0, r1⟩ := RowC.cells hrow k hkc
          have hin := HCI.out _ (List.getElem_mem hkc)
          have hS1 := run_take s0 cs k hkc
          generalize hck : cs[k] = x at *
          have HCK := Lib.hid hck
          clear hck hrow
          obtain ⟨ct, cn⟩ := x
          simp only at r0 r1 hin
          have HS1 : Hid (s0.run (cs.take (k + 1)) = (s0.run (cs.take k)).doS (ct, cn)) := hS1
          clear hS1
          generalize s0.run (cs.take k) = s5 at *
          have HWR := Lib.hid hD.below.size
          have hDf := hD.fresh
          clear hD
          have e := fun (w : World) (o : Obj) => (Below.refl w.heap.size w).alloc (Nat.le_refl _) o
          have hX1 := (At.alloc wr [.bool ct, .int .i64 cn] 48).on (e _ (.cells #[.bool ct, .int .i64 cn] 48))
          have hY1 := At.alloc (wr.alloc (.cells #[.bool ct, .int .i64 cn] 48)) [.bool ct, .int .i64 cn] 48
          rw [World.size_alloc] at hY1
          have hDB := (hDf.on (e _ (.cells #[.bool ct, .int .i64 cn] 48))).on (e _ (.cells #[.bool ct, .int .i64 cn] 48))
          clear hDf
          go_upto_region 19 with fail
          clear r0 r1 hbq
          generalize (wr.alloc (.cells #[.bool ct, .int .i64 cn] 48)).alloc (.cells #[.bool ct, .int .i64 cn] 48) = wB at *
          obtain ⟨-, c0, z0, c1, z1⟩ := hX1.two
          obtain ⟨-, d0, o0, d1, o1⟩ := hY1.two
          have hmz : (m : Int) ≤ 8 := by have := HM8.out; omega
          have hm8 : m ≤ 8 := HM8.out
          have hw7 := hDB.below.size
          have hU := fun (v : Value) => ((Upd.refl (fun b => False ∨ wr.heap.size ≤ b) wB).setCell (p := ⟨wr.heap.size + 1, 1, none⟩) (fun _ => Or.inr (Nat.le_succ _)) v)
          have hU2 := fun (v v2 : Value) => (hU v).setCell (p := ⟨wr.heap.size + 1, 1, none⟩) (fun _ => Or.inr (Nat.le_succ _)) v2
          have h7r : ∀ b, (False ∨ wr.heap.size ≤ b) → w7.heap.size ≤ b := fun b hb => hb.elim (fun h => h.elim) (fun h => Nat.le_trans HWR.out h)
          clear hw7
          go_upto_if 98 with fail
          go_cut [] (fun wx => ∃ yt yn, (yt, yn) = turnC m (ct, cn) ∧ At wx wr.heap.size [.bool ct, .int .i64 cn] ∧ At wx (wr.heap.size + 1) [.bool yt, .int .i64 yn] ∧ Duo w7 (fun b => False ∨ wr.heap.size ≤ b) V1 ga V2 gb wx s5 s5.rev (9 + 40 * k) (9 + 40 * k))
          case first =>
            have HX1 := Lib.hid hX1
            have HY1 := Lib.hid hY1
            have HDB := Lib.hid hDB
            clear hX1 hY1 hDB
            have zz1 : IntKind.i64.wrap ((m : Int) - 1) = (m : Int) - 1 := IntWalk.i64_in _ (by omega)
            cases ct
            · by_cases h0 : cn < 0
              · obtain ⟨zz, hzz⟩ : ∃ zz, IntKind.i64.wrap ((m : Int) - 1 - cn) = zz := ⟨_, rfl⟩
                go_wp2_with fail
                go_meet
                exact ⟨false, -1, by unfold turnC; simp; intro h; omega, (HX1.out.set_other (p := ⟨wr.heap.size + 1, 1, none⟩) (by simp) _).set_other (p := ⟨wr.heap.size + 1, 1, none⟩) (by simp) _, (HY1.out.set 1 (by simp) _).set 1 (by simp) (.int .i64 (-1)), HDB.out.upd (hU2 _ _) h7r⟩
              · by_cases h1 : (m : Int) ≤ cn
                · obtain ⟨zz, hzz⟩ : ∃ zz, IntKind.i64.wrap ((m : Int) - 1 - cn) = zz := ⟨_, rfl⟩
                  go_wp2_with fail
                  go_meet
                  exact ⟨false, -1, by unfold turnC; simp; intro h h2; omega, (HX1.out.set_other (p := ⟨wr.heap.size + 1, 1, none⟩) (by simp) _).set_other (p := ⟨wr.heap.size + 1, 1, none⟩) (by simp) _, (HY1.out.set 1 (by simp) _).set 1 (by simp) (.int .i64 (-1)), HDB.out.upd (hU2 _ _) h7r⟩
                · have zz2 : IntKind.i64.wrap ((m : Int) - 1 - cn) = (m : Int) - 1 - cn := IntWalk.i64_in _ (by omega)
                  go_wp2_with fail
                  go_meet
                  exact ⟨false, (m : Int) - 1 - cn, by unfold turnC; simp; intro h; omega, HX1.out.set_other (p := ⟨wr.heap.size + 1, 1, none⟩) (by simp) _, HY1.out.set 1 (by simp) (.int .i64 ((m : Int) - 1 - cn)), HDB.out.upd (hU _) h7r⟩
            · go_wp2_with fail
              go_meet
              exact ⟨true, cn, rfl, HX1.out, HY1.out, HDB.out⟩
          case rest =>
            obtain ⟨yt, yn, hy, hX2, hY3, hDc⟩ := hcut
            clear c0 z0 c1 z1 d0 o0 d1 o1 hX1 hY1 hDB hU hU2
            have hyin : in64 yn := by have := turnC_64 (x := (ct, cn)) hm8 hin; rw [← hy] at this; exact this
            have hwr := hX2.1
            have hDR : Below wc.heap.size wc wc.drew := (Below.refl _ _).drew
            have HD1 := Lib.hid ((hDc.on hDR).one (fun b hb => Or.inr (Nat.le_trans (Nat.le_of_lt hwr) hb)) (ct, cn) hin (by omega))
            have hXd := hX2.drew
            have hYd := hY3.drew
            have HF2 := fun wx (hx : At wx wr.heap.size [.bool ct, .int .i64 cn]) (hy : At wx (wr.heap.size + 1) [.bool yt, .int .i64 yn]) => (show wx.cell? ⟨wr.heap.size, 0, none⟩ = some (.bool ct) ∧ wx.cell? ⟨wr.heap.size, 1, none⟩ = some (.int .i64 cn) ∧ wx.cell? ⟨wr.heap.size + 1, 0, none⟩ = some (.bool yt) ∧ wx.cell? ⟨wr.heap.size + 1, 1, none⟩ = some (.int .i64 yn) from by obtain ⟨-, g0, -, g1, -⟩ := hx.two; obtain ⟨-, g2, -, g3, -⟩ := hy.two; exact ⟨g0, g1, g2, g3⟩)
            have hk120 : 9 + 40 * k ≤ 90000 := by omega
            have hna : 9 + 40 * k + 20 ≤ 9 + 40 * (k + 1) := by omega
            go_upto_region 23 with fail
            go_cut [12, 13] (fun v12 v13 wx => Did w7 V1 ga V2 gb s5 (ct, cn) m (9 + 40 * (k + 1)) v12 v13 wx)
            case first =>
              go_region_held3 (fun wx => wx.cell? ⟨wr.heap.size, 0, none⟩ = some (.bool ct) ∧ wx.cell? ⟨wr.heap.size, 1, none⟩ = some (.int .i64 cn) ∧ wx.cell? ⟨wr.heap.size + 1, 0, none⟩ = some (.bool yt) ∧ wx.cell? ⟨wr.heap.size + 1, 1, none⟩ = some (.int .i64 yn))
                (first | (with_reducible exact HF2 _ hX2 hY3) | (with_reducible exact HF2 _ hXd hYd) | (with_reducible exact HF2 _ hX13 hY13) | (with_reducible exact HF2 _ hX14 hY14) | fail)
                (first | (go_at_call 21; (with_reducible refine HD1.out.mono ?_); intro e w13 hY; obtain ⟨v13, rfl, hv13, hD13, hu13⟩ := hY; have hX13 := hXd.upd hu13 (fun h => h (Or.inr (Nat.le_refl _))); have hY13 := hYd.upd hu13 (fun h => h (Or.inr (Nat.le_succ _))); have HD2 := Lib.hid (second_do (na := 9 + 40 * (k + 1)) hps hy hyin hD13 hv13 (fun k hk => Or.inr hk) hk120 hna hna)) | (go_at_call 21; (with_reducible refine HD2.out.mono ?_); intro e w14 hY; obtain ⟨v14, rfl, hD14, hu14⟩ := hY; have hX14 := hX13.upd hu14 (fun h => h (Or.inl (Or.inl ⟨Or.inr (Nat.le_refl _), hX2.1⟩))); have hY14 := hY13.upd hu14 (fun h => h (Or.inl (Or.inl ⟨Or.inr (Nat.le_succ _), hY3.1⟩)))) | fail)
              all_goals (go_wp2_with fail; go_meet)
              all_goals exact hD14
            case rest =>
              obtain ⟨a12, c12, a13, c13, rfl, rfl, hr12, hr13, hDe⟩ := hcut
              have HIN := doE_in s5 (ct, cn)
              rw [hps] at HIN
              have hps6 : (s5.doS (ct, cn)).ps.length = m := by rw [doS_len]; exact hps
              obtain ⟨E, hE⟩ : ∃ E, E = s5.doE (ct, cn) := ⟨_, rfl⟩
              have hEl := doE_len s5 (ct, cn)
              rw [← hE] at hr12 hr13 HIN hEl
              rw [← hE]
              clear hE hps hX2 hY3 hDc HD1 hXd hYd HF2 hDR
              generalize s5.doS (ct, cn) = s6 at *
              have HDE := Lib.hid hDe
              clear hDe
              go_wp2_with fail
              go_loopw [128] (fun i wj => ∃ j : Nat, j ≤ E.length ∧ i = .int .i64 j ∧ Below wc.heap.size wc wj) (fun i _ => E.length - (intOf i).toNat)
              case atStart => exact ⟨0, Nat.zero_le _, rfl, Below.refl _ _⟩
              case round =>
                obtain ⟨j, hj, rfl, hbj⟩ := hrel
                by_cases hjl : j < E.length
                · obtain ⟨b12, o12, e12, -, l12⟩ := (hr12.on hbj).at_ j hjl
                  obtain ⟨b13, o13, e13, -, l13⟩ := (hr13.on hbj).at_ j (by rw [List.length_map]; exact hjl)
                  have g12 := fun wx hx => ((hr12.on hbj).on (w' := wx) hx)
                  have g13 := fun wx hx => ((hr13.on hbj).on (w' := wx) hx)
                  rw [List.getElem_map] at l13
                  have hev := HIN E[j] (List.getElem_mem hjl)
                  have HT := fun wx => top_turned (turnE m E[j]) m hm8 (turnE_in hev) wx
                  rw [turnE_turnE] at HT
                  have HNE := fun wx => ev_same E[j] wx
                  have HGU := fun wx => ev_guard E[j] wx
                  have HP := fun wx (hx : Below wr.heap.size wr wx) => (show wx.cell? ⟨b12, o12 + j, none⟩ = some (evv E[j]) ∧ wx.cell? ⟨b13, o13 + j, none⟩ = some (evv (turnE m E[j])) from by
                    obtain ⟨b, o, e, -, l⟩ := (g12 wx hx).at_ j hjl
                    obtain ⟨b', o', e', -, l'⟩ := (g13 wx hx).at_ j (by rw [List.length_map]; exact hjl)
                    rw [e12] at e
                    rw [e13] at e'
                    cases e
                    cases e'
                    rw [List.getElem_map] at l'
                    exact ⟨l, l'⟩)
                  have HTT := fun wx => Lib.hid (HT wx)
                  have HJ := Lib.hid hjl
                  clear g12 g13 HT hev hr12 hr13 HIN
                  subst e12 e13
                  generalize evv E[j] = u at *
                  generalize evv (turnE m E[j]) = u2 at *
                  have hjz : (j : Int) < (E.length : Int) := by omega
                  have hj0 : (0 : Int) ≤ (j : Int) := by omega
                  have hRj := Below.refl wr.heap.size wr
                  have hRd := hRj.drew
                  go_upto_region 29 with fail
                  go_region_held3 (fun wx => wx.cell? ⟨b12, o12 + j, none⟩ = some u ∧ wx.cell? ⟨b13, o13 + j, none⟩ = some u2)
                    (first | (with_reducible exact HP _ hRj) | (with_reducible exact HP _ hRd) | (with_reducible exact HP _ hRT) | fail)
                    (first | (go_at_call 44; (with_reducible refine (HTT _).out.mono ?_); rintro e wt ⟨rfl, hbt⟩; have hRT := on_below hRd hbt) | fail)
                  all_goals (go_wp2_with fail; go_roundw)
                  case rel => exact ⟨j + 1, HJ.out, by go_num, on_below hbj hRT⟩
                  case measure =>
                    have hj2 := HJ.out
                    simp [intOf] <;> omega
                · obtain rfl : j = E.length := by omega
                  clear hr12 hr13 HIN
                  go_wp2_with fail
                  go_roundw
                  case rel =>
                    refine ⟨k + 1, by omega, by go_num, ?_⟩
                    rw [HS1.out]
                    exact ⟨hps6, HDE.out.on hbj⟩
                  case measure => simp [intOf] <;> omega
        · obtain rfl : k = nq := by omega
          obtain ⟨o, ho⟩ := over_is (s0.run (cs.take k))
          have hN1 := Lib.hid hD.now
          have hN2 := Lib.hid hD.swap.now
          have hO1 := fun wx (hx : Below wr.heap.size wr wx) => Lib.hid ((hD.on hx).over o ho)
          have hO2 := fun wx (hx : Below wr.heap.size wr wx) => Lib.hid ((hD.on hx).swap.over o (ho.trans (over_rev _).symm))
          have hBW := Lib.hid hD.below
          have HR0 := Below.refl wr.heap.size wr
          have hnr : (s0.run (cs.take k)).rev.now = (s0.run (cs.take k)).now := rfl
          rw [hnr] at hN2
          generalize (s0.run (cs.take k)).now = nw at *
          clear hD hps ho
          go_wp2_with (first | (go_at_call 22; first | ((with_reducible refine hN1.out.mono ?_); rintro e w5 ⟨rfl, rfl⟩) | ((with_reducible refine hN2.out.mono ?_); rintro e w5 ⟨rfl, rfl⟩)) | (go_at_call 31; first | ((with_reducible refine (hO1 _ HR0).out.mono ?_); rintro e w5 ⟨rfl, hb5⟩) | ((with_reducible refine (hO2 _ hb5).out.mono ?_); rintro e w6 ⟨rfl, hb6⟩)) | fail)
          go_ret
          exact ⟨by simp, on_below HBZ.out (on_below hBW.out (on_below hb5 hb6))⟩
    · obtain ⟨z, hzz⟩ : ∃ z, nerr rs t dr m = z := ⟨_, rfl⟩
      obtain ⟨y, hyy⟩ : ∃ y, nerr rs.reverse t dr m = y := ⟨_, rfl⟩
      have hz0 : z ≠ 0 := by rw [← hzz]; exact hz
      have hy0 : y ≠ 0 := by rw [← hyy]; exact fun e => hz (nerr_rev.1 e)
      have HN1 := Lib.hid (so_new_none rs t dr ls a n c b m c2 w7 (hC3.out.hru.below hb7) hC3.out.hn (by have := HSS.out.2.2.1; omega) hC3.out.hm z hzz hz0)
      have HN2 := fun w8 (hx : Below w7.heap.size w7 w8) => Lib.hid (so_new_none rs.reverse t dr ls.reverse a5 n c5 b5 m c6 w8 (hru7.below hx) (by rw [List.length_reverse]; exact hC3.out.hn) (by have := HSS.out.2.2.1; omega) (by rw [List.length_reverse]; exact hC3.out.hm) y hyy hy0)
      have hzb : (z != 0) = true := by rw [bne_iff_ne]; exact hz0
      have hze : (z == 0) = false := by rw [beq_eq_false_iff_ne]; exact hz0
      have hye : (y == 0) = false := by rw [beq_eq_false_iff_ne]; exact hy0
      clear hz hzz hyy hlm HSS hru7 hls7
      go_wp2_with (first | (go_at_call 14; (with_reducible refine HN1.out.mono ?_); rintro e3 w8 ⟨rfl, hb8⟩; have HN3 := HN2 w8 hb8; obtain ⟨-, q0, -, q1, -, q2, -, q3, -, q4, -⟩ := (hA7.on hb8).five) | (go_at_call 14; (with_reducible refine HN3.out.mono ?_); rintro e4 w9 ⟨rfl, hb9⟩) | fail)
      go_ret
      exact ⟨rfl, on_below HBX.out (on_below (on_below HB7.out hb8) hb9)⟩
end Go.Proofs.YtoecikeleoaecaaGreat
