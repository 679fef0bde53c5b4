/- The walk of SourceTells. -/
import Derived.Test.YtoecikeleoaecaaGreatKCase
import Derived.Test.YtoecikeleoaecaaGreatTells
import Derived.Test.YtoecikeleoaecaaGreatStoreMid
import Derived.Deep.RegionHeld3
import Derived.Deep.DeepCutAuto
namespace Go.Proofs.YtoecikeleoaecaaGreat
set_option maxRecDepth 4000
open Go.ChangeShapes Go.WideShapes Go.ChangeAt Go.RowKit
open PHist PRing PSat PClamp PBound PFrame PVar PCrc PSign PTree PEv
set_option linter.unusedVariables false
set_option linter.unusedSimpArgs false

set_option maxRecDepth 100000 in
set_option maxHeartbeats 40000000 in
theorem walk_SourceTells (w : World) (c0 : Array Value) (d0 : (((List (Int × Int × Int × Int × Int × Unit)) × Int × Int × Unit) × (List ByteArray) × (List (Bool × Int × Unit)) × Unit)) (w0 : Rd w (.pair (.pair (.sl (.pair (.int .i64) (.pair (.int .i64) (.pair (.int .i64) (.pair (.int .i64) (.pair (.int .i64) .unit)))))) (.pair (.int .i64) (.pair (.int .i64) .unit))) (.pair (.sl .str) (.pair (.sl (.pair .bool (.pair (.int .i64) .unit))) .unit))) c0.toList d0) (a1 : Int) (w1 : (Lit.int .i64 a1).wf = true) :
    Calls Tryz.prog 4 #[.agg c0, .int .i64 a1] w fun e w' => e = .returned (.bool true) ∧ Below w.heap.size w w' := by
  obtain ⟨a, n, c, t, dr, b, m, c2, q, nq, c3, rs, ls, cs, rfl, hC⟩ := Rd.case w0
  clear w0
  have ha1 := bounds_i64 w1
  clear w1
  have hbx : Below w.heap.size w (w.alloc (.cells #[.slice a n c, .int .i64 t, .int .i64 dr, .slice b m c2, .slice q nq c3] 28)) := (Below.refl _ _).alloc (Nat.le_refl _) _
  have hA0 := At.alloc w [.slice a n c, .int .i64 t, .int .i64 dr, .slice b m c2, .slice q nq c3] 28
  have hC0 := hC.on hbx
  have hsz : w.heap.size < (w.alloc (.cells #[.slice a n c, .int .i64 t, .int .i64 dr, .slice b m c2, .slice q nq c3] 28)).heap.size := hA0.1
  clear hC
  have HSP := fun wx => Lib.hid (speaks23 wx)
  go_enter Tryz.func4, Tryz.ntmps4
  go_wp2_with fail
  generalize w.alloc (.cells #[.slice a n c, .int .i64 t, .int .i64 dr, .slice b m c2, .slice q nq c3] 28) = w0 at *
  have HSM := fun wx (hx : Below w0.heap.size w0 wx) => Lib.hid (law_small a n c t dr b m c2 q nq c3 ls wx (hC0.on hx).hlo hC0.hm (fun s hs => hC0.hsl s hs))
  have HA := fun wx (hx : Below w0.heap.size w0 wx) => At.five (hA0.below hx hsz)
  go_wp2_with (go_at_call 12; (with_reducible refine (HSP _).out.mono ?_); rintro e w1 ⟨rfl, hb1⟩; obtain ⟨-, x0, -, x1, -, x2, -, x3, -, x4, -⟩ := HA _ hb1)
  go_at_call 13
  refine (HSM _ hb1).out.mono ?_
  intro e w2 hS
  obtain ⟨z, rfl, hz, hb2'⟩ := hS
  have hb2 := on_below hb1 hb2'
  obtain ⟨-, y0, -, y1, -, y2, -, y3, -, y4, -⟩ := HA _ hb2
  rcases hz with rfl | ⟨rfl, hSm⟩
  · go_wp2
    go_ret
    exact ⟨rfl, on_below hbx hb2⟩
  by_cases hz : nerr rs t dr m = 0
  · have HRN := fun wx (hx : Below w0.heap.size w0 wx) => Lib.hid (ref_new rs t dr ls a n c b m c2 wx (hC0.hru.below hx) (hC0.hlo.below hx) hC0.hn hC0.hm hz hSm.1 hC0.hfit hC0.ht hC0.hd hSm.2.2.2)
    have HN := fun wx (hx : Below w0.heap.size w0 wx) => Lib.hid (so_new rs t dr ls a n c b m c2 wx (hC0.hru.below hx) (hC0.hlo.below hx) hC0.hn hC0.hm hz hSm.1 hC0.hfit hC0.ht hC0.hd hSm.2.2.2)
    have hok : (St.new t dr rs (ls.map fun s => s.data.toList)).Ok := case_ok hC0.hm hz hSm.1 hC0.hfit hC0.ht hC0.hd hSm.2.2.2
    have hpl := new_plen hC0.hm hz
    have hel := newE_len t rs (ls.map fun s => s.data.toList)
    have hmn := (nerr_zero hz).2
    generalize St.new t dr rs (ls.map fun s => s.data.toList) = s0 at *
    generalize St.newE t rs (ls.map fun s => s.data.toList) = l0 at *
    have HL : Hid (l0.length ≤ 9) := by show l0.length ≤ 9; have := hSm.1; omega
    have hnq : nq ≤ 120 := hSm.2.1
    have hm8 : m ≤ 8 := hSm.1
    have HPL := Lib.hid hpl
    have HOK := Lib.hid hok
    have HQ := Lib.hid hC0.hnq
    have HCI := Lib.hid hC0.hci
    have HCH := Lib.hid hC0.hch
    have HBX := Lib.hid hbx
    have HR2 := HRN w2 hb2
    have e := fun (w : World) (o : Obj) => (Below.refl w.heap.size w).alloc (Nat.le_refl _) o
    clear hel hSm hz hb2' hmn HSP HSM hpl hok
    clear hC0
    go_wp2_with (first | (go_at_call 15; (with_reducible refine HR2.out.mono ?_); intro e3 w3 hY; obtain ⟨a4, c4, l4, r4, hy4, hP4, hps4, hr4, hb3, hna4, hap4, hnr4⟩ := hY; rw [HPL.out] at hy4; subst hy4; have hb4' := on_below (on_below hb2 hb3) (e w3 (.cells #[.slice a4 m c4, .int .i64 s0.timeout, .int .i64 s0.drift, .int .i64 s0.clock, .int .i64 s0.now] 37)); have HN4 := HN _ hb4'; obtain ⟨-, i0, -, i1, -, i2, -, i3, -, i4, -⟩ := HA _ hb4') | (go_at_call 14; (with_reducible refine HN4.out.mono ?_); intro e4 w5 hN; obtain ⟨tag, W, ev, V, g, rfl, hS5, ht5, hb5⟩ := hN) | fail)
    have hA4 := At.alloc w3 [.slice a4 m c4, .int .i64 s0.timeout, .int .i64 s0.drift, .int .i64 s0.clock, .int .i64 s0.now] 37
    have hbS := e w3 (.cells #[.slice a4 m c4, .int .i64 s0.timeout, .int .i64 s0.drift, .int .i64 s0.clock, .int .i64 s0.now] 37)
    have htg : ∀ b, b ≤ w3.heap.size → tag b = 0 := fun b hb => Classical.byContradiction fun hn => by
      have := ht5 b hn
      rw [World.size_alloc] at this
      omega
    have hR3 : RefR w3 (fun _ => False) tag w3.heap.size w3 a4 l4 s0 := ⟨hP4.row, fun v hv => ⟨(hP4.ok v hv).row, (hP4.ok v hv).le, (hP4.ok v hv).cap, fun _ _ _ h => h⟩, hps4, Upd.refl _ _, fun p hp h0 => by
      obtain ⟨b', off, hab, hb, -⟩ := hP4.row.at_ 0 h0
      rw [hab] at hp; cases hp
      exact ⟨htg _ (Nat.le_of_lt hb), Nat.ne_of_lt hb⟩, fun b hb hn => hn (htg b (Nat.le_of_lt hb)), Nat.le_refl _⟩
    have hbx5 := on_below hb4' hb5
    have hI5 : SrcI w0 w5 tag W ev V g s0 l0 l0.length := ⟨hS5, fun b hb => by have := ht5 b hb; have := hb4'.size; omega, hbx5, HOK.out⟩
    have hA5 := hA4.on hb5
    have hR5 := (hR3.on hbS).on hb5
    have hg5 := htg w3.heap.size (Nat.le_refl _)
    have h03 : w0.heap.size ≤ w3.heap.size := (on_below hb2 hb3).size
    clear hS5 ht5 hA4 hbS htg hR3 hP4 hps4 hr4 hna4 hap4 hnr4 HN HRN HR2 HN4 i0 i1 i2 i3 i4 y0 y1 y2 y3 y4 x0 x1 x2 x3 x4
    go_loopw [10] (fun i wr => ∃ (k : Nat) (tag : Nat → Nat) (W : Nat → Nat → Prop) (ev : Value) (a : Option Addr) (c : Nat) (l : List Pv), k ≤ nq + 1 ∧ ∃ zi : Int, i = .int .i64 zi ∧ zi + 1 = k ∧ SrcI w0 wr tag W ev V g (s0.run (cs.take (k - 1))) (l0 ++ s0.runE (cs.take (k - 1))) l0.length ∧ At wr w3.heap.size [.slice a m c, .int .i64 (s0.run (cs.take (k - 1))).timeout, .int .i64 (s0.run (cs.take (k - 1))).drift, .int .i64 (s0.run (cs.take (k - 1))).clock, .int .i64 (s0.run (cs.take (k - 1))).now] ∧ RefR w3 (fun _ => False) tag w3.heap.size wr a l (s0.run (cs.take (k - 1))) ∧ tag w3.heap.size = 0) (fun i _ => nq + 1 - ((intOf i) + 1).toNat)
    case atStart =>
      refine ⟨0, tag, W, ev, a4, c4, l4, Nat.zero_le _, -1, rfl, rfl, ?_, hA5, hR5, hg5⟩
      show SrcI w0 w5 tag W ev V g s0 (l0 ++ []) l0.length
      rw [List.append_nil]
      exact hI5
    case round =>
      clear hI5 hA5 hR5 hg5
      obtain ⟨k, tag, W, ev, a5, c5, l5, hk, zi, rfl, hzi, hI, hA, hR, hg5⟩ := hrel
      obtain ⟨-, z0, -, z1, -, z2, -, z3, -, z4, -⟩ := HA _ hI.new
      by_cases hlt : k = nq + 1
      · obtain rfl : zi = nq := by omega
        have hb6 := hI.new
        clear hI hzi hlt hA hR
        go_wp2
        go_ret
        exact ⟨rfl, on_below HBX.out hb6⟩
      rcases k with _ | k
      · obtain rfl : zi = -1 := by omega
        clear hzi hlt
        have hq0 : (-1 : Int) < (nq : Int) := by omega
        have hI0 : SrcI w0 wr tag W ev V g (s0.run (cs.take 0)) (l0 ++ s0.runE (cs.take 0)) l0.length := hI
        have hA0x : At wr w3.heap.size [.slice a5 m c5, .int .i64 (s0.run (cs.take 0)).timeout, .int .i64 (s0.run (cs.take 0)).drift, .int .i64 (s0.run (cs.take 0)).clock, .int .i64 (s0.run (cs.take 0)).now] := hA
        have hR0 : RefR w3 (fun _ => False) tag w3.heap.size wr a5 l5 (s0.run (cs.take 0)) := hR
        clear hI hA hR
        have hn3 := run_len (cs.take 0) s0
        rw [HPL.out] at hn3
        have hok3 := HOK.out.run (cs.take 0)
        generalize hs3 : s0.run (cs.take 0) = s3 at *
        generalize he3 : l0 ++ s0.runE (cs.take 0) = e3 at *
        have HS3 := Lib.hid hs3
        have HE3 := Lib.hid he3
        clear hs3 he3
        rename World => wq
        have hIZ := hI0
        have hAZ := hA0x
        have hRZ := hR0
        have HN3 := Lib.hid hn3
        have HOK3 := Lib.hid hok3
        clear hn3 hok3 hI0 hA0x hR0
        obtain ⟨hgz, d0, o0, d1, o1, d2, o2, d3, o3, d4, o4⟩ := hAZ.five
        go_wp2_with fail
        clear d0 o0 d1 o1 d2 o2 d3 o3 d4 o4
        go_loopw [11, 73] (fun o i wr => ∃ p : Nat, p ≤ m ∧ i = .int .i64 p ∧ o = .bool (s3.allOver p) ∧ Below wq.heap.size wq wr) (fun _ i _ => m - (intOf i).toNat)
        case atStart => exact ⟨0, Nat.zero_le _, rfl, rfl, Below.refl _ _⟩
        case round =>
          obtain ⟨p, hp, rfl, rfl, hbw⟩ := hrel
          by_cases hpm : p < m
          · have hpl : p < l5.length := by rw [hRZ.len, HN3.out]; exact hpm
            have hps3 : p < s3.ps.length := by rw [HN3.out]; exact hpm
            have hRx := hRZ.on hbw
            obtain ⟨b5, off5, hab5, hbl, -⟩ := hRx.row.at_ p hpl
            subst hab5
            have hcell := hRx.rowp.cell p hpl
            have hpp : pat s3.ps p = l5[p].p := by
              rw [pat_lt hps3]
              simp only [← hRZ.ps, List.getElem_map]
            have hST := fun wy (hx : Below wq.heap.size wq wy) => Lib.hid ((hIZ.on hx).at_status p hps3 l5[p].p.is (by rw [hpp]))
            have hCT := fun wy (hx : Below wq.heap.size wq wy) => Lib.hid ((hIZ.on hx).at_count p hps3 l5[p].p.read (by rw [hpp]))
            have hMK := fun wy (hx : Below wq.heap.size wq wy) => Lib.hid ((hIZ.on hx).at_mark p hps3 l5[p].p.mark (by rw [hpp]))
            have hRM := fun wy (hx : Below wq.heap.size wq wy) => Lib.hid (ref_mark l5[p] wy ((hRZ.on hx).rowp.ok _ (List.getElem_mem hpl)) (by rw [← hpp]; exact HOK3.out.pt _ (pat_mem hps3)) _ rfl)
            have hSR := fun wy (hx : Below wq.heap.size wq wy) => Lib.hid ((hIZ.on hx).at_refused p _ rfl)
            have hRR := fun wy (hx : Below wq.heap.size wq wy) => Lib.hid (ref_refused (some ⟨b5, off5, none⟩) m c5 l5 s3 p wy (hRZ.on hx).rowp (by rw [hRZ.len, HN3.out]) hRZ.ps HOK3.out _ rfl)
            have hao : s3.allOver (p + 1) = (s3.allOver p && decide (1 < l5[p].p.is)) := by
              show (s3.allOver p && decide (1 < (pat s3.ps p).is)) = _
              rw [hpp]
            clear hpp hRx
            generalize s3.refused p = orr at *
            generalize l5[p] = v at *
            obtain ⟨⟨⟨kd, bd, pc, wn, sg⟩, recs, er, rd, is, tl⟩, av, cv⟩ := v
            simp only [Pv.val] at hcell hST hCT hMK hRM hao
            generalize Pt.mark ⟨⟨kd, bd, pc, wn, sg⟩, recs, er, rd, is, tl⟩ = mk at *
            obtain ⟨hbb, p0, p1, p2, p3, p4, p5, p6, p7, p8, p9⟩ := hcell
            have hPB := At.alloc wr [.int .i64 kd, .int .i64 bd, .int .i64 pc, .int .i64 wn, .int .i64 sg, .slice av recs.length cv, .int .i64 er, .int .i64 rd, .int .i64 is, .int .i64 tl] 58
            have hbB := e wr (.cells #[.int .i64 kd, .int .i64 bd, .int .i64 pc, .int .i64 wn, .int .i64 sg, .slice av recs.length cv, .int .i64 er, .int .i64 rd, .int .i64 is, .int .i64 tl] 58)
            have HAO := Lib.hid hao
            clear hao
            go_upto_region 21 with fail
            clear p0 p1 p2 p3 p4 p5 p6 p7 p8 p9 hbb hbl
            generalize wr.alloc (.cells #[.int .i64 kd, .int .i64 bd, .int .i64 pc, .int .i64 wn, .int .i64 sg, .slice av recs.length cv, .int .i64 er, .int .i64 rd, .int .i64 is, .int .i64 tl] 58) = wB at *
            go_cut [11] (fun v wy => v = .bool (s3.allOver (p + 1)) ∧ At wy wr.heap.size [.int .i64 kd, .int .i64 bd, .int .i64 pc, .int .i64 wn, .int .i64 sg, .slice av recs.length cv, .int .i64 er, .int .i64 rd, .int .i64 is, .int .i64 tl] ∧ Below wr.heap.size wr wy)
            case first =>
              obtain ⟨-, q0, -, q1, -, q2, -, q3, -, q4, -, q5, -, q6, -, q7, -, q8, -, q9, -⟩ := hPB.ten
              cases ha : s3.allOver p
              · go_wp2_with fail
                go_meet
                exact ⟨by rw [HAO.out, ha]; rfl, hPB, hbB⟩
              · by_cases h1 : 1 < is
                · go_wp2_with fail
                  go_meet
                  exact ⟨by rw [HAO.out, ha]; simp [h1], hPB, hbB⟩
                · have h1' : is ≤ 1 := by omega
                  go_wp2_with fail
                  go_meet
                  exact ⟨by rw [HAO.out, ha]; simp [h1], hPB, hbB⟩
            case rest =>
              clear hPB hbB
              obtain ⟨rfl, hP, hbc⟩ := hcut
              have hwc := on_below hbw hbc
              have HF : ∀ wy, Below wc.heap.size wc wy → wy.cell? ⟨w3.heap.size, 0, none⟩ = some (.slice (some ⟨b5, off5, none⟩) m c5) ∧ wy.cell? ⟨w3.heap.size, 1, none⟩ = some (.int .i64 s3.timeout) ∧ wy.cell? ⟨w3.heap.size, 2, none⟩ = some (.int .i64 s3.drift) ∧ wy.cell? ⟨w3.heap.size, 3, none⟩ = some (.int .i64 s3.clock) ∧ wy.cell? ⟨w3.heap.size, 4, none⟩ = some (.int .i64 s3.now) ∧ wy.cell? ⟨wr.heap.size, 0, none⟩ = some (.int .i64 kd) ∧ wy.cell? ⟨wr.heap.size, 1, none⟩ = some (.int .i64 bd) ∧ wy.cell? ⟨wr.heap.size, 2, none⟩ = some (.int .i64 pc) ∧ wy.cell? ⟨wr.heap.size, 3, none⟩ = some (.int .i64 wn) ∧ wy.cell? ⟨wr.heap.size, 4, none⟩ = some (.int .i64 sg) ∧ wy.cell? ⟨wr.heap.size, 5, none⟩ = some (.slice av recs.length cv) ∧ wy.cell? ⟨wr.heap.size, 6, none⟩ = some (.int .i64 er) ∧ wy.cell? ⟨wr.heap.size, 7, none⟩ = some (.int .i64 rd) ∧ wy.cell? ⟨wr.heap.size, 8, none⟩ = some (.int .i64 is) ∧ wy.cell? ⟨wr.heap.size, 9, none⟩ = some (.int .i64 tl) := fun wy h => by
                obtain ⟨-, s0', -, s1', -, s2', -, s3', -, s4', -⟩ := (hAZ.on (on_below hwc h)).five
                obtain ⟨-, q0, -, q1, -, q2, -, q3, -, q4, -, q5, -, q6, -, q7, -, q8, -, q9, -⟩ := (hP.on h).ten
                exact ⟨s0', s1', s2', s3', s4', q0, q1, q2, q3, q4, q5, q6, q7, q8, q9⟩
              have hxd : Below wc.heap.size wc wc.drew := (Below.refl _ _).drew
              go_upto_region 22 with fail
              go_cut [114] (fun v wy => v = .bool false ∧ Below wc.heap.size wc wy)
              case first =>
                go_region_held3 (fun wy => wy.cell? ⟨w3.heap.size, 0, none⟩ = some (.slice (some ⟨b5, off5, none⟩) m c5) ∧ wy.cell? ⟨w3.heap.size, 1, none⟩ = some (.int .i64 s3.timeout) ∧ wy.cell? ⟨w3.heap.size, 2, none⟩ = some (.int .i64 s3.drift) ∧ wy.cell? ⟨w3.heap.size, 3, none⟩ = some (.int .i64 s3.clock) ∧ wy.cell? ⟨w3.heap.size, 4, none⟩ = some (.int .i64 s3.now) ∧ wy.cell? ⟨wr.heap.size, 0, none⟩ = some (.int .i64 kd) ∧ wy.cell? ⟨wr.heap.size, 1, none⟩ = some (.int .i64 bd) ∧ wy.cell? ⟨wr.heap.size, 2, none⟩ = some (.int .i64 pc) ∧ wy.cell? ⟨wr.heap.size, 3, none⟩ = some (.int .i64 wn) ∧ wy.cell? ⟨wr.heap.size, 4, none⟩ = some (.int .i64 sg) ∧ wy.cell? ⟨wr.heap.size, 5, none⟩ = some (.slice av recs.length cv) ∧ wy.cell? ⟨wr.heap.size, 6, none⟩ = some (.int .i64 er) ∧ wy.cell? ⟨wr.heap.size, 7, none⟩ = some (.int .i64 rd) ∧ wy.cell? ⟨wr.heap.size, 8, none⟩ = some (.int .i64 is) ∧ wy.cell? ⟨wr.heap.size, 9, none⟩ = some (.int .i64 tl))
                  (first | (with_reducible exact HF _ (Below.refl _ _)) | (with_reducible exact HF _ hxd) | (with_reducible exact HF _ hx6) | (with_reducible exact HF _ hx7) | (with_reducible exact HF _ hx8) | fail)
                  (first | (go_at_call 25; (with_reducible refine (hST _ (on_below hwc hxd)).out.mono ?_); rintro e9 wq ⟨rfl, rfl⟩) | (go_at_call 26; (with_reducible refine (hCT _ (on_below hwc hxd)).out.mono ?_); rintro e9 wq ⟨rfl, rfl⟩) | (go_at_call 27; (with_reducible refine (hMK _ (on_below hwc (by first | with_reducible exact hxd | with_reducible exact hx6))).out.mono ?_); rintro e9 wq ⟨rfl, rfl⟩) | (go_at_call 28; (with_reducible refine (hRM _ (on_below hwc hxd)).out.mono ?_); rintro e9 w6 ⟨rfl, hb6⟩; have hx6 := on_below hxd hb6) | (go_at_call 29; (with_reducible refine (hSR _ (on_below hwc (by first | with_reducible exact hx6 | with_reducible exact hx8))).out.mono ?_); rintro e9 w7 ⟨rfl, hb7⟩; have hx7 : Below wc.heap.size wc w7 := (by first | with_reducible exact on_below hx6 hb7 | with_reducible exact on_below hx8 hb7)) | (go_at_call 30; (with_reducible refine (hRR _ (on_below hwc (by first | with_reducible exact hx7 | with_reducible exact hx6))).out.mono ?_); rintro e9 w8 ⟨rfl, hb8⟩; have hx8 : Below wc.heap.size wc w8 := (by first | with_reducible exact on_below hx7 hb8 | with_reducible exact on_below hx6 hb8)) | fail)
                all_goals (go_wp2_with fail; go_meet)
                all_goals first | exact ⟨rfl, hx8⟩ | exact ⟨rfl, hx7⟩
              case rest =>
                obtain ⟨rfl, hbz⟩ := hcut
                have HBE := Lib.hid (on_below hwc hbz)
                clear HF hwc hbz hbc hP
                go_wp2_with fail
                go_roundw
                case rel => exact ⟨p + 1, by omega, by go_num, rfl, HBE.out⟩
                case measure => simp [intOf] <;> omega
          · have hpe : p = m := by omega
            subst hpe
            have hOV := Lib.hid ((hIZ.on hbw).at_over)
            rw [HN3.out] at hOV
            clear hpm hp
            by_cases hin : 0 ≤ a1 ∧ a1 < (s3.ps.length : Nat)
            · obtain ⟨hx1, hx2⟩ := hin
              rw [HN3.out] at hx2
              go_wp2_with (first | (go_at_call 31; (with_reducible refine hOV.out.mono ?_); rintro e9 w6 ⟨rfl, hb6⟩; have hx6 := Lib.hid (on_below hbw hb6); obtain ⟨-, d0, -, d1, -, d2, -, d3, -, d4, -⟩ := (hAZ.on hx6.out).five))
              have HBZ := hx6
              go_roundw
              case rel =>
                refine ⟨1, tag, W, ev, a5, c5, l5, by omega, 0, by go_num, by omega, ?_, ?_, ?_, hg5⟩
                · show SrcI w0 _ _ _ _ V g (s0.run (cs.take (0))) (l0 ++ s0.runE (cs.take (0))) l0.length
                  rw [HS3.out, HE3.out]; exact hIZ.on HBZ.out
                · show At _ w3.heap.size [.slice _ _ _, .int .i64 (s0.run (cs.take (0))).timeout, .int .i64 (s0.run (cs.take (0))).drift, .int .i64 (s0.run (cs.take (0))).clock, .int .i64 (s0.run (cs.take (0))).now]
                  rw [HS3.out]; exact hAZ.on HBZ.out
                · show RefR w3 _ _ w3.heap.size _ _ _ (s0.run (cs.take (0)))
                  rw [HS3.out]; exact hRZ.on HBZ.out
              case measure => simp [intOf] <;> omega
            · have hNS := fun wy (hx : Below wq.heap.size wq wy) => Lib.hid ((hIZ.on hx).no_status a1 hin)
              have hNC := fun wy (hx : Below wq.heap.size wq wy) => Lib.hid ((hIZ.on hx).no_count a1 hin)
              have hNM := fun wy (hx : Below wq.heap.size wq wy) => Lib.hid ((hIZ.on hx).no_mark a1 hin)
              have hNR := fun wy (hx : Below wq.heap.size wq wy) => Lib.hid ((hIZ.on hx).at_refused a1 true (refused_out s3 a1 hin))
              rw [HN3.out] at hin
              by_cases hneg : a1 < 0
              · clear hin
                go_wp2_with (first | (go_at_call 31; (with_reducible refine hOV.out.mono ?_); rintro e9 w6 ⟨rfl, hb6⟩; have hx6 := Lib.hid (on_below hbw hb6); obtain ⟨-, d0, -, d1, -, d2, -, d3, -, d4, -⟩ := (hAZ.on hx6.out).five) | (go_at_call 25; (with_reducible refine (hNS _ hx6.out).out.mono ?_); rintro e9 w7 ⟨rfl, rfl⟩) | (go_at_call 26; (with_reducible refine (hNC _ hx6.out).out.mono ?_); rintro e9 w7 ⟨rfl, rfl⟩) | (go_at_call 27; (with_reducible refine (hNM _ hx6.out).out.mono ?_); rintro e9 w7 ⟨rfl, rfl⟩) | (go_at_call 29; (with_reducible refine (hNR _ hx6.out).out.mono ?_); rintro e9 w8 ⟨rfl, hb8⟩; have HBZ := Lib.hid (on_below hx6.out hb8)))
                go_roundw
                case rel =>
                  refine ⟨1, tag, W, ev, a5, c5, l5, by omega, 0, by go_num, by omega, ?_, ?_, ?_, hg5⟩
                  · show SrcI w0 _ _ _ _ V g (s0.run (cs.take (0))) (l0 ++ s0.runE (cs.take (0))) l0.length
                    rw [HS3.out, HE3.out]; exact hIZ.on HBZ.out
                  · show At _ w3.heap.size [.slice _ _ _, .int .i64 (s0.run (cs.take (0))).timeout, .int .i64 (s0.run (cs.take (0))).drift, .int .i64 (s0.run (cs.take (0))).clock, .int .i64 (s0.run (cs.take (0))).now]
                    rw [HS3.out]; exact hAZ.on HBZ.out
                  · show RefR w3 _ _ w3.heap.size _ _ _ (s0.run (cs.take (0)))
                    rw [HS3.out]; exact hRZ.on HBZ.out
                case measure => simp [intOf] <;> omega
              · have hge : (p : Int) ≤ a1 := by omega
                have hpos : 0 ≤ a1 := by omega
                clear hin hneg
                go_wp2_with (first | (go_at_call 31; (with_reducible refine hOV.out.mono ?_); rintro e9 w6 ⟨rfl, hb6⟩; have hx6 := Lib.hid (on_below hbw hb6); obtain ⟨-, d0, -, d1, -, d2, -, d3, -, d4, -⟩ := (hAZ.on hx6.out).five) | (go_at_call 25; (with_reducible refine (hNS _ hx6.out).out.mono ?_); rintro e9 w7 ⟨rfl, rfl⟩) | (go_at_call 26; (with_reducible refine (hNC _ hx6.out).out.mono ?_); rintro e9 w7 ⟨rfl, rfl⟩) | (go_at_call 27; (with_reducible refine (hNM _ hx6.out).out.mono ?_); rintro e9 w7 ⟨rfl, rfl⟩) | (go_at_call 29; (with_reducible refine (hNR _ hx6.out).out.mono ?_); rintro e9 w8 ⟨rfl, hb8⟩; have HBZ := Lib.hid (on_below hx6.out hb8)))
                go_roundw
                case rel =>
                  refine ⟨1, tag, W, ev, a5, c5, l5, by omega, 0, by go_num, by omega, ?_, ?_, ?_, hg5⟩
                  · show SrcI w0 _ _ _ _ V g (s0.run (cs.take (0))) (l0 ++ s0.runE (cs.take (0))) l0.length
                    rw [HS3.out, HE3.out]; exact hIZ.on HBZ.out
                  · show At _ w3.heap.size [.slice _ _ _, .int .i64 (s0.run (cs.take (0))).timeout, .int .i64 (s0.run (cs.take (0))).drift, .int .i64 (s0.run (cs.take (0))).clock, .int .i64 (s0.run (cs.take (0))).now]
                    rw [HS3.out]; exact hAZ.on HBZ.out
                  · show RefR w3 _ _ w3.heap.size _ _ _ (s0.run (cs.take (0)))
                    rw [HS3.out]; exact hRZ.on HBZ.out
                case measure => simp [intOf] <;> omega
      · obtain rfl : zi = k := by omega
        have hkq : k < nq := by omega
        have hkc : k < cs.length := by rw [← HQ.out]; exact hkq
        clear hzi hlt
        have hk0 : (0 : Int) ≤ (k : Int) := by omega
        have hIk : SrcI w0 wr tag W ev V g (s0.run (cs.take k)) (l0 ++ s0.runE (cs.take k)) l0.length := hI
        have hAk : At wr w3.heap.size [.slice a5 m c5, .int .i64 (s0.run (cs.take k)).timeout, .int .i64 (s0.run (cs.take k)).drift, .int .i64 (s0.run (cs.take k)).clock, .int .i64 (s0.run (cs.take k)).now] := hA
        have hRk : RefR w3 (fun _ => False) tag w3.heap.size wr a5 l5 (s0.run (cs.take k)) := hR
        clear hI hA hR
        have hrow := HCH.out.below hIk.new
        obtain ⟨bq, offq, hq', -, -⟩ := hrow.at_ k hkc
        subst hq'
        have hrc := fun wy (h : Below w0.heap.size w0 wy) => RowC.cells (HCH.out.below h) k hkc
        obtain ⟨hbq, r0, r1⟩ := hrc _ hIk.new
        have hin := HCI.out _ (List.getElem_mem hkc)
        have hrl := runE_len (cs.take k) s0
        rw [List.length_take] at hrl
        have hel : (l0 ++ s0.runE (cs.take k)).length ≤ 90000 := by rw [List.length_append]; have := HL.out; omega
        have hS1 := run_take s0 cs k hkc
        have hE1 := runE_take s0 cs k hkc
        generalize hck : cs[k] = x at *
        clear hck hrow
        obtain ⟨ct, cn⟩ := x
        simp only at r0 r1 hin hrc
        have hgk : retag tag wr.heap.size 0 w3.heap.size = 0 := by rw [retag_old hAk.1]; exact hg5
        have hI1 := hIk.re
        have hR1 := hRk.re wr.heap.size
        have hlk := run_len (cs.take k) s0
        rw [HPL.out] at hlk
        have hokk := HOK.out.run (cs.take k)
        generalize retag tag wr.heap.size 0 = tg at *
        have hMV := Lib.hid (hI1.goes (ct, cn) hin hel)
        have hn3 := run_len (cs.take (k + 1)) s0
        rw [HPL.out] at hn3
        have hok3 := HOK.out.run (cs.take (k + 1))
        have HS1 : Hid (s0.run (cs.take (k + 1)) = (s0.run (cs.take k)).doS (ct, cn)) := hS1
        have HE1 : Hid (l0 ++ s0.runE (cs.take (k + 1)) = (l0 ++ s0.runE (cs.take k)) ++ (s0.run (cs.take k)).doE (ct, cn)) := by show _ = _; rw [hE1, List.append_assoc]
        have HLK := Lib.hid hlk
        clear hS1 hE1 hrl hIk hRk hg5 hlk
        go_upto_region 16 with (first | (go_at_call 21; (with_reducible refine hMV.out.mono ?_); intro e9 w6 hY; obtain ⟨v6, tag2, W2, ev2, rfl, hv6, hI6, hu6, hf6, ht6⟩ := hY) | fail)
        have hA6 := hAk.upd hu6 (fun h => h hgk)
        have hR6 := hR1.src hu6 ht6
        have hg6 : tag2 w3.heap.size = 0 := Classical.byContradiction fun hn => (ht6 _ hn).elim (fun h => h hgk) (fun h => Nat.not_le_of_lt hAk.1 h)
        have hgt : retag tag2 w6.heap.size 0 w3.heap.size = 0 := by rw [retag_old hA6.1]; exact hg6
        have htn : ∀ b, w6.heap.size ≤ b → retag tag2 w6.heap.size 0 b = 0 := fun b hb => retag_new hb
        have hI7 := hI6.re
        have hR7 := hR6.re w6.heap.size
        generalize retag tag2 w6.heap.size 0 = tag3 at *
        have hdr : Below w6.heap.size w6 w6.drew := (Below.refl _ _).drew
        have hDO := (hR7.on hdr).does (hA6.on hdr).1 (fun b hb => htn b hb) c5 hokk ct cn hin
        rw [HLK.out, doS_len, HLK.out] at hDO
        have HDO := Lib.hid hDO
        obtain ⟨hbq6, r0', r1'⟩ := hrc _ hI6.new
        obtain ⟨-, u0, -, u1, -, u2, -, u3, -, u4, -⟩ := HA _ hI6.new
        obtain ⟨hgz6, d0, o0, d1, o1, d2, o2, d3, o3, d4, o4⟩ := hA6.five
        clear hDO hAk hR1 hI1 hMV hI6 hR6 hu6 ht6 hv6 hf6 z0 z1 z2 z3 z4 r0 r1 hbq hgk hg6
        generalize hs5 : (s0.run (cs.take k)).doS (ct, cn) = s5 at *
        generalize (s0.run (cs.take k)).doE (ct, cn) = e5 at *
        clear hs5
        go_cut [] (fun wy => ∃ (a : Option Addr) (c : Nat) (l : List Pv), At wy w3.heap.size [.slice a m c, .int .i64 s5.timeout, .int .i64 s5.drift, .int .i64 s5.clock, .int .i64 s5.now] ∧ RefR w3 (fun _ => False) tag3 w3.heap.size wy a l s5 ∧ SrcI w0 wy tag3 W2 ev2 V g s5 ((l0 ++ s0.runE (cs.take k)) ++ e5) l0.length)
        case first =>
          go_region_with (first | (go_at_call 20; (with_reducible refine HDO.out.mono ?_); intro e9 w7 hY; obtain ⟨a6, c6, l6, r6, rfl, hR8, hv8, hb8⟩ := hY; have hb68 := on_below hdr hb8; have hA8 := hA6.on hb68; obtain ⟨hgz8, f0, p0, f1, p1, f2, p2, f3, p3, f4, p4⟩ := hA8.five))
          all_goals (go_wp2_with fail; go_meet)
          all_goals exact ⟨a6, c6, l6, At.all5 hA8 (.slice a6 m c6) (.int .i64 s5.timeout) (.int .i64 s5.drift) (.int .i64 s5.clock) (.int .i64 s5.now), hR8.set (upd_all5 w7 w3.heap.size (.slice a6 m c6) (.int .i64 s5.timeout) (.int .i64 s5.drift) (.int .i64 s5.clock) (.int .i64 s5.now)), (hI7.on hb68).set (upd_all5 w7 w3.heap.size (.slice a6 m c6) (.int .i64 s5.timeout) (.int .i64 s5.drift) (.int .i64 s5.clock) (.int .i64 s5.now)) hgt h03⟩
        case rest =>
          clear HDO hdr hbq6 r0' r1' u0 u1 u2 u3 u4 d0 o0 d1 o1 d2 o2 d3 o3 d4 o4 hgz6 hA6 hI7 hR7
          obtain ⟨a7, c7, l7, hA0x, hR0, hI0⟩ := hcut
          rw [← HE1.out, ← HS1.out] at hI0
          rw [← HS1.out] at hA0x hR0
          have hg7 := hgt
          obtain ⟨tag7, htag7⟩ : ∃ tg7, tg7 = tag3 := ⟨_, rfl⟩
          subst htag7
          obtain ⟨W7, hW7⟩ : ∃ x, x = W2 := ⟨_, rfl⟩
          subst hW7
          obtain ⟨ev7, hev7⟩ : ∃ x, x = ev2 := ⟨_, rfl⟩
          subst hev7
          clear hgt htn HS1 HE1
          generalize hs3 : s0.run (cs.take (k + 1)) = s3 at *
          generalize he3 : l0 ++ s0.runE (cs.take (k + 1)) = e3 at *
          have HS3 := Lib.hid hs3
          have HE3 := Lib.hid he3
          clear hs3 he3
          rename World => wq
          have hIZ := hI0
          have hAZ := hA0x
          have hRZ := hR0
          have HN3 := Lib.hid hn3
          have HOK3 := Lib.hid hok3
          clear hn3 hok3 hI0 hA0x hR0
          obtain ⟨hgz, d0, o0, d1, o1, d2, o2, d3, o3, d4, o4⟩ := hAZ.five
          go_wp2_with fail
          clear d0 o0 d1 o1 d2 o2 d3 o3 d4 o4
          go_loopw [11, 73] (fun o i wr => ∃ p : Nat, p ≤ m ∧ i = .int .i64 p ∧ o = .bool (s3.allOver p) ∧ Below wq.heap.size wq wr) (fun _ i _ => m - (intOf i).toNat)
          case atStart => exact ⟨0, Nat.zero_le _, rfl, rfl, Below.refl _ _⟩
          case round =>
            obtain ⟨p, hp, rfl, rfl, hbw⟩ := hrel
            by_cases hpm : p < m
            · have hpl : p < l7.length := by rw [hRZ.len, HN3.out]; exact hpm
              have hps3 : p < s3.ps.length := by rw [HN3.out]; exact hpm
              have hRx := hRZ.on hbw
              obtain ⟨b5, off5, hab5, hbl, -⟩ := hRx.row.at_ p hpl
              subst hab5
              have hcell := hRx.rowp.cell p hpl
              have hpp : pat s3.ps p = l7[p].p := by
                rw [pat_lt hps3]
                simp only [← hRZ.ps, List.getElem_map]
              have hST := fun wy (hx : Below wq.heap.size wq wy) => Lib.hid ((hIZ.on hx).at_status p hps3 l7[p].p.is (by rw [hpp]))
              have hCT := fun wy (hx : Below wq.heap.size wq wy) => Lib.hid ((hIZ.on hx).at_count p hps3 l7[p].p.read (by rw [hpp]))
              have hMK := fun wy (hx : Below wq.heap.size wq wy) => Lib.hid ((hIZ.on hx).at_mark p hps3 l7[p].p.mark (by rw [hpp]))
              have hRM := fun wy (hx : Below wq.heap.size wq wy) => Lib.hid (ref_mark l7[p] wy ((hRZ.on hx).rowp.ok _ (List.getElem_mem hpl)) (by rw [← hpp]; exact HOK3.out.pt _ (pat_mem hps3)) _ rfl)
              have hSR := fun wy (hx : Below wq.heap.size wq wy) => Lib.hid ((hIZ.on hx).at_refused p _ rfl)
              have hRR := fun wy (hx : Below wq.heap.size wq wy) => Lib.hid (ref_refused (some ⟨b5, off5, none⟩) m c7 l7 s3 p wy (hRZ.on hx).rowp (by rw [hRZ.len, HN3.out]) hRZ.ps HOK3.out _ rfl)
              have hao : s3.allOver (p + 1) = (s3.allOver p && decide (1 < l7[p].p.is)) := by
                show (s3.allOver p && decide (1 < (pat s3.ps p).is)) = _
                rw [hpp]
              clear hpp hRx
              generalize s3.refused p = orr at *
              generalize l7[p] = v at *
              obtain ⟨⟨⟨kd, bd, pc, wn, sg⟩, recs, er, rd, is, tl⟩, av, cv⟩ := v
              simp only [Pv.val] at hcell hST hCT hMK hRM hao
              generalize Pt.mark ⟨⟨kd, bd, pc, wn, sg⟩, recs, er, rd, is, tl⟩ = mk at *
              obtain ⟨hbb, p0, p1, p2, p3, p4, p5, p6, p7, p8, p9⟩ := hcell
              have hPB := At.alloc wr [.int .i64 kd, .int .i64 bd, .int .i64 pc, .int .i64 wn, .int .i64 sg, .slice av recs.length cv, .int .i64 er, .int .i64 rd, .int .i64 is, .int .i64 tl] 58
              have hbB := e wr (.cells #[.int .i64 kd, .int .i64 bd, .int .i64 pc, .int .i64 wn, .int .i64 sg, .slice av recs.length cv, .int .i64 er, .int .i64 rd, .int .i64 is, .int .i64 tl] 58)
              have HAO := Lib.hid hao
              clear hao
              go_upto_region 21 with fail
              clear p0 p1 p2 p3 p4 p5 p6 p7 p8 p9 hbb hbl
              generalize wr.alloc (.cells #[.int .i64 kd, .int .i64 bd, .int .i64 pc, .int .i64 wn, .int .i64 sg, .slice av recs.length cv, .int .i64 er, .int .i64 rd, .int .i64 is, .int .i64 tl] 58) = wB at *
              go_cut [11] (fun v wy => v = .bool (s3.allOver (p + 1)) ∧ At wy wr.heap.size [.int .i64 kd, .int .i64 bd, .int .i64 pc, .int .i64 wn, .int .i64 sg, .slice av recs.length cv, .int .i64 er, .int .i64 rd, .int .i64 is, .int .i64 tl] ∧ Below wr.heap.size wr wy)
              case first =>
                obtain ⟨-, q0, -, q1, -, q2, -, q3, -, q4, -, q5, -, q6, -, q7, -, q8, -, q9, -⟩ := hPB.ten
                cases ha : s3.allOver p
                · go_wp2_with fail
                  go_meet
                  exact ⟨by rw [HAO.out, ha]; rfl, hPB, hbB⟩
                · by_cases h1 : 1 < is
                  · go_wp2_with fail
                    go_meet
                    exact ⟨by rw [HAO.out, ha]; simp [h1], hPB, hbB⟩
                  · have h1' : is ≤ 1 := by omega
                    go_wp2_with fail
                    go_meet
                    exact ⟨by rw [HAO.out, ha]; simp [h1], hPB, hbB⟩
              case rest =>
                clear hPB hbB
                obtain ⟨rfl, hP, hbc⟩ := hcut
                have hwc := on_below hbw hbc
                have HF : ∀ wy, Below wc.heap.size wc wy → wy.cell? ⟨w3.heap.size, 0, none⟩ = some (.slice (some ⟨b5, off5, none⟩) m c7) ∧ wy.cell? ⟨w3.heap.size, 1, none⟩ = some (.int .i64 s3.timeout) ∧ wy.cell? ⟨w3.heap.size, 2, none⟩ = some (.int .i64 s3.drift) ∧ wy.cell? ⟨w3.heap.size, 3, none⟩ = some (.int .i64 s3.clock) ∧ wy.cell? ⟨w3.heap.size, 4, none⟩ = some (.int .i64 s3.now) ∧ wy.cell? ⟨wr.heap.size, 0, none⟩ = some (.int .i64 kd) ∧ wy.cell? ⟨wr.heap.size, 1, none⟩ = some (.int .i64 bd) ∧ wy.cell? ⟨wr.heap.size, 2, none⟩ = some (.int .i64 pc) ∧ wy.cell? ⟨wr.heap.size, 3, none⟩ = some (.int .i64 wn) ∧ wy.cell? ⟨wr.heap.size, 4, none⟩ = some (.int .i64 sg) ∧ wy.cell? ⟨wr.heap.size, 5, none⟩ = some (.slice av recs.length cv) ∧ wy.cell? ⟨wr.heap.size, 6, none⟩ = some (.int .i64 er) ∧ wy.cell? ⟨wr.heap.size, 7, none⟩ = some (.int .i64 rd) ∧ wy.cell? ⟨wr.heap.size, 8, none⟩ = some (.int .i64 is) ∧ wy.cell? ⟨wr.heap.size, 9, none⟩ = some (.int .i64 tl) := fun wy h => by
                  obtain ⟨-, s0', -, s1', -, s2', -, s3', -, s4', -⟩ := (hAZ.on (on_below hwc h)).five
                  obtain ⟨-, q0, -, q1, -, q2, -, q3, -, q4, -, q5, -, q6, -, q7, -, q8, -, q9, -⟩ := (hP.on h).ten
                  exact ⟨s0', s1', s2', s3', s4', q0, q1, q2, q3, q4, q5, q6, q7, q8, q9⟩
                have hxd : Below wc.heap.size wc wc.drew := (Below.refl _ _).drew
                go_upto_region 22 with fail
                go_cut [114] (fun v wy => v = .bool false ∧ Below wc.heap.size wc wy)
                case first =>
                  go_region_held3 (fun wy => wy.cell? ⟨w3.heap.size, 0, none⟩ = some (.slice (some ⟨b5, off5, none⟩) m c7) ∧ wy.cell? ⟨w3.heap.size, 1, none⟩ = some (.int .i64 s3.timeout) ∧ wy.cell? ⟨w3.heap.size, 2, none⟩ = some (.int .i64 s3.drift) ∧ wy.cell? ⟨w3.heap.size, 3, none⟩ = some (.int .i64 s3.clock) ∧ wy.cell? ⟨w3.heap.size, 4, none⟩ = some (.int .i64 s3.now) ∧ wy.cell? ⟨wr.heap.size, 0, none⟩ = some (.int .i64 kd) ∧ wy.cell? ⟨wr.heap.size, 1, none⟩ = some (.int .i64 bd) ∧ wy.cell? ⟨wr.heap.size, 2, none⟩ = some (.int .i64 pc) ∧ wy.cell? ⟨wr.heap.size, 3, none⟩ = some (.int .i64 wn) ∧ wy.cell? ⟨wr.heap.size, 4, none⟩ = some (.int .i64 sg) ∧ wy.cell? ⟨wr.heap.size, 5, none⟩ = some (.slice av recs.length cv) ∧ wy.cell? ⟨wr.heap.size, 6, none⟩ = some (.int .i64 er) ∧ wy.cell? ⟨wr.heap.size, 7, none⟩ = some (.int .i64 rd) ∧ wy.cell? ⟨wr.heap.size, 8, none⟩ = some (.int .i64 is) ∧ wy.cell? ⟨wr.heap.size, 9, none⟩ = some (.int .i64 tl))
                    (first | (with_reducible exact HF _ (Below.refl _ _)) | (with_reducible exact HF _ hxd) | (with_reducible exact HF _ hx6) | (with_reducible exact HF _ hx7) | (with_reducible exact HF _ hx8) | fail)
                    (first | (go_at_call 25; (with_reducible refine (hST _ (on_below hwc hxd)).out.mono ?_); rintro e9 wq ⟨rfl, rfl⟩) | (go_at_call 26; (with_reducible refine (hCT _ (on_below hwc hxd)).out.mono ?_); rintro e9 wq ⟨rfl, rfl⟩) | (go_at_call 27; (with_reducible refine (hMK _ (on_below hwc (by first | with_reducible exact hxd | with_reducible exact hx6))).out.mono ?_); rintro e9 wq ⟨rfl, rfl⟩) | (go_at_call 28; (with_reducible refine (hRM _ (on_below hwc hxd)).out.mono ?_); rintro e9 w6 ⟨rfl, hb6⟩; have hx6 := on_below hxd hb6) | (go_at_call 29; (with_reducible refine (hSR _ (on_below hwc (by first | with_reducible exact hx6 | with_reducible exact hx8))).out.mono ?_); rintro e9 w7 ⟨rfl, hb7⟩; have hx7 : Below wc.heap.size wc w7 := (by first | with_reducible exact on_below hx6 hb7 | with_reducible exact on_below hx8 hb7)) | (go_at_call 30; (with_reducible refine (hRR _ (on_below hwc (by first | with_reducible exact hx7 | with_reducible exact hx6))).out.mono ?_); rintro e9 w8 ⟨rfl, hb8⟩; have hx8 : Below wc.heap.size wc w8 := (by first | with_reducible exact on_below hx7 hb8 | with_reducible exact on_below hx6 hb8)) | fail)
                  all_goals (go_wp2_with fail; go_meet)
                  all_goals first | exact ⟨rfl, hx8⟩ | exact ⟨rfl, hx7⟩
                case rest =>
                  obtain ⟨rfl, hbz⟩ := hcut
                  have HBE := Lib.hid (on_below hwc hbz)
                  clear HF hwc hbz hbc hP
                  go_wp2_with fail
                  go_roundw
                  case rel => exact ⟨p + 1, by omega, by go_num, rfl, HBE.out⟩
                  case measure => simp [intOf] <;> omega
            · have hpe : p = m := by omega
              subst hpe
              have hOV := Lib.hid ((hIZ.on hbw).at_over)
              rw [HN3.out] at hOV
              clear hpm hp
              by_cases hin : 0 ≤ a1 ∧ a1 < (s3.ps.length : Nat)
              · obtain ⟨hx1, hx2⟩ := hin
                rw [HN3.out] at hx2
                go_wp2_with (first | (go_at_call 31; (with_reducible refine hOV.out.mono ?_); rintro e9 w6 ⟨rfl, hb6⟩; have hx6 := Lib.hid (on_below hbw hb6); obtain ⟨-, d0, -, d1, -, d2, -, d3, -, d4, -⟩ := (hAZ.on hx6.out).five))
                have HBZ := hx6
                go_roundw
                case rel =>
                  refine ⟨k + 2, tag7, W7, ev7, a7, c7, l7, by omega, (k + 1 : Nat), by go_num, by omega, ?_, ?_, ?_, hg7⟩
                  · show SrcI w0 _ _ _ _ V g (s0.run (cs.take (k + 1))) (l0 ++ s0.runE (cs.take (k + 1))) l0.length
                    rw [HS3.out, HE3.out]; exact hIZ.on HBZ.out
                  · show At _ w3.heap.size [.slice _ _ _, .int .i64 (s0.run (cs.take (k + 1))).timeout, .int .i64 (s0.run (cs.take (k + 1))).drift, .int .i64 (s0.run (cs.take (k + 1))).clock, .int .i64 (s0.run (cs.take (k + 1))).now]
                    rw [HS3.out]; exact hAZ.on HBZ.out
                  · show RefR w3 _ _ w3.heap.size _ _ _ (s0.run (cs.take (k + 1)))
                    rw [HS3.out]; exact hRZ.on HBZ.out
                case measure => simp [intOf] <;> omega
              · have hNS := fun wy (hx : Below wq.heap.size wq wy) => Lib.hid ((hIZ.on hx).no_status a1 hin)
                have hNC := fun wy (hx : Below wq.heap.size wq wy) => Lib.hid ((hIZ.on hx).no_count a1 hin)
                have hNM := fun wy (hx : Below wq.heap.size wq wy) => Lib.hid ((hIZ.on hx).no_mark a1 hin)
                have hNR := fun wy (hx : Below wq.heap.size wq wy) => Lib.hid ((hIZ.on hx).at_refused a1 true (refused_out s3 a1 hin))
                rw [HN3.out] at hin
                by_cases hneg : a1 < 0
                · clear hin
                  go_wp2_with (first | (go_at_call 31; (with_reducible refine hOV.out.mono ?_); rintro e9 w6 ⟨rfl, hb6⟩; have hx6 := Lib.hid (on_below hbw hb6); obtain ⟨-, d0, -, d1, -, d2, -, d3, -, d4, -⟩ := (hAZ.on hx6.out).five) | (go_at_call 25; (with_reducible refine (hNS _ hx6.out).out.mono ?_); rintro e9 w7 ⟨rfl, rfl⟩) | (go_at_call 26; (with_reducible refine (hNC _ hx6.out).out.mono ?_); rintro e9 w7 ⟨rfl, rfl⟩) | (go_at_call 27; (with_reducible refine (hNM _ hx6.out).out.mono ?_); rintro e9 w7 ⟨rfl, rfl⟩) | (go_at_call 29; (with_reducible refine (hNR _ hx6.out).out.mono ?_); rintro e9 w8 ⟨rfl, hb8⟩; have HBZ := Lib.hid (on_below hx6.out hb8)))
                  go_roundw
                  case rel =>
                    refine ⟨k + 2, tag7, W7, ev7, a7, c7, l7, by omega, (k + 1 : Nat), by go_num, by omega, ?_, ?_, ?_, hg7⟩
                    · show SrcI w0 _ _ _ _ V g (s0.run (cs.take (k + 1))) (l0 ++ s0.runE (cs.take (k + 1))) l0.length
                      rw [HS3.out, HE3.out]; exact hIZ.on HBZ.out
                    · show At _ w3.heap.size [.slice _ _ _, .int .i64 (s0.run (cs.take (k + 1))).timeout, .int .i64 (s0.run (cs.take (k + 1))).drift, .int .i64 (s0.run (cs.take (k + 1))).clock, .int .i64 (s0.run (cs.take (k + 1))).now]
                      rw [HS3.out]; exact hAZ.on HBZ.out
                    · show RefR w3 _ _ w3.heap.size _ _ _ (s0.run (cs.take (k + 1)))
                      rw [HS3.out]; exact hRZ.on HBZ.out
                  case measure => simp [intOf] <;> omega
                · have hge : (p : Int) ≤ a1 := by omega
                  have hpos : 0 ≤ a1 := by omega
                  clear hin hneg
                  go_wp2_with (first | (go_at_call 31; (with_reducible refine hOV.out.mono ?_); rintro e9 w6 ⟨rfl, hb6⟩; have hx6 := Lib.hid (on_below hbw hb6); obtain ⟨-, d0, -, d1, -, d2, -, d3, -, d4, -⟩ := (hAZ.on hx6.out).five) | (go_at_call 25; (with_reducible refine (hNS _ hx6.out).out.mono ?_); rintro e9 w7 ⟨rfl, rfl⟩) | (go_at_call 26; (with_reducible refine (hNC _ hx6.out).out.mono ?_); rintro e9 w7 ⟨rfl, rfl⟩) | (go_at_call 27; (with_reducible refine (hNM _ hx6.out).out.mono ?_); rintro e9 w7 ⟨rfl, rfl⟩) | (go_at_call 29; (with_reducible refine (hNR _ hx6.out).out.mono ?_); rintro e9 w8 ⟨rfl, hb8⟩; have HBZ := Lib.hid (on_below hx6.out hb8)))
                  go_roundw
                  case rel =>
                    refine ⟨k + 2, tag7, W7, ev7, a7, c7, l7, by omega, (k + 1 : Nat), by go_num, by omega, ?_, ?_, ?_, hg7⟩
                    · show SrcI w0 _ _ _ _ V g (s0.run (cs.take (k + 1))) (l0 ++ s0.runE (cs.take (k + 1))) l0.length
                      rw [HS3.out, HE3.out]; exact hIZ.on HBZ.out
                    · show At _ w3.heap.size [.slice _ _ _, .int .i64 (s0.run (cs.take (k + 1))).timeout, .int .i64 (s0.run (cs.take (k + 1))).drift, .int .i64 (s0.run (cs.take (k + 1))).clock, .int .i64 (s0.run (cs.take (k + 1))).now]
                      rw [HS3.out]; exact hAZ.on HBZ.out
                    · show RefR w3 _ _ w3.heap.size _ _ _ (s0.run (cs.take (k + 1)))
                      rw [HS3.out]; exact hRZ.on HBZ.out
                  case measure => simp [intOf] <;> omega
  · obtain ⟨z, hzz⟩ : ∃ z, nerr rs t dr m = z := ⟨_, rfl⟩
    have hz0 : z ≠ 0 := by rw [← hzz]; exact hz
    have HRN := Lib.hid (ref_new_none rs t dr a n c b m c2 w2 (hC0.hru.below hb2) hC0.hn (by have := hSm.2.2.1; omega) z hzz hz0)
    have hzb : (z != 0) = true := by rw [bne_iff_ne]; exact hz0
    have HBX := Lib.hid hbx
    have e := fun (w : World) (o : Obj) => (Below.refl w.heap.size w).alloc (Nat.le_refl _) o
    clear hSm hz hzz hz0 hb2' HSP HSM hC0
    go_wp2_with (first | (go_at_call 15; (with_reducible refine HRN.out.mono ?_); rintro e4 w4 ⟨rfl, hb4⟩) | fail)
    go_ret
    exact ⟨rfl, on_below HBX.out (on_below (on_below hb2 hb4) (e w4 _))⟩
end Go.Proofs.YtoecikeleoaecaaGreat
