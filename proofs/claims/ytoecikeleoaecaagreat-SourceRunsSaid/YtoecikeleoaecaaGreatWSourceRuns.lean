/- The walk of SourceRuns. -/
import Derived.Test.YtoecikeleoaecaaGreatKCase
import Derived.Test.YtoecikeleoaecaaGreatRefR
namespace Go.Proofs.YtoecikeleoaecaaGreat
set_option maxRecDepth 4000
open Go.ChangeShapes Go.WideShapes Go.ChangeAt Go.RowKit
open PHist PRing PSat PClamp PBound PFrame PVar PCrc PSign PTree PEv
set_option linter.unusedVariables false
set_option linter.unusedSimpArgs false

/-- A source, and the document's state beside it, and all events. -/
def Beside (w0 w1 : World) (t1 : Nat → Prop) (V : SrcV) (g g5 : Nat) (wr : World) (s : St) (evs : List Ev) (beg : Nat) (va : Value) : Prop :=
  ∃ (tag : Nat → Nat) (W : Nat → Nat → Prop) (ev : Value) (a : Option Addr) (c : Nat) (l : List Pv), SrcI w0 wr tag W ev V g s evs beg ∧ At wr g5 [.slice a s.ps.length c, .int .i64 s.timeout, .int .i64 s.drift, .int .i64 s.clock, .int .i64 s.now] ∧ RefR w1 t1 tag g5 wr a l s ∧ EvR w0.heap.size tag g5 wr va evs ∧ tag g5 = 0
set_option maxRecDepth 100000 in
set_option maxHeartbeats 4000000 in
theorem walk_SourceRuns (w : World) (c0 : Array Value) (d0 : (((List (Int × Int × Int × Int × Int × Unit)) × Int × Int × Unit) × (List ByteArray) × (List (Bool × Int × Unit)) × Unit)) (w0 : Rd w (.pair (.pair (.sl (.pair (.int .i64) (.pair (.int .i64) (.pair (.int .i64) (.pair (.int .i64) (.pair (.int .i64) .unit)))))) (.pair (.int .i64) (.pair (.int .i64) .unit))) (.pair (.sl .str) (.pair (.sl (.pair .bool (.pair (.int .i64) .unit))) .unit))) c0.toList d0) :
    Calls Tryz.prog 3 #[.agg c0] w fun e w' => e = .returned (.bool true) ∧ Below w.heap.size w w' := by
  obtain ⟨a, n, c, t, dr, b, m, c2, q, nq, c3, rs, ls, cs, rfl, hC⟩ := Rd.case w0
  clear w0
  have hbx : Below w.heap.size w (w.alloc (.cells #[.slice a n c, .int .i64 t, .int .i64 dr, .slice b m c2, .slice q nq c3] 28)) := (Below.refl _ _).alloc (Nat.le_refl _) _
  have hA0 := At.alloc w [.slice a n c, .int .i64 t, .int .i64 dr, .slice b m c2, .slice q nq c3] 28
  have hC0 := hC.on hbx
  have hsz : w.heap.size < (w.alloc (.cells #[.slice a n c, .int .i64 t, .int .i64 dr, .slice b m c2, .slice q nq c3] 28)).heap.size := hA0.1
  clear hC
  have HSP := fun wx => Lib.hid (speaks23 wx)
  go_enter Tryz.func3, Tryz.ntmps3
  go_wp2_with fail
  generalize w.alloc (.cells #[.slice a n c, .int .i64 t, .int .i64 dr, .slice b m c2, .slice q nq c3] 28) = w0 at *
  have HSM := fun wx (hx : Below w0.heap.size w0 wx) => Lib.hid (law_small a n c t dr b m c2 q nq c3 ls wx (hC0.on hx).hlo hC0.hm (fun s hs => hC0.hsl s hs))
  have HA := fun wx (hx : Below w0.heap.size w0 wx) => At.five (hA0.below hx hsz)
  go_wp2_with (go_at_call 12; (with_reducible refine (HSP _).out.mono ?_); rintro e w1 ⟨rfl, hb1⟩; obtain ⟨-, x0, -, x1, -, x2, -, x3, -, x4, -⟩ := HA _ hb1)
  go_at_call 13
  refine (HSM _ hb1).out.mono ?_
  intro e w2 hS
  obtain ⟨z, rfl, hz, hb2'⟩ := hS
  have hb2 := on_below hb1 hb2'
  obtain ⟨-, y0, -, y1, -, y2, -, y3, -, y4, -⟩ := HA _ hb2
  rcases hz with rfl | ⟨rfl, hSm⟩
  · go_wp2
    go_ret
    exact ⟨rfl, on_below hbx hb2⟩
  by_cases hz : nerr rs t dr m = 0
  · have HN := Lib.hid (case_new rs t dr ls a n c b m c2 w0 w2 hb2 hC0.hru hC0.hlo hC0.hn hC0.hm hz hSm.1 hC0.hfit hC0.ht hC0.hd hSm.2.2.2)
    have HRN := fun wx (hx : Below w0.heap.size w0 wx) => Lib.hid (ref_new rs t dr ls a n c b m c2 wx (hC0.hru.below hx) (hC0.hlo.below hx) hC0.hn hC0.hm hz hSm.1 hC0.hfit hC0.ht hC0.hd hSm.2.2.2)
    have HPY := fun wx (hx : Below w0.heap.size w0 wx) => Lib.hid (so_play rs t dr ls cs a n c b m c2 q nq c3 wx (hC0.hru.below hx) (hC0.hlo.below hx) (hC0.hch.below hx) hC0.hn hC0.hm hC0.hnq hz hSm.1 hC0.hfit hC0.ht hC0.hd hSm.2.2.2 hC0.hci (by have := hSm.2.1; omega))
    have hel := newE_len t rs (ls.map fun s => s.data.toList)
    have hmn := (nerr_zero hz).2
    generalize St.new t dr rs (ls.map fun s => s.data.toList) = s0 at *
    generalize St.newE t rs (ls.map fun s => s.data.toList) = l0 at *
    have HL : Hid (l0.length ≤ 9) := by show l0.length ≤ 9; have := hSm.1; omega
    have hnq : nq ≤ 120 := hSm.2.1
    have HQ := Lib.hid hC0.hnq
    have HCI := Lib.hid hC0.hci
    have HCH := Lib.hid hC0.hch
    have HBX := Lib.hid hbx
    clear hel hSm hz hb2' hmn HSP HSM
    clear hC0
    go_wp2_with (first | (go_at_call 14; (with_reducible refine HN.out.mono ?_); intro e w3 hN; obtain ⟨tag, W, ev, V, g, rfl, hI, hb3⟩ := hN; have hb3' := on_below hb2 hb3; have HR3 := HRN w3 hb3'; obtain ⟨-, i0, -, i1, -, i2, -, i3, -, i4, -⟩ := HA _ hb3') | (go_at_call 15; (with_reducible refine HR3.out.mono ?_); intro e w4 hY; obtain ⟨a4, c4, l4, r4, rfl, hP4, hps4, hr4, hb4, hna4, hap4, hnr4⟩ := hY) | fail)
    have e := fun (w : World) (o : Obj) => (Below.refl w.heap.size w).alloc (Nat.le_refl _) o
    have hI1 := hI.re
    have ht1 : ∀ b, w3.heap.size ≤ b → retag tag w3.heap.size 0 b = 0 := fun b hb => retag_new hb
    clear hI
    generalize retag tag w3.heap.size 0 = tag1 at *
    have hs3 := hb3'.size
    have hR4 : RefR w4 (fun b => tag1 b ≠ 0) tag1 w4.heap.size w4 a4 l4 s0 := ⟨hP4.row, fun v hv => ⟨(hP4.ok v hv).row, (hP4.ok v hv).le, (hP4.ok v hv).cap, fun p hp h0 hn => hn (ht1 _ (hnr4 v hv p hp h0))⟩, hps4, Upd.refl _ _, fun p hp h0 => ⟨ht1 _ (hna4 p hp h0), by
      obtain ⟨b', off, hab, hb, -⟩ := hP4.row.at_ 0 h0
      rw [hab] at hp; cases hp
      exact Nat.ne_of_lt hb⟩, fun b _ h => h, Nat.le_refl _⟩
    have hE4 : EvR w0.heap.size tag1 w4.heap.size w4 r4 l0 := ⟨hr4.base hs3, fun b hb => ⟨ht1 _ (hr4.lt b hb).1, by have := (hr4.lt b hb).2; omega⟩⟩
    have hA5 := At.alloc w4 [.slice a4 s0.ps.length c4, .int .i64 s0.timeout, .int .i64 s0.drift, .int .i64 s0.clock, .int .i64 s0.now] 37
    have hbS := e w4 (.cells #[.slice a4 s0.ps.length c4, .int .i64 s0.timeout, .int .i64 s0.drift, .int .i64 s0.clock, .int .i64 s0.now] 37)
    have hI5 := (hI1.on hb4).on hbS
    have hR5 := hR4.on hbS
    have hE5 := hE4.on hbS
    have hB5 := on_below (on_below hb3' hb4) hbS
    have htg : tag1 w4.heap.size = 0 := ht1 _ hb4.size
    clear hR4 hE4 hbS hI1 hP4 hps4 hr4 hna4 hap4 hnr4 HR3 HN HRN i0 i1 i2 i3 i4 y0 y1 y2 y3 y4 x0 x1 x2 x3 x4
    generalize w4.alloc (.cells #[.slice a4 s0.ps.length c4, .int .i64 s0.timeout, .int .i64 s0.drift, .int .i64 s0.clock, .int .i64 s0.now] 37) = w5 at *
    have hl5 : l0.length ≤ 100000 := by have := HL.out; omega
    have HBG : Hid (Calls Tryz.prog 19 #[.pointer (some ⟨g, 0, none⟩)] w5 (ClPost 1 l0.length (l0.map evv) w5)) := by
      have h : Calls Tryz.prog 19 #[.pointer (some ⟨g, 0, none⟩)] w5 (ClPost 1 l0.length ((l0.take l0.length).map evv) w5) := so_begin tag1 W ev V g _ w5 hI5.src hl5 (Nat.le_refl _)
      rw [List.take_length] at h
      exact h
    go_wp2_with (first | (go_at_call 19; (with_reducible refine HBG.out.mono ?_); intro e w6 hY; obtain ⟨v6, rfl, hv6, hb6⟩ := hY; have HPL := Lib.hid (plain_of hv6 hl5)) | (go_at_call 18; (with_reducible refine HPL.out.mono ?_); intro e w7 hY; obtain ⟨v7, rfl, hv7, hb7⟩ := hY; have HSA := Lib.hid (same_of hv7 ((hE5.on hb6).on hb7).row hl5)) | (go_at_call 17; (with_reducible refine HSA.out.mono ?_); rintro e w8 ⟨rfl, hb8⟩; have hb58 := on_below (on_below hb6 hb7) hb8; obtain ⟨-, j0, -, j1, -, j2, -, j3, -, j4, -⟩ := HA _ (on_below hB5 hb58)) | fail)
    have hBS : Beside w0 w4 (fun b => tag1 b ≠ 0) V g w4.heap.size w8 s0 l0 l0.length r4 := ⟨tag1, W, ev, a4, c4, l4, hI5.on hb58, hA5.on hb58, hR5.on hb58, hE5.on hb58, htg⟩
    go_loopw [10, 79] (fun va i wr => ∃ k : Nat, k ≤ nq ∧ i = .int .i64 k ∧ Beside w0 w4 (fun b => tag1 b ≠ 0) V g w4.heap.size wr (s0.run (cs.take k)) (l0 ++ s0.runE (cs.take k)) l0.length va) (fun _ i _ => nq - (intOf i).toNat)
    case atStart =>
      refine ⟨0, Nat.zero_le _, rfl, ?_⟩
      show Beside w0 w4 _ V g w4.heap.size w8 s0 (l0 ++ []) l0.length r4
      rw [List.append_nil]
      exact hBS
    case round =>
      clear hBS hI5 hA5 hR5 hE5 HBG
      obtain ⟨k, hk, rfl, tag, W, ev, a5, c5, l5, hI, hA5, hR, hE, hg5⟩ := hrel
      by_cases hlt : k < nq
      · have hkc : k < cs.length := by rw [← HQ.out]; exact hlt
        have hrow := HCH.out.below hI.new
        obtain ⟨bq, offq, hq', -, -⟩ := hrow.at_ k hkc
        subst hq'
        obtain ⟨hbq, r0, r1⟩ := RowC.cells hrow k hkc
        have hin := HCI.out _ (List.getElem_mem hkc)
        have hrl := runE_len (cs.take k) s0
        rw [List.length_take] at hrl
        have hel : (l0 ++ s0.runE (cs.take k)).length ≤ 9000 := by rw [List.length_append]; have := HL.out; omega
        have hS1 := run_take s0 cs k hkc
        have hE1 := runE_take s0 cs k hkc
        generalize hck : cs[k] = x at *
        have HCK := Lib.hid hck
        clear hck hrow
        obtain ⟨ct, cn⟩ := x
        simp only at r0 r1 hin
        have hd3 := doE_len (s0.run (cs.take k)) (ct, cn)
        have hI1 := hI.re
        have hR1 := hR.re wr.heap.size
        have hE4 := hE.re wr.heap.size
        have htn : ∀ b, wr.heap.size ≤ b → retag tag wr.heap.size 0 b = 0 := fun b hb => retag_new hb
        have hgt : retag tag wr.heap.size 0 w4.heap.size = 0 := by rw [retag_old hA5.1]; exact hg5
        generalize retag tag wr.heap.size 0 = tg at *
        have hbc := e wr (.cells #[.bool ct, .int .i64 cn] 48)
        have hC3 := At.alloc wr [.bool ct, .int .i64 cn] 48
        have hIA := hI1.on hbc
        have hAA := hA5.on hbc
        have hEA := hE4.on hbc
        have hRA := hR1.on hbc
        have hRD := Lib.hid (hRA.does hAA.1 (fun b hb => htn b (by rw [World.size_alloc] at hb; omega)) c5 hI1.ok ct cn hin)
        clear hI hR hE hg5 hrl hI1 hR1 hE4 hRA
        have hw4 := hB5.size
        have h04 : w0.heap.size ≤ w4.heap.size := Nat.le_trans hb3'.size hb4.size
        have HS1 : Hid (s0.run (cs.take (k + 1)) = (s0.run (cs.take k)).doS (ct, cn)) := hS1
        have HE1 : Hid (l0 ++ s0.runE (cs.take (k + 1)) = (l0 ++ s0.runE (cs.take k)) ++ (s0.run (cs.take k)).doE (ct, cn)) := by show _ = _; rw [hE1, List.append_assoc]
        clear hS1 hE1
        have hDS := Lib.hid (rfl : (s0.run (cs.take k)).doS (ct, cn) = (s0.run (cs.take k)).doS (ct, cn))
        have hMV := fun w' tagx Wx evx (hIx : SrcI w0 w' tagx Wx evx V g (s0.run (cs.take k)) (l0 ++ s0.runE (cs.take k)) l0.length) => Lib.hid (hIx.goes (ct, cn) hin (by omega))
        generalize (s0.run (cs.take k)).doE (ct, cn) = e5 at *
        generalize (s0.run (cs.take k)).doS (ct, cn) = s5 at *
        generalize l0 ++ s0.runE (cs.take k) = e4 at *
        go_upto_region 18 with fail
        have hwA : wr.heap.size < (wr.alloc (.cells #[.bool ct, .int .i64 cn] 48)).heap.size := hC3.1
        clear r0 r1 hbq
        generalize wr.alloc (.cells #[.bool ct, .int .i64 cn] 48) = wA at *
        obtain ⟨-, c0, z0, c1, z1⟩ := hC3.two
        obtain ⟨-, d0, o0, d1, o1, d2, o2, d3, o3, d4, o4⟩ := hAA.five
        go_upto_region 20 with (first | (go_at_call 20; (with_reducible refine hRD.out.mono ?_); intro e w6 hY; obtain ⟨a6, c6, l6, r6, rfl, hR6, hv6, hb6⟩ := hY; obtain ⟨-, t0, p0, t1, p1, t2, p2, t3, p3, t4, p4⟩ := ((hAA.on hb6).on (e w6 (.cells #[.slice a6 s5.ps.length c6, .int .i64 s5.timeout, .int .i64 s5.drift, .int .i64 s5.clock, .int .i64 s5.now] 37))).five) | fail)
        clear c0 z0 c1 z1 d0 o0 d1 o1 d2 o2 d3 o3 d4 o4 t0 p0 t1 p1 t2 p2 t3 p3 t4 p4 hRD
        have hb7 := e w6 (.cells #[.slice a6 s5.ps.length c6, .int .i64 s5.timeout, .int .i64 s5.drift, .int .i64 s5.clock, .int .i64 s5.now] 37)
        have hu8 := upd_all5 (w6.alloc (.cells #[.slice a6 s5.ps.length c6, .int .i64 s5.timeout, .int .i64 s5.drift, .int .i64 s5.clock, .int .i64 s5.now] 37)) w4.heap.size (.slice a6 s5.ps.length c6) (.int .i64 s5.timeout) (.int .i64 s5.drift) (.int .i64 s5.clock) (.int .i64 s5.now)
        have hA8 := At.all5 ((hAA.on hb6).on hb7) (.slice a6 s5.ps.length c6) (.int .i64 s5.timeout) (.int .i64 s5.drift) (.int .i64 s5.clock) (.int .i64 s5.now)
        have hI8 := ((hIA.on hb6).on hb7).set hu8 hgt h04
        have hR8 := (hR6.on hb7).set hu8
        have hE8 := ((hEA.on hb6).on hb7).set hu8
        have hsA := hAA.1
        have hv8 : EvR w0.heap.size tg w4.heap.size _ r6 e5 := (EvR.on (⟨hv6.base (by omega), fun b hb => ⟨htn b (by have := (hv6.lt b hb).1; omega), by have := (hv6.lt b hb).1; omega⟩⟩ : EvR w0.heap.size tg w4.heap.size w6 r6 e5) hb7).set hu8
        have hC8 := ((hC3.on hb6).on hb7).upd hu8 (fun h => by have h' : wr.heap.size = w4.heap.size := h; have := hA5.1; omega)
        have hs8 : wA.heap.size ≤ _ := Nat.le_trans (Nat.le_trans hb6.size hb7.size) hu8.size
        generalize (((((w6.alloc (.cells #[.slice a6 s5.ps.length c6, .int .i64 s5.timeout, .int .i64 s5.drift, .int .i64 s5.clock, .int .i64 s5.now] 37)).setCell ⟨w4.heap.size, 0, none⟩ (.slice a6 s5.ps.length c6)).setCell ⟨w4.heap.size, 1, none⟩ (.int .i64 s5.timeout)).setCell ⟨w4.heap.size, 2, none⟩ (.int .i64 s5.drift)).setCell ⟨w4.heap.size, 3, none⟩ (.int .i64 s5.clock)).setCell ⟨w4.heap.size, 4, none⟩ (.int .i64 s5.now) = w8' at *
        clear hIA hAA hEA hC3 hR6 hv6 hb7 hu8
        obtain ⟨j0, hj0, hz0, hz1, hz2⟩ := info_parts info_evr
        have hsh1 := hE8.row.shape
        obtain ⟨aa, ca, hva⟩ := hsh1
        subst hva
        obtain ⟨ar, cr, hva⟩ := hv8.row.shape
        subst hva
        have hb9 := e w8' (.cells #[] 119)
        have hs0 : Sl w8'.heap.size (w8'.alloc (.cells #[] 119)) 8 (.slice (some ⟨w8'.heap.size, 0, none⟩) 0 0) 0 [] := by
          have h := Sl.made (B := w8'.heap.size) w8' #[] 119 8 0 0 (Nat.le_refl _) (Nat.le_refl _) (Nat.zero_le _) (by simp)
          simpa using h
        have hmx : e4.length + e5.length ≤ maxLen := by unfold maxLen; omega
        go_upto_region 21 with (first | (at_builtin; refine wpList_append_sl _ rfl (.tmp 90) (.tmp 91) 38 38 rfl 119 j0 _ 72 Tryz.underlying38 hj0 hz0 hz1 hz2 rfl rfl hs0 (.slice aa e4.length ca) e4.length (evcs e4) rfl (src_sl (hE8.row.on hb9) Tryz.underlying38 (evcs_one _)) (by omega) (by omega) (by simp) ?_; intro v10 w10 k1 k2 k3; have k1' := k1; rw [Nat.zero_add, List.nil_append] at k1'; have hr10 := (hv8.row.on hb9).upd k2 (fun q hq h => by have h2 : w8'.heap.size = q := Option.some.inj h; have := (hv8.row.lt q hq).2; omega); have hs10 := k2.size; obtain ⟨a10, c10, hv10⟩ := k1'.shape; subst hv10) | (at_builtin; refine wpList_append_sl _ rfl (.tmp 92) (.tmp 93) 38 38 rfl 119 j0 _ 72 Tryz.underlying38 hj0 hz0 hz1 hz2 rfl rfl k1' (.slice ar e5.length cr) e5.length (evcs e5) rfl (src_sl hr10 Tryz.underlying38 (evcs_one _)) hmx (by omega) (by simp at hs10; omega) ?_; intro v11 w11 l1 l2 l3))
        have hb10 : Below w8'.heap.size w8' w10 := hb9.upd k2 hb9.size (fun q _ h => by have h2 : w8'.heap.size = q := Option.some.inj h; omega)
        have hb11 : Below w8'.heap.size w8' w11 := hb10.upd l2 hb10.size (fun q _ h => (k1'.lt q h).1)
        have hD11 := on_below hb11 (Below.refl w11.heap.size w11).drew
        have hI11 := hI8.on hD11
        have hA11 := hA8.on hD11
        have hR11 := hR8.on hD11
        have hr11 := hv8.on hD11
        have hC11 := hC8.on hD11
        have h8w : w0.heap.size ≤ w8'.heap.size := Nat.le_trans h04 (Nat.le_of_lt hA8.1)
        have hE11 : EvR w0.heap.size tg w4.heap.size w11.drew v11 (e4 ++ e5) := ⟨by
          have h := (l1.base h8w).drew
          rw [List.length_append, show evcs (e4 ++ e5) = evcs e4 ++ evcs e5 by simp [evcs]]
          exact h, fun q hq => ⟨htn q (by have := (l1.lt q hq).1; omega), by have := (l1.lt q hq).1; have := hA8.1; omega⟩⟩
        have hMV1 := hMV _ tg W ev hI11
        have hgl := hA11.1
        clear hI8 hA8 hR8 hE8 hv8 hC8 hb10 hb11 hD11 k1 k1' k2 k3 l1 l2 l3 hr10 hs0 hmx hMV
        obtain ⟨-, c0, z0, c1, z1⟩ := hC11.two
        go_cut [115] (fun v wx => v = .bool false ∧ Beside w0 w4 (fun b => tag1 b ≠ 0) V g w4.heap.size wx s5 (e4 ++ e5) l0.length v11)
        case first =>
          go_region_with (first | (go_at_call 21; (with_reducible refine hMV1.out.mono ?_); intro e w12 hY; obtain ⟨v12, tag2, W2, ev2, rfl, hv12, hI12, hu12, hf12, ht12⟩ := hY; have hA12 := hA11.upd hu12 (fun h => h hgt); have hR12 := hR11.src hu12 ht12; have hE12 := hE11.src hu12 ht12; have hr12 := hr11.src hu12 ht12; have hg12 : tag2 w4.heap.size = 0 := (Classical.byContradiction fun hn => (ht12 _ hn).elim (fun h => h hgt) (fun h => Nat.not_le_of_lt hgl h)); have hPL := Lib.hid (plain_of hv12 (by omega))) | (go_at_call 18; (with_reducible refine hPL.out.mono ?_); intro e w13 hY; obtain ⟨v13, rfl, hv13, hb13⟩ := hY; have hSA := Lib.hid (same_of hv13 (hr12.on hb13).row (by omega))) | (go_at_call 17; (with_reducible refine hSA.out.mono ?_); rintro e w14 ⟨rfl, hb14⟩; have hb134 := on_below hb13 hb14; have hI14 := hI12.on hb134; have hA14 := hA12.on hb134; have hNW := Lib.hid hI14.now; have hTM := Lib.hid hI14.time; obtain ⟨-, d0, o0, d1, o1, d2, o2, d3, o3, d4, o4⟩ := hA14.five) | (go_at_call 22; (with_reducible refine hNW.out.mono ?_); rintro e w15 ⟨rfl, rfl⟩) | (go_at_call 23; (with_reducible refine hTM.out.mono ?_); rintro e w16 ⟨rfl, rfl⟩))
          all_goals (go_wp2_with fail; go_meet)
          all_goals exact ⟨rfl, tag2, W2, ev2, a6, c6, l6, hI14, hA14, hR12.on hb134, hE12.on hb134, hg12⟩
        case rest =>
          obtain ⟨rfl, hB⟩ := hcut
          have hBB := Lib.hid hB
          clear hB
          go_wp2_with fail
          go_roundw
          case rel =>
            refine ⟨k + 1, by omega, by go_num, ?_⟩
            rw [HS1.out, HE1.out]
            exact hBB.out
          case measure => simp [intOf] <;> omega
      · obtain rfl : k = nq := by omega
        rw [List.take_of_length_le (by rw [HQ.out]; exact Nat.le_refl _)] at hI hE
        have hrl := runE_len cs s0
        have hel : (l0 ++ s0.runE cs).length ≤ 100000 := by rw [List.length_append]; have := HL.out; have := HQ.out; omega
        have hnw := hI.new
        obtain ⟨-, x0, -, x1, -, x2, -, x3, -, x4, -⟩ := HA _ hnw
        have hPP := HPY _ hnw
        generalize l0 ++ s0.runE cs = e4 at *
        have hEV := fun wx (hx : Below wr.heap.size wr wx) => Lib.hid (so_events tag W ev V g _ wx (hI.on hx).src hel)
        have hER := fun wx (hx : Below wr.heap.size wr wx) => (hE.on hx).row
        have HNW := Lib.hid hnw
        clear hI hA5 hR hE hg5 hrl HA hnw
        go_wp2_with (first | (go_at_call 16; (with_reducible refine hPP.out.mono ?_); intro e w5 hY; obtain ⟨v5, rfl, hv5, hb5⟩ := hY; have hEW := hEV _ hb5) | (go_at_call 24; (with_reducible refine hEW.out.mono ?_); rintro e w6 ⟨v6, rfl, hv6, hb6⟩; have hP1 := Lib.hid (plain_of (l := e4) hv6 hel)) | (go_at_call 18; (with_reducible refine hP1.out.mono ?_); intro e w7 hY; obtain ⟨v7, rfl, hv7, hb7⟩ := hY; have hb67 := on_below (on_below hb5 hb6) hb7; have hS1 := Lib.hid (same_of hv7 (hER _ hb67) hel)) | (go_at_call 17; (with_reducible refine hS1.out.mono ?_); rintro e w8 ⟨rfl, hb8⟩; have hb68 := on_below hb67 hb8; have hP2 := Lib.hid (plain_of (((hv5.on hb6).on hb7).on hb8) hel)) | (go_at_call 18; (with_reducible refine hP2.out.mono ?_); intro e w9 hY; obtain ⟨v9, rfl, hv9, hb9⟩ := hY; have hb69 := on_below hb68 hb9; have hS2 := Lib.hid (same_of hv9 (hER _ hb69) hel)) | (go_at_call 17; (with_reducible refine hS2.out.mono ?_); rintro e w10 ⟨rfl, hb10⟩))
        go_ret
        exact ⟨rfl, on_below HBX.out (on_below HNW.out (on_below hb69 hb10))⟩
  · obtain ⟨z, hzz⟩ : ∃ z, nerr rs t dr m = z := ⟨_, rfl⟩
    have hz0 : z ≠ 0 := by rw [← hzz]; exact hz
    have HN := Lib.hid (so_new_none rs t dr ls a n c b m c2 w2 (hC0.hru.below hb2) hC0.hn (by have := hSm.2.2.1; omega) hC0.hm z hzz hz0)
    have HRN := fun wx (hx : Below w0.heap.size w0 wx) => Lib.hid (ref_new_none rs t dr a n c b m c2 wx (hC0.hru.below hx) hC0.hn (by have := hSm.2.2.1; omega) z hzz hz0)
    have HPY := fun wx (hx : Below w0.heap.size w0 wx) => Lib.hid (so_play_none rs t dr ls a n c b m c2 (.slice q nq c3) wx (hC0.hru.below hx) hC0.hn (by have := hSm.2.2.1; omega) hC0.hm z hzz hz0)
    have hzb : (z != 0) = true := by rw [bne_iff_ne]; exact hz0
    have HBX := Lib.hid hbx
    have e := fun (w : World) (o : Obj) => (Below.refl w.heap.size w).alloc (Nat.le_refl _) o
    clear hSm hz hzz hz0 hb2' HSP HSM hC0
    go_wp2_with (first | (go_at_call 14; (with_reducible refine HN.out.mono ?_); rintro e3 w3 ⟨rfl, hb3⟩; have hb3' := on_below hb2 hb3; have HR3 := HRN w3 hb3'; obtain ⟨-, i0, -, i1, -, i2, -, i3, -, i4, -⟩ := HA _ hb3') | (go_at_call 15; (with_reducible refine HR3.out.mono ?_); rintro e4 w4 ⟨rfl, hb4⟩; have hb4' := on_below (on_below hb3' hb4) (e w4 (.cells #[.slice none 0 0, .int .i64 0, .int .i64 0, .int .i64 0, .int .i64 0] 37)); have HP4 := HPY _ hb4'; obtain ⟨-, k0, -, k1, -, k2, -, k3, -, k4, -⟩ := HA _ hb4') | (go_at_call 16; (with_reducible refine HP4.out.mono ?_); rintro e5 w5 ⟨rfl, hb5⟩))
    go_ret
    exact ⟨rfl, on_below HBX.out (on_below hb4' hb5)⟩
end Go.Proofs.YtoecikeleoaecaaGreat
