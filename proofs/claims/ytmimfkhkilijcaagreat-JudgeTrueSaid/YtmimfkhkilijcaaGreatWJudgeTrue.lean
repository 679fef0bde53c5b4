/- The walk of JudgeTrue. -/
import Derived.Test.YtmimfkhkilijcaaGreatKSp25
import Derived.Test.YtmimfkhkilijcaaGreatCase25
import Derived.Test.YtmimfkhkilijcaaGreatKJuC
import Derived.Test.YtmimfkhkilijcaaGreatKJuD
namespace Go.Proofs.YtmimfkhkilijcaaGreat
set_option maxRecDepth 4000
open Go.ChangeShapes Go.WideShapes Go.ChangeAt Go.RowKit
open PHist PRing PSat PClamp PBound PFrame PVar PCrc PSign PTree PEv
set_option linter.unusedVariables false
set_option linter.unusedSimpArgs false

set_option maxRecDepth 100000 in
set_option maxHeartbeats 4000000 in
theorem walk_JudgeTrue (w : World) (c0 : Array Value) (d0 : (((List (Int × Int × Int × Int × Int × Unit)) × Int × Int × Unit) × (List ByteArray) × (List (Bool × Int × Unit)) × Unit)) (w0 : Rd w (.pair (.pair (.sl (.pair (.int .i64) (.pair (.int .i64) (.pair (.int .i64) (.pair (.int .i64) (.pair (.int .i64) .unit)))))) (.pair (.int .i64) (.pair (.int .i64) .unit))) (.pair (.sl .str) (.pair (.sl (.pair .bool (.pair (.int .i64) .unit))) .unit))) c0.toList d0) :
    Calls Tryz.prog 3 #[.agg c0] w fun e w' => e = .returned (.bool true) ∧ Below w.heap.size w w' := by
  obtain ⟨a, n, c, t, dr, b, m, c2, q, nq, c3, rs, ls, cs, rfl, hC⟩ := Rd.case w0
  clear w0
  have hbx : Below w.heap.size w (w.alloc (.cells #[.slice a n c, .int .i64 t, .int .i64 dr, .slice b m c2, .slice q nq c3] 28)) := (Below.refl _ _).alloc (Nat.le_refl _) _
  have hA0 := At.alloc w [.slice a n c, .int .i64 t, .int .i64 dr, .slice b m c2, .slice q nq c3] 28
  have hC0 := hC.on hbx
  have hsz : w.heap.size < (w.alloc (.cells #[.slice a n c, .int .i64 t, .int .i64 dr, .slice b m c2, .slice q nq c3] 28)).heap.size := hA0.1
  clear hC
  have HSP := fun wx => Lib.hid (speaks25 wx)
  go_enter Tryz.func3, Tryz.ntmps3
  go_wp2_with fail
  generalize w.alloc (.cells #[.slice a n c, .int .i64 t, .int .i64 dr, .slice b m c2, .slice q nq c3] 28) = w0 at *
  have HSM := fun wx (hx : Below w0.heap.size w0 wx) => Lib.hid (law_small a n c t dr b m c2 q nq c3 ls wx (hC0.on hx).hlo hC0.hm (fun s hs => hC0.hsl s hs))
  have HA := fun wx (hx : Below w0.heap.size w0 wx) => At.five (hA0.below hx hsz)
  go_wp2_with (go_at_call 8; (with_reducible refine (HSP _).out.mono ?_); rintro e w1 ⟨rfl, hb1⟩; obtain ⟨-, x0, -, x1, -, x2, -, x3, -, x4, -⟩ := HA _ hb1)
  go_at_call 9
  refine (HSM _ hb1).out.mono ?_
  intro e w2 hS
  obtain ⟨z, rfl, hz, hb2'⟩ := hS
  have hb2 := on_below hb1 hb2'
  obtain ⟨-, y0, -, y1, -, y2, -, y3, -, y4, -⟩ := HA _ hb2
  rcases hz with rfl | ⟨rfl, hSm⟩
  · go_wp2
    go_ret
    exact ⟨rfl, on_below hbx hb2⟩
  by_cases hz : nerr rs t dr m = 0
  · have HPY := Lib.hid (so_play rs t dr ls cs a n c b m c2 q nq c3 w2 (hC0.hru.below hb2) (hC0.hlo.below hb2) (hC0.hch.below hb2) hC0.hn hC0.hm hC0.hnq hz hSm.1 hC0.hfit hC0.ht hC0.hd hSm.2.2.2 hC0.hci (by have := hSm.2.1; omega))
    have hG := good25 hC0 hSm hz
    have hE := newE_len t rs (ls.map fun s => s.data.toList)
    have hE2 := runE_len cs (St.new t dr rs (ls.map fun s => s.data.toList))
    have hgood := good_all t dr rs (ls.map fun s => s.data.toList) cs
    have hkept := kept_true hG.hn hG.ok cs
    have hdrift := drift_true hG.hn hG.ok hG.chk cs
    have hfine := hG.fine cs
    generalize hL : St.newE t rs (ls.map fun s => s.data.toList) ++ (St.new t dr rs (ls.map fun s => s.data.toList)).runE cs = L at *
    have hlen : L.length ≤ 600 := by
      rw [← hL, List.length_append]
      have := hG.h8
      have := hSm.2.1
      have := hC0.hnq
      omega
    have h8 := hSm.1
    have hRow := fun wx (hx : Below w0.heap.size w0 wx) => Lib.hid (hC0.hlo.below hx)
    have hRules := fun wx (hx : Below w0.heap.size w0 wx) => Lib.hid (hC0.hru.below hx)
    have h4 : ∀ s ∈ ls, s.size ≤ 100000 := fun s hs => Nat.le_trans (hSm.2.2.2 s hs) (by omega)
    have HKP := fun wx (hx : Below w0.heap.size w0 wx) (ae : Option Addr) (ce N : Nat) (hN : N = L.length) (hr : RowE wx ae L) => Lib.hid (ju_kept ae N ce L b m c2 ls wx hr hN (by omega) (hRow wx hx).out hC0.hm (by omega) h4 true hkept)
    have HDR := fun wx (hx : Below w0.heap.size w0 wx) (ae : Option Addr) (ce N : Nat) (hN : N = L.length) (hr : RowE wx ae L) => Lib.hid (ju_drifted rs t dr a n c wx (hRules wx hx).out hC0.hn (by have := hSm.2.2.1; omega) hC0.hfit hC0.hd ae N ce L hr hN (by omega) (fun e he => (hfine e he).1) true hdrift)
    have HRI := fun wx (ae : Option Addr) (ce N : Nat) (hN : N = L.length) (hr : RowE wx ae L) => Lib.hid (ju_rises ae N ce L wx hr hN (by omega) true hgood.rises)
    have HTG := fun wx (ae : Option Addr) (ce N : Nat) (hN : N = L.length) (hr : RowE wx ae L) => Lib.hid (ju_tagged ae N ce L wx hr hN (by omega) true hgood.tagged)
    have HBX := Lib.hid hbx
    clear hG hE hE2 hgood hkept hdrift hfine hL hRow hRules h4 HSP HSM hSm hz hb2' hbx
    clear hC0
    go_wp2_with (first | (go_at_call 10; (with_reducible refine HPY.out.mono ?_); intro e w3 hP; obtain ⟨v, rfl, q1, q2⟩ := hP; have hb3 := on_below hb2 q2; obtain ⟨-, u0, -, u1, -, u2, -, u3, -, u4, -⟩ := HA _ hb3; obtain ⟨-, ae, ce, hv, hE⟩ := rowe_of_sl q1; subst hv; obtain ⟨N, hN⟩ : ∃ N, L.length = N := ⟨_, rfl⟩; rw [hN]; have HR1 := HRI w3 ae ce N hN.symm hE) | (go_at_call 11; (with_reducible refine HR1.out.mono ?_); rintro e w4 ⟨rfl, hb4'⟩; have hb4 := on_below hb3 hb4'; have hE4 := hE.on hb4'; have HT1 := HTG w4 ae ce N hN.symm hE4; obtain ⟨-, s0, -, s1, -, s2, -, s3, -, s4, -⟩ := HA _ hb4) | (go_at_call 12; (with_reducible refine HT1.out.mono ?_); rintro e w5 ⟨rfl, hb5'⟩; have hb5 := on_below hb4 hb5'; have hE5 := hE4.on hb5'; have HK1 := HKP w5 hb5 ae ce N hN.symm hE5; obtain ⟨-, r0, -, r1, -, r2, -, r3, -, r4, -⟩ := HA _ hb5) | (go_at_call 13; (with_reducible refine HK1.out.mono ?_); rintro e w6 ⟨rfl, hb6'⟩; have hb6 := on_below hb5 hb6'; have hE6 := hE5.on hb6'; have HD1 := HDR w6 hb6 ae ce N hN.symm hE6; obtain ⟨-, p0, -, p1, -, p2, -, p3, -, p4, -⟩ := HA _ hb6) | (go_at_call 14; (with_reducible refine HD1.out.mono ?_); rintro e w7 ⟨rfl, hb7'⟩))
    go_ret
    exact ⟨rfl, on_below HBX.out (on_below hb6 hb7')⟩
  · have HN := Lib.hid (so_play_none rs t dr ls a n c b m c2 (.slice q nq c3) w2 (hC0.hru.below hb2) hC0.hn (by have := hSm.2.2.1; omega) hC0.hm _ rfl hz)
    have hz0 : (nerr rs t dr m != 0) = true := by rw [bne_iff_ne]; exact hz
    clear hz
    generalize nerr rs t dr m = zz at *
    go_wp2_with (go_at_call 10; (with_reducible refine HN.out.mono ?_); rintro e w3 ⟨rfl, hb3⟩)
    go_ret
    exact ⟨rfl, on_below hbx (on_below hb2 hb3)⟩
end Go.Proofs.YtmimfkhkilijcaaGreat
