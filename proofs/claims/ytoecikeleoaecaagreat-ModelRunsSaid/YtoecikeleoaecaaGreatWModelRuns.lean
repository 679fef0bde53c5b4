/- The walk of ModelRuns. -/
import Derived.Test.YtoecikeleoaecaaGreatAlike
import Derived.Test.YtoecikeleoaecaaGreatRefP
import Derived.Test.YtoecikeleoaecaaGreatSpeaks24
import Derived.BigRegion
namespace Go.Proofs.YtoecikeleoaecaaGreat
set_option maxRecDepth 4000
open Go.ChangeShapes Go.WideShapes Go.ChangeAt Go.RowKit
open PHist PRing PSat PClamp PBound PFrame PVar PCrc PSign PTree PEv
set_option linter.unusedVariables false
set_option linter.unusedSimpArgs false

section
variable {w1 wr w' : World} {t1 : Nat → Prop} {tag : Nat → Nat} {g5 : Nat} {rs : List Rul} {ra a : Option Addr} {l : List Pv} {s : St}
theorem RefR.both (h : RefR w1 t1 tag g5 wr a l s) (hu : Upd (fun b => b = g5 ∨ tag b ≠ 0) wr w') : RefR w1 t1 tag g5 w' a l s :=
  ⟨rowp_keep h.row hu (fun p hp h0 hn => hn.elim (h.fr p hp h0).2 (fun h1 => h1 (h.fr p hp h0).1)), h.k, h.ps, h.new.trans hu (fun b hb hn => hn.elim (fun e => by have := h.g; omega) (fun h1 => h.old b hb h1)), h.fr, h.old, h.g⟩
theorem MoV.both (h : MoV w1 t1 tag g5 wr rs ra a l s) (hu : Upd (fun b => b = g5 ∨ tag b ≠ 0) wr w') : MoV w1 t1 tag g5 w' rs ra a l s :=
  ⟨h.par.both hu, rowu_keep h.ru hu (fun p hp h0 hn => hn.elim (h.rf p hp h0).2 (fun h1 => h1 (h.rf p hp h0).1)), h.rf⟩
end
/-- One block alone. -/
def tagof (g b : Nat) : Nat := if b = g then 1 else 0
theorem tagof_ne {g b : Nat} : tagof g b ≠ 0 ↔ b = g := by
  unfold tagof
  by_cases e : b = g <;> simp [e]
theorem tagof_zero {g b : Nat} (h : b ≠ g) : tagof g b = 0 := if_neg h
/-- Two states side by side: the model's in g3, the document's in g6. -/
structure Two24 (w0 w3 w5 : World) (g3 g6 n : Nat) (rs : List Rul) (wr : World) (s : St) (ra : Option Addr) (rc : Nat) (a : Option Addr) (c : Nat) (l : List Pv) (a2 : Option Addr) (c2 : Nat) (l2 : List Pv) : Prop where
  a3 : At wr g3 [.slice ra n rc, .int .i64 s.timeout, .int .i64 s.drift, .slice a s.ps.length c, .int .i64 s.clock, .int .i64 s.now]
  a6 : At wr g6 [.slice a2 s.ps.length c2, .int .i64 s.timeout, .int .i64 s.drift, .int .i64 s.clock, .int .i64 s.now]
  mo : MoV w3 (fun _ => False) (tagof g6) g3 wr rs ra a l s
  re : RefR w5 (fun b => b = g3) (tagof g3) g6 wr a2 l2 s
  new : Below w0.heap.size w0 wr
  ne : g3 ≠ g6
  b3 : w0.heap.size ≤ g3
  b6 : w0.heap.size ≤ g6
theorem Two24.on {w0 w3 w5 : World} {g3 g6 n : Nat} {rs : List Rul} {wr w' : World} {s : St} {ra : Option Addr} {rc : Nat} {a : Option Addr} {c : Nat} {l : List Pv} {a2 : Option Addr} {c2 : Nat} {l2 : List Pv} (h : Two24 w0 w3 w5 g3 g6 n rs wr s ra rc a c l a2 c2 l2) (hb : Below wr.heap.size wr w') : Two24 w0 w3 w5 g3 g6 n rs w' s ra rc a c l a2 c2 l2 :=
  ⟨h.a3.on hb, h.a6.on hb, h.mo.on hb, h.re.on hb, on_below h.new hb, h.ne, h.b3, h.b6⟩
set_option maxRecDepth 100000 in
set_option maxHeartbeats 4000000 in
theorem walk_ModelRuns (w : World) (c0 : Array Value) (d0 : (((List (Int × Int × Int × Int × Int × Unit)) × Int × Int × Unit) × (List ByteArray) × (List (Bool × Int × Unit)) × Unit)) (w0 : Rd w (.pair (.pair (.sl (.pair (.int .i64) (.pair (.int .i64) (.pair (.int .i64) (.pair (.int .i64) (.pair (.int .i64) .unit)))))) (.pair (.int .i64) (.pair (.int .i64) .unit))) (.pair (.sl .str) (.pair (.sl (.pair .bool (.pair (.int .i64) .unit))) .unit))) c0.toList d0) :
    Calls Tryz.prog 7 #[.agg c0] w fun e w' => e = .returned (.bool true) ∧ Below w.heap.size w w' := by
  obtain ⟨a, n, c, t, dr, b, m, c2, q, nq, c3, rs, ls, cs, rfl, hC⟩ := Rd.case w0
  clear w0
  have hbx : Below w.heap.size w (w.alloc (.cells #[.slice a n c, .int .i64 t, .int .i64 dr, .slice b m c2, .slice q nq c3] 28)) := (Below.refl _ _).alloc (Nat.le_refl _) _
  have hA0 := At.alloc w [.slice a n c, .int .i64 t, .int .i64 dr, .slice b m c2, .slice q nq c3] 28
  have hC0 := hC.on hbx
  have hsz : w.heap.size < (w.alloc (.cells #[.slice a n c, .int .i64 t, .int .i64 dr, .slice b m c2, .slice q nq c3] 28)).heap.size := hA0.1
  clear hC
  have HSP := fun wx => Lib.hid (speaks24 wx)
  go_enter Tryz.func7, Tryz.ntmps7
  go_wp2_with fail
  generalize w.alloc (.cells #[.slice a n c, .int .i64 t, .int .i64 dr, .slice b m c2, .slice q nq c3] 28) = w0 at *
  have HSM := fun wx (hx : Below w0.heap.size w0 wx) => Lib.hid (law_small a n c t dr b m c2 q nq c3 ls wx (hC0.on hx).hlo hC0.hm (fun s hs => hC0.hsl s hs))
  have HA := fun wx (hx : Below w0.heap.size w0 wx) => At.five (hA0.below hx hsz)
  go_wp2_with (go_at_call 32; (with_reducible refine (HSP _).out.mono ?_); rintro e w1 ⟨rfl, hb1⟩; obtain ⟨-, x0, -, x1, -, x2, -, x3, -, x4, -⟩ := HA _ hb1)
  go_at_call 13
  refine (HSM _ hb1).out.mono ?_
  intro e w2 hS
  obtain ⟨z, rfl, hz, hb2'⟩ := hS
  have hb2 := on_below hb1 hb2'
  obtain ⟨-, y0, -, y1, -, y2, -, y3, -, y4, -⟩ := HA _ hb2
  rcases hz with rfl | ⟨rfl, hSm⟩
  · go_wp2
    go_ret
    exact ⟨rfl, on_below hbx hb2⟩
  have e := fun (w : World) (o : Obj) => (Below.refl w.heap.size w).alloc (Nat.le_refl _) o
  by_cases hz : nerr rs t dr m = 0
  · have HN := Lib.hid (mo_new rs t dr ls a n c b m c2 w2 (hC0.hru.below hb2) (hC0.hlo.below hb2) hC0.hn hC0.hm hz hSm.1 hC0.hfit hC0.ht hC0.hd hSm.2.2.2)
    have HRN := fun wx (hx : Below w0.heap.size w0 wx) => Lib.hid (ref_new rs t dr ls a n c b m c2 wx (hC0.hru.below hx) (hC0.hlo.below hx) hC0.hn hC0.hm hz hSm.1 hC0.hfit hC0.ht hC0.hd hSm.2.2.2)
    have HMP := fun wx (hx : Below w0.heap.size w0 wx) => Lib.hid (mo_play rs t dr ls cs a n c b m c2 q nq c3 wx (hC0.hru.below hx) (hC0.hlo.below hx) (hC0.hch.below hx) hC0.hn hC0.hm hC0.hnq hz hSm.1 hC0.hfit hC0.ht hC0.hd hSm.2.2.2 hC0.hci (by have := hSm.2.1; omega))
    have HRP := fun wx (hx : Below w0.heap.size w0 wx) => Lib.hid (ref_play rs t dr ls cs a n c b m c2 q nq c3 wx (hC0.hru.below hx) (hC0.hlo.below hx) (hC0.hch.below hx) hC0.hn hC0.hm hC0.hnq hz hSm.1 hC0.hfit hC0.ht hC0.hd hSm.2.2.2 hC0.hci (by have := hSm.2.1; omega))
    have hel := newE_len t rs (ls.map fun s => s.data.toList)
    have hmn := (nerr_zero hz).2
    have hc0 := (nerr_zero hz).1
    have ht1 := ccheck_t hc0
    have hok : (St.new t dr rs (ls.map fun s => s.data.toList)).Ok := new_ok (by rw [List.length_map]; have := hC0.hm; omega) (by have := hSm.1; omega) (fun r hr => ⟨ccheck_ok hc0 r hr, hC0.hfit r hr⟩) (fun l hl => by
      obtain ⟨s, hs', rfl⟩ := List.mem_map.1 hl
      exact hSm.2.2.2 s hs') ⟨ht1.2.1, hC0.ht.2⟩ ⟨ht1.2.2, hC0.hd.2⟩
    have hrl := runE_len cs (St.new t dr rs (ls.map fun s => s.data.toList))
    generalize St.new t dr rs (ls.map fun s => s.data.toList) = s0 at *
    generalize St.newE t rs (ls.map fun s => s.data.toList) = l0 at *
    have HL : Hid (l0.length ≤ 9) := by show l0.length ≤ 9; have := hSm.1; omega
    have HOK := Lib.hid hok
    have hnq : nq ≤ 120 := hSm.2.1
    have HQ := Lib.hid hC0.hnq
    have HCI := Lib.hid hC0.hci
    have HCH := Lib.hid hC0.hch
    have HRS := Lib.hid hC0.hn
    have hn5 : n ≤ 10000 := by have := hSm.2.2.1; omega
    have HBX := Lib.hid hbx
    have hall : (l0 ++ s0.runE cs).length ≤ 100000 := by rw [List.length_append]; have := HL.out; have := hC0.hnq; omega
    clear hel hSm hz hb2' hmn HSP HSM hok hc0 ht1 hrl hbx x0 x1 x2 x3 x4
    clear hC0
    go_upto_region 6 with (first | (go_at_call 33; (with_reducible refine HN.out.mono ?_); intro e3 w3 hN; obtain ⟨ra3, rc3, a3, c3', l3, r3, rfl, hU3, hP3, hps3, hr3, hb3, hra3, ha3, hap3, hrc3⟩ := hN; obtain ⟨ao, co, hre⟩ := hr3.shape; subst hre) | fail)
    have hb23 := on_below hb2 hb3
    have hba := e w3 (.cells #[.slice ra3 n rc3, .int .i64 s0.timeout, .int .i64 s0.drift, .slice a3 s0.ps.length c3', .int .i64 s0.clock, .int .i64 s0.now] 70)
    have hA3 := At.alloc w3 [.slice ra3 n rc3, .int .i64 s0.timeout, .int .i64 s0.drift, .slice a3 s0.ps.length c3', .int .i64 s0.clock, .int .i64 s0.now] 70
    have hb4 := on_below hb23 hba
    have hr4 := hr3.onW hba
    have hg3 : w3.heap.size < (w3.alloc (.cells #[.slice ra3 n rc3, .int .i64 s0.timeout, .int .i64 s0.drift, .slice a3 s0.ps.length c3', .int .i64 s0.clock, .int .i64 s0.now] 70)).heap.size := hA3.1
    have h30 : w0.heap.size ≤ w3.heap.size := hb23.size
    clear y0 y1 y2 y3 y4 HN
    have hb34 := hba
    clear hba hr3
    generalize w3.alloc (.cells #[.slice ra3 n rc3, .int .i64 s0.timeout, .int .i64 s0.drift, .slice a3 s0.ps.length c3', .int .i64 s0.clock, .int .i64 s0.now] 70) = w4 at *
    have HR4 := HRN w4 hb4
    obtain ⟨-, y0, -, y1, -, y2, -, y3, -, y4, -⟩ := HA _ hb4
    go_upto_region 7 with (first | (go_at_call 15; (with_reducible refine HR4.out.mono ?_); intro e5 w5 hY; obtain ⟨a5, c5, l5, r5, rfl, hP5, hps5, hr5, hb5, hna5, hap5, hnr5⟩ := hY) | fail)
    have hba := e w5 (.cells #[.slice a5 s0.ps.length c5, .int .i64 s0.timeout, .int .i64 s0.drift, .int .i64 s0.clock, .int .i64 s0.now] 37)
    have hA5 := At.alloc w5 [.slice a5 s0.ps.length c5, .int .i64 s0.timeout, .int .i64 s0.drift, .int .i64 s0.clock, .int .i64 s0.now] 37
    have hb45 := on_below hb5 hba
    have hb6 := on_below hb4 hb45
    have hr6 := hr4.onW hb45
    have hr56 := hr5.onW hba
    have hA36 := hA3.on hb45
    have hM0 : MoV w3 (fun _ => False) (tagof w5.heap.size) w3.heap.size w3 rs ra3 a3 l3 s0 :=
      ⟨⟨hP3.row, fun v hv => ⟨(hP3.ok v hv).row, (hP3.ok v hv).le, (hP3.ok v hv).cap, fun p hp h0 h => h⟩, hps3, Upd.refl _ _, fun p hp h0 => by
        obtain ⟨b', off, hab, hb, -⟩ := hP3.row.at_ 0 h0
        rw [hab] at hp; cases hp
        have hb : b' < w3.heap.size := hb
        have := hb5.size
        exact ⟨tagof_zero (by show b' ≠ w5.heap.size; omega), by show b' ≠ w3.heap.size; omega⟩, fun b hb h => by have := tagof_ne.1 h; have := hb5.size; omega, Nat.le_refl _⟩, hU3, fun p hp h0 => by
        have hb := rowu_lt hU3 p hp h0
        have := hb5.size
        exact ⟨tagof_zero (by omega), by omega⟩⟩
    have hR0 : RefR w5 (fun b => b = w3.heap.size) (tagof w3.heap.size) w5.heap.size w5 a5 l5 s0 :=
      ⟨hP5.row, fun v hv => ⟨(hP5.ok v hv).row, (hP5.ok v hv).le, (hP5.ok v hv).cap, fun p hp h0 h => by have := hnr5 v hv p hp h0; omega⟩, hps5, Upd.refl _ _, fun p hp h0 => by
        have h1 := hna5 p hp h0
        obtain ⟨b', off, hab, hb, -⟩ := hP5.row.at_ 0 h0
        rw [hab] at hp; cases hp
        have hb : b' < w5.heap.size := hb
        have h1 : w4.heap.size ≤ b' := h1
        exact ⟨tagof_zero (by show b' ≠ w3.heap.size; omega), by show b' ≠ w5.heap.size; omega⟩, fun b _ h => tagof_ne.1 h, Nat.le_refl _⟩
    have h35 : w3.heap.size < w5.heap.size := Nat.lt_of_lt_of_le hg3 hb5.size
    have hT0 : Two24 w0 w3 w5 w3.heap.size w5.heap.size n rs (w5.alloc (.cells #[.slice a5 s0.ps.length c5, .int .i64 s0.timeout, .int .i64 s0.drift, .int .i64 s0.clock, .int .i64 s0.now] 37)) s0 ra3 rc3 a3 c3' l3 a5 c5 l5 := ⟨hA36, hA5, hM0.on (on_below hb34 hb45), hR0.on hba, hb6, by omega, h30, by omega⟩
    clear y0 y1 y2 y3 y4 HR4 hM0 hR0 hA36 hA5 hba hb45 hA3 hr4 hr5 hb5 hb34 hb23 hb3 hb4 hU3 hP3 hps3 hra3 ha3 hap3 hrc3 hP5 hps5 hna5 hap5 hnr5 HRN
    generalize w5.alloc (.cells #[.slice a5 s0.ps.length c5, .int .i64 s0.timeout, .int .i64 s0.drift, .int .i64 s0.clock, .int .i64 s0.now] 37) = w6 at *
    obtain ⟨-, y0, -, y1, -, y2, -, y3, -, y4, -⟩ := HA _ hb6
    have HM6 := HMP _ hb6
    have hl0 : l0.length ≤ 100000 := by have := HL.out; omega
    go_upto_region 15 with (first | (go_at_call 34; (with_reducible refine HM6.out.mono ?_); intro e7 w7 hY; obtain ⟨v7, rfl, hv7, hb7⟩ := hY; have hb67 := on_below hb6 hb7; have HR7 := HRP _ hb67; obtain ⟨-, z0, -, z1, -, z2, -, z3, -, z4, -⟩ := HA _ hb67) | (go_at_call 35; (with_reducible refine HR7.out.mono ?_); intro e8 w8 hY; obtain ⟨v8, rfl, hv8, hb8⟩ := hY; have hb68 := on_below hb7 hb8; have HP1 := Lib.hid (plain_of (hv7.onW hb8) hall)) | (go_at_call 18; (with_reducible refine HP1.out.mono ?_); intro e9 w9 hY; obtain ⟨v9, rfl, hv9, hb9⟩ := hY; have hb69 := on_below hb68 hb9; have HS1 := Lib.hid (same_of hv9 (hv8.onW hb9) hall)) | (go_at_call 17; (with_reducible refine HS1.out.mono ?_); rintro e10 w10 ⟨rfl, hb10⟩; have hb610 := on_below hb69 hb10; have HP2 := Lib.hid (plain_of (hr6.onW hb610) hl0)) | (go_at_call 18; (with_reducible refine HP2.out.mono ?_); intro e11 w11 hY; obtain ⟨v11, rfl, hv11, hb11⟩ := hY; have hb611 := on_below hb610 hb11; have HS2 := Lib.hid (same_of hv11 (hr56.onW hb611) hl0)) | (go_at_call 17; (with_reducible refine HS2.out.mono ?_); rintro e12 w12 ⟨rfl, hb12⟩; have hb612 := on_below hb611 hb12) | fail)
    have hT1 := hT0.on hb612
    have hb12w := on_below hb6 hb612
    obtain ⟨-, fa0, -, fa1, -, fa2, -, fa3, -, fa4, -⟩ := HA _ hb12w
    clear y0 y1 y2 y3 y4 z0 z1 z2 z3 z4 hT0 HM6 HR7 HP1 HS1 HP2 HS2 hv7 hv8 hv9 hv11 hr6 hr56 hb7 hb8 hb9 hb10 hb11 hb12 hb67 hb68 hb69 hb610 hb611 HMP HRP
    generalize hgg3 : w3.heap.size = g3 at *
    generalize hgg6 : w5.heap.size = g6 at *
    clear hgg3 hgg6
    go_wp2_with fail
    go_loopw [101] (fun i wr => ∃ (k : Nat) (ra : Option Addr) (rc : Nat) (a : Option Addr) (c : Nat) (l : List Pv) (a2 : Option Addr) (c2 : Nat) (l2 : List Pv), k ≤ nq ∧ i = .int .i64 k ∧ Two24 w0 w3 w5 g3 g6 n rs wr (s0.run (cs.take k)) ra rc a c l a2 c2 l2) (fun i _ => nq - (intOf i).toNat)
    case atStart => exact ⟨0, ra3, rc3, a3, c3', l3, a5, c5, l5, Nat.zero_le _, rfl, hT1⟩
    case round =>
      clear hT1 fa0 fa1 fa2 fa3 fa4
      obtain ⟨k, ra, rc, a, c, l, a2, c2, l2, hk, rfl, hT⟩ := hrel
      by_cases hlt : k < nq
      · have hkc : k < cs.length := by rw [← HQ.out]; exact hlt
        have hrow := HCH.out.below hT.new
        obtain ⟨bq, offq, hq', -, -⟩ := hrow.at_ k hkc
        subst hq'
        obtain ⟨hbq, r0, r1⟩ := RowC.cells hrow k hkc
        have hin := HCI.out _ (List.getElem_mem hkc)
        have hS1 := run_take s0 cs k hkc
        generalize hck : cs[k] = x at *
        have HCK := Lib.hid hck
        clear hck hrow
        obtain ⟨ct, cn⟩ := x
        simp only at r0 r1 hin
        have hd3 := doE_len (s0.run (cs.take k)) (ct, cn)
        have hokk := HOK.out.run (cs.take k)
        have HS1 : Hid (s0.run (cs.take (k + 1)) = (s0.run (cs.take k)).doS (ct, cn)) := hS1
        have hbc := e wr (.cells #[.bool ct, .int .i64 cn] 48)
        have hC3 := At.alloc wr [.bool ct, .int .i64 cn] 48
        have hTA := hT.on hbc
        have h3l : g3 < wr.heap.size := hT.a3.1
        have h6l : g6 < wr.heap.size := hT.a6.1
        have HD := Lib.hid (hTA.mo.does hTA.a3.1 (fun b hb => tagof_zero (by rw [World.size_alloc] at hb; omega)) n rc c HRS.out hn5 hokk ct cn hin)
        have HRD := fun wx (h : RefR w5 (fun b => b = g3) (tagof g3) g6 wx a2 l2 (s0.run (cs.take k))) (h3 : wr.heap.size ≤ wx.heap.size) => Lib.hid (h.does (by omega) (fun b hb => tagof_zero (by omega)) c2 hokk ct cn hin)
        have HAL := fun wx (h1 : RowP wx a l) (h2 : RowP wx a2 l2) => Lib.hid (alike_true ra n rc a a2 _ c c2 l l2 (s0.run (cs.take k)) wx h1 h2 rfl hT.mo.par.ps hT.re.ps hokk)
        clear hT hbc hS1 hokk
        generalize (s0.run (cs.take k)).doE (ct, cn) = e5 at *
        generalize (s0.run (cs.take k)).doS (ct, cn) = s5 at *
        generalize s0.run (cs.take k) = s4 at *
        go_upto_region 18 with fail
        clear r0 r1 hbq
        have hwA : wr.heap.size < (wr.alloc (.cells #[.bool ct, .int .i64 cn] 48)).heap.size := hC3.1
        generalize wr.alloc (.cells #[.bool ct, .int .i64 cn] 48) = wA at *
        obtain ⟨-, c0, -, c1', -⟩ := hC3.two
        obtain ⟨-, d0, -, d1, -, d2, -, d3, -, d4, -, d5, -⟩ := hTA.a3.cells6
        go_upto_region 19 with (first | (go_at_call 36; (with_reducible refine HD.out.mono ?_); intro e9 w13 hY; obtain ⟨ra6, rc6, a6, c6, l6, r6, rfl, hM6, hr6, hb6'⟩ := hY) | fail)
        have hba := e w13 (.cells #[.slice ra6 n rc6, .int .i64 s5.timeout, .int .i64 s5.drift, .slice a6 s5.ps.length c6, .int .i64 s5.clock, .int .i64 s5.now] 70)
        have hN := At.alloc w13 [.slice ra6 n rc6, .int .i64 s5.timeout, .int .i64 s5.drift, .slice a6 s5.ps.length c6, .int .i64 s5.clock, .int .i64 s5.now] 70
        have hbB := on_below hb6' hba
        have hTB := hTA.on hbB
        have hMB := hM6.on hba
        have hrB := hr6.onW hba
        have hCB := hC3.on hbB
        have hsB : wA.heap.size ≤ w13.heap.size := hb6'.size
        have hgN : w13.heap.size < (w13.alloc (.cells #[.slice ra6 n rc6, .int .i64 s5.timeout, .int .i64 s5.drift, .slice a6 s5.ps.length c6, .int .i64 s5.clock, .int .i64 s5.now] 70)).heap.size := hN.1
        clear c0 c1' d0 d1 d2 d3 d4 d5 hTA hM6 hr6 hC3 hba hb6' HD
        generalize w13.alloc (.cells #[.slice ra6 n rc6, .int .i64 s5.timeout, .int .i64 s5.drift, .slice a6 s5.ps.length c6, .int .i64 s5.clock, .int .i64 s5.now] 70) = wB at *
        generalize w13.heap.size = gN at *
        have HR2 := HRD _ hTB.re (by omega)
        obtain ⟨-, c0, -, c1', -⟩ := hCB.two
        obtain ⟨-, d0, -, d1, -, d2, -, d3, -, d4, -⟩ := hTB.a6.five
        go_upto_region 20 with (first | (go_at_call 20; (with_reducible refine HR2.out.mono ?_); intro e9 w14 hY; obtain ⟨a7, c7, l7, r7, rfl, hR7, hr7, hb7'⟩ := hY) | fail)
        have hba := e w14 (.cells #[.slice a7 s5.ps.length c7, .int .i64 s5.timeout, .int .i64 s5.drift, .int .i64 s5.clock, .int .i64 s5.now] 37)
        have hO := At.alloc w14 [.slice a7 s5.ps.length c7, .int .i64 s5.timeout, .int .i64 s5.drift, .int .i64 s5.clock, .int .i64 s5.now] 37
        have hbC := on_below hb7' hba
        have hTC := hTB.on hbC
        have hMC := hMB.on hbC
        have hRC := hR7.on hba
        have hrC := hrB.onW hbC
        have hr7C := hr7.onW hba
        have hNC := hN.on hbC
        have hsC : wB.heap.size ≤ w14.heap.size := hb7'.size
        clear c0 c1' d0 d1 d2 d3 d4 hTB hMB hrB hCB hR7 hr7 hN hba hb7' HR2 HRD hbC hbB
        generalize w14.alloc (.cells #[.slice a7 s5.ps.length c7, .int .i64 s5.timeout, .int .i64 s5.drift, .int .i64 s5.clock, .int .i64 s5.now] 37) = wC at *
        generalize w14.heap.size = gO at *
        have HA2 := HAL _ hTC.mo.par.rowp hTC.re.rowp
        have HPL := Lib.hid (plain_of hrC (by omega))
        obtain ⟨-, d0, -, d1, -, d2, -, d3, -, d4, -, d5, -⟩ := hTC.a3.cells6
        obtain ⟨-, k0, -, k1, -, k2, -, k3, -, k4, -⟩ := hTC.a6.five
        go_upto_region 22 with (first | (go_at_call 37; (with_reducible refine HA2.out.mono ?_); rintro e9 w15 ⟨rfl, hb15⟩; have HPL2 := Lib.hid (plain_of (hrC.onW hb15) (by omega))) | (go_at_call 18; (with_reducible refine HPL2.out.mono ?_); intro e9 w16 hY; obtain ⟨v16, rfl, hv16, hb16⟩ := hY; have HSM := Lib.hid (same_of hv16 (hr7C.onW (on_below hb15 hb16)) (by omega))) | (go_at_call 17; (with_reducible refine HSM.out.mono ?_); rintro e9 w17 ⟨rfl, hb17⟩) | fail)
        have hbD := on_below (on_below hb15 hb16) hb17
        have hTD := hTC.on hbD
        have hMD := hMC.on hbD
        have hRD := hRC.on hbD
        have hND := hNC.on hbD
        have hOD := hO.on hbD
        have hFI : Hid (∀ W, At W g3 [.slice ra6 n rc6, .int .i64 s5.timeout, .int .i64 s5.drift, .slice a6 s5.ps.length c6, .int .i64 s5.clock, .int .i64 s5.now] → At W g6 [.slice a7 s5.ps.length c7, .int .i64 s5.timeout, .int .i64 s5.drift, .int .i64 s5.clock, .int .i64 s5.now] → Upd (fun b => b = g3 ∨ b = g6) w17 W → Two24 w0 w3 w5 g3 g6 n rs W s5 ra6 rc6 a6 c6 l6 a7 c7 l7) := fun W h3 h6 hu =>
          ⟨h3, h6, hMD.both (hu.mono (fun b _ h => h.imp id tagof_ne.2)), hRD.both (hu.mono (fun b _ h => h.elim (fun h => .inr (tagof_ne.2 h)) .inl)), hTD.new.upd hu hTD.new.size (fun b _ h => h.elim (fun h => h ▸ hTD.b3) (fun h => h ▸ hTD.b6)), hTD.ne, hTD.b3, hTD.b6⟩
        have hA3 := Lib.hid hTD.a3
        have hA6 := Lib.hid hTD.a6
        have hne := Lib.hid hTD.ne
        obtain ⟨-, m0, -, m1, -, m2, -, m3, -, m4, -, m5, -⟩ := hND.cells6
        obtain ⟨-, o0, -, o1, -, o2, -, o3, -, o4, -⟩ := hOD.five
        obtain ⟨-, p0, s0', p1, s1', p2, s2', p3, s3', p4, s4', p5, s5'⟩ := hTD.a3.cells6
        obtain ⟨-, q0, t0', q1, t1', q2, t2', q3, t3', q4, t4'⟩ := hTD.a6.five
        have hOrd1 : Hid (Two24 w0 w3 w5 g3 g6 n rs (((((((((((((w17).setCell ⟨g3, 0, none⟩ (.slice ra6 n rc6)).setCell ⟨g3, 1, none⟩ (.int .i64 s5.timeout)).setCell ⟨g3, 2, none⟩ (.int .i64 s5.drift)).setCell ⟨g3, 3, none⟩ (.slice a6 s5.ps.length c6)).setCell ⟨g3, 4, none⟩ (.int .i64 s5.clock)).setCell ⟨g3, 5, none⟩ (.int .i64 s5.now))).setCell ⟨g6, 0, none⟩ (.slice a7 s5.ps.length c7)).setCell ⟨g6, 1, none⟩ (.int .i64 s5.timeout)).setCell ⟨g6, 2, none⟩ (.int .i64 s5.drift)).setCell ⟨g6, 3, none⟩ (.int .i64 s5.clock)).setCell ⟨g6, 4, none⟩ (.int .i64 s5.now)) s5 ra6 rc6 a6 c6 l6 a7 c7 l7) := by
          have u1' := Upd.all6 (Upd.refl (fun b => b = g3) w17) (g := g3) (fun _ => rfl) (.slice ra6 n rc6) (.int .i64 s5.timeout) (.int .i64 s5.drift) (.slice a6 s5.ps.length c6) (.int .i64 s5.clock) (.int .i64 s5.now)
          have u2' := upd_all5 (((((((w17).setCell ⟨g3, 0, none⟩ (.slice ra6 n rc6)).setCell ⟨g3, 1, none⟩ (.int .i64 s5.timeout)).setCell ⟨g3, 2, none⟩ (.int .i64 s5.drift)).setCell ⟨g3, 3, none⟩ (.slice a6 s5.ps.length c6)).setCell ⟨g3, 4, none⟩ (.int .i64 s5.clock)).setCell ⟨g3, 5, none⟩ (.int .i64 s5.now)) g6 (.slice a7 s5.ps.length c7) (.int .i64 s5.timeout) (.int .i64 s5.drift) (.int .i64 s5.clock) (.int .i64 s5.now)
          exact hFI.out _ ((At.all6 hA3.out (.slice ra6 n rc6) (.int .i64 s5.timeout) (.int .i64 s5.drift) (.slice a6 s5.ps.length c6) (.int .i64 s5.clock) (.int .i64 s5.now)).upd u2' (fun h => hne.out h)) (At.all5 (hA6.out.upd u1' (fun h => hne.out h.symm)) (.slice a7 s5.ps.length c7) (.int .i64 s5.timeout) (.int .i64 s5.drift) (.int .i64 s5.clock) (.int .i64 s5.now)) ((u1'.mono (fun _ _ h => .inl h)).trans u2' (fun _ _ h => .inr h))
        have hOrd2 : Hid (Two24 w0 w3 w5 g3 g6 n rs (((((((((((((w17).setCell ⟨g6, 0, none⟩ (.slice a7 s5.ps.length c7)).setCell ⟨g6, 1, none⟩ (.int .i64 s5.timeout)).setCell ⟨g6, 2, none⟩ (.int .i64 s5.drift)).setCell ⟨g6, 3, none⟩ (.int .i64 s5.clock)).setCell ⟨g6, 4, none⟩ (.int .i64 s5.now))).setCell ⟨g3, 0, none⟩ (.slice ra6 n rc6)).setCell ⟨g3, 1, none⟩ (.int .i64 s5.timeout)).setCell ⟨g3, 2, none⟩ (.int .i64 s5.drift)).setCell ⟨g3, 3, none⟩ (.slice a6 s5.ps.length c6)).setCell ⟨g3, 4, none⟩ (.int .i64 s5.clock)).setCell ⟨g3, 5, none⟩ (.int .i64 s5.now)) s5 ra6 rc6 a6 c6 l6 a7 c7 l7) := by
          have u1' := upd_all5 w17 g6 (.slice a7 s5.ps.length c7) (.int .i64 s5.timeout) (.int .i64 s5.drift) (.int .i64 s5.clock) (.int .i64 s5.now)
          have u2' := Upd.all6 (Upd.refl (fun b => b = g3) ((((((w17).setCell ⟨g6, 0, none⟩ (.slice a7 s5.ps.length c7)).setCell ⟨g6, 1, none⟩ (.int .i64 s5.timeout)).setCell ⟨g6, 2, none⟩ (.int .i64 s5.drift)).setCell ⟨g6, 3, none⟩ (.int .i64 s5.clock)).setCell ⟨g6, 4, none⟩ (.int .i64 s5.now))) (g := g3) (fun _ => rfl) (.slice ra6 n rc6) (.int .i64 s5.timeout) (.int .i64 s5.drift) (.slice a6 s5.ps.length c6) (.int .i64 s5.clock) (.int .i64 s5.now)
          exact hFI.out _ (At.all6 (hA3.out.upd u1' (fun h => hne.out h)) (.slice ra6 n rc6) (.int .i64 s5.timeout) (.int .i64 s5.drift) (.slice a6 s5.ps.length c6) (.int .i64 s5.clock) (.int .i64 s5.now)) ((At.all5 hA6.out (.slice a7 s5.ps.length c7) (.int .i64 s5.timeout) (.int .i64 s5.drift) (.int .i64 s5.clock) (.int .i64 s5.now)).upd u2' (fun h => hne.out h.symm)) ((u1'.mono (fun _ _ h => .inr h)).trans u2' (fun _ _ h => .inl h))
        clear hFI hMD hRD hTD hND hOD hTC hMC hRC hNC hO hA3 hA6
        go_region
        all_goals (go_wp2_with fail; go_roundw)
        all_goals first
          | exact ⟨k + 1, ra6, rc6, a6, c6, l6, a7, c7, l7, by omega, by go_num, by rw [HS1.out]; exact hOrd1.out.on (Below.refl _ _).drew⟩
          | exact ⟨k + 1, ra6, rc6, a6, c6, l6, a7, c7, l7, by omega, by go_num, by rw [HS1.out]; exact hOrd2.out.on (Below.refl _ _).drew⟩
          | (simp [intOf] <;> omega)
      · obtain rfl : k = nq := by omega
        have hok' := HOK.out.run (cs.take k)
        have HAL := Lib.hid (alike_true ra n rc a a2 _ c c2 l l2 (s0.run (cs.take k)) wr hT.mo.par.rowp hT.re.rowp rfl hT.mo.par.ps hT.re.ps hok')
        obtain ⟨-, d0, -, d1, -, d2, -, d3, -, d4, -, d5, -⟩ := hT.a3.cells6
        obtain ⟨-, k0, -, k1, -, k2, -, k3, -, k4, -⟩ := hT.a6.five
        have HB := Lib.hid hT.new
        clear hT hok'
        go_wp2_with (first | (go_at_call 37; (with_reducible refine HAL.out.mono ?_); rintro e9 w15 ⟨rfl, hb15⟩) | fail)
        go_ret
        exact ⟨rfl, on_below HBX.out (on_below HB.out hb15)⟩
  · obtain ⟨z, hzz⟩ : ∃ z, nerr rs t dr m = z := ⟨_, rfl⟩
    have hz0 : z ≠ 0 := by rw [← hzz]; exact hz
    have hn1 : n ≤ 10000 := by have := hSm.2.2.1; omega
    have HN := Lib.hid (mo_new_none rs t dr a n c b m c2 w2 (hC0.hru.below hb2) hC0.hn hn1 z hzz hz0)
    have HRN := fun wx (hx : Below w0.heap.size w0 wx) => Lib.hid (ref_new_none rs t dr a n c b m c2 wx (hC0.hru.below hx) hC0.hn hn1 z hzz hz0)
    have HMP := fun wx (hx : Below w0.heap.size w0 wx) => Lib.hid (mo_play_none rs t dr a n c b m c2 (.slice q nq c3) wx (hC0.hru.below hx) hC0.hn hn1 z hzz hz0)
    have HRP := fun wx (hx : Below w0.heap.size w0 wx) => Lib.hid (ref_play_none rs t dr a n c b m c2 (.slice q nq c3) wx (hC0.hru.below hx) hC0.hn hn1 z hzz hz0)
    have hzb : (z != 0) = true := by rw [bne_iff_ne]; exact hz0
    have HBX := Lib.hid hbx
    have HPN := fun wx => Lib.hid (plain_of (B := 0) (w := wx) (v := .slice none 0 0) (n := 0) (l := []) (Sl.nil _ _ _) (by omega))
    have HSN := fun (B1 : Nat) (v : Value) wx (h1 : Sl B1 wx 8 v ([] : List Ev).length (evcs [])) => Lib.hid (same_of (B2 := 0) (v2 := .slice none 0 0) (l := []) h1 (Sl.nil _ _ _) (by simp))
    clear hSm hz hzz hz0 hb2' HSP HSM hC0 hbx x0 x1 x2 x3 x4
    go_upto_region 6 with (first | (go_at_call 33; (with_reducible refine HN.out.mono ?_); rintro e3 w3 ⟨rfl, hb3⟩) | fail)
    have hba := e w3 (.cells #[.slice none 0 0, .int .i64 0, .int .i64 0, .slice none 0 0, .int .i64 0, .int .i64 0] 70)
    have hA3 := At.alloc w3 [.slice none 0 0, .int .i64 0, .int .i64 0, .slice none 0 0, .int .i64 0, .int .i64 0] 70
    have hb4 := on_below (on_below hb2 hb3) hba
    clear y0 y1 y2 y3 y4 HN hba
    generalize w3.alloc (.cells #[.slice none 0 0, .int .i64 0, .int .i64 0, .slice none 0 0, .int .i64 0, .int .i64 0] 70) = w4 at *
    have HR4 := HRN w4 hb4
    obtain ⟨-, y0, -, y1, -, y2, -, y3, -, y4, -⟩ := HA _ hb4
    go_upto_region 7 with (first | (go_at_call 15; (with_reducible refine HR4.out.mono ?_); rintro e5 w5 ⟨rfl, hb5⟩) | fail)
    have hba := e w5 (.cells #[.slice none 0 0, .int .i64 0, .int .i64 0, .int .i64 0, .int .i64 0] 37)
    have hb6 := on_below (on_below hb4 hb5) hba
    have hA6 := (hA3.on hb5).on hba
    clear y0 y1 y2 y3 y4 HR4 hba hA3
    generalize w5.alloc (.cells #[.slice none 0 0, .int .i64 0, .int .i64 0, .int .i64 0, .int .i64 0] 37) = w6 at *
    have HM6 := HMP _ hb6
    obtain ⟨-, y0, -, y1, -, y2, -, y3, -, y4, -⟩ := HA _ hb6
    go_wp2_with (first | (go_at_call 34; (with_reducible refine HM6.out.mono ?_); rintro e7 w7 ⟨rfl, hb7⟩; have hb67 := on_below hb6 hb7; have HR7 := HRP _ hb67; obtain ⟨-, z0, -, z1, -, z2, -, z3, -, z4, -⟩ := HA _ hb67) | (go_at_call 35; (with_reducible refine HR7.out.mono ?_); rintro e8 w8 ⟨rfl, hb8⟩; have HP1 := HPN w8) | (go_at_call 18; (with_reducible refine HP1.out.mono ?_); intro e9 w9 hY; obtain ⟨v9, rfl, hv9, hb9⟩ := hY; have HS1 := HSN _ _ _ hv9) | (go_at_call 17; (with_reducible refine HS1.out.mono ?_); rintro e10 w10 ⟨rfl, hb10⟩; have hb610 := on_below (on_below (on_below hb7 hb8) hb9) hb10; obtain ⟨-, u0, -, u1, -, u2, -, u3, -, u4, -, u5, -⟩ := (hA6.on hb610).cells6) | fail)
    go_ret
    exact ⟨rfl, on_below HBX.out (on_below hb6 hb610)⟩
end Go.Proofs.YtoecikeleoaecaaGreat
