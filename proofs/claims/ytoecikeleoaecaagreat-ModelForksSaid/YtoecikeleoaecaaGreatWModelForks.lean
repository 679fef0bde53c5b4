/- The walk of ModelForks. -/
import Derived.Test.YtoecikeleoaecaaGreatAlike
import Derived.Test.YtoecikeleoaecaaGreatSpeaks24
namespace Go.Proofs.YtoecikeleoaecaaGreat
set_option maxRecDepth 4000
open Go.ChangeShapes Go.WideShapes Go.ChangeAt Go.RowKit
open PHist PRing PSat PClamp PBound PFrame PVar PCrc PSign PTree PEv
set_option linter.unusedVariables false
set_option linter.unusedSimpArgs false

/-- One block alone. -/
def tagof (g b : Nat) : Nat := if b = g then 1 else 0
theorem tagof_ne {g b : Nat} : tagof g b ≠ 0 ↔ b = g := by
  unfold tagof
  by_cases e : b = g <;> simp [e]
theorem tagof_zero {g b : Nat} (h : b ≠ g) : tagof g b = 0 := if_neg h
/-- Two blocks. -/
def tagtwo (g h b : Nat) : Nat := if b = g ∨ b = h then 1 else 0
theorem tagtwo_ne {g h b : Nat} : tagtwo g h b ≠ 0 ↔ b = g ∨ b = h := by
  unfold tagtwo
  by_cases e : b = g ∨ b = h <;> simp [e]
theorem tagtwo_zero {g h b : Nat} (h1 : b ≠ g) (h2 : b ≠ h) : tagtwo g h b = 0 := if_neg (fun e => e.elim h1 h2)
/-- The model's state in a variable; the document's. -/
def MoAt (w3 : World) (tag : Nat → Nat) (g n : Nat) (rs : List Rul) (wr : World) (s : St) : Prop :=
  ∃ ra rc a c l, At wr g [.slice ra n rc, .int .i64 s.timeout, .int .i64 s.drift, .slice a s.ps.length c, .int .i64 s.clock, .int .i64 s.now] ∧ MoV w3 (fun _ => False) tag g wr rs ra a l s
def ReAt (w5 : World) (t1 : Nat → Prop) (tag : Nat → Nat) (g : Nat) (wr : World) (s : St) : Prop :=
  ∃ a c l, At wr g [.slice a s.ps.length c, .int .i64 s.timeout, .int .i64 s.drift, .int .i64 s.clock, .int .i64 s.now] ∧ RefR w5 t1 tag g wr a l s
section
variable {w3 w5 wr w' : World} {t1 : Nat → Prop} {tag tag' : Nat → Nat} {g n : Nat} {rs : List Rul} {s : St}
theorem MoAt.on (h : MoAt w3 tag g n rs wr s) (hb : Below wr.heap.size wr w') : MoAt w3 tag g n rs w' s := by
  obtain ⟨ra, rc, a, c, l, h1, h2⟩ := h
  exact ⟨ra, rc, a, c, l, h1.on hb, h2.on hb⟩
theorem MoAt.lt (h : MoAt w3 tag g n rs wr s) : g < wr.heap.size := by
  obtain ⟨ra, rc, a, c, l, h1, h2⟩ := h
  exact h1.1
theorem MoAt.src (h : MoAt w3 tag g n rs wr s) (hg : tag g = 0) (hu : Upd (fun b => tag b ≠ 0) wr w') (ht : ∀ b, tag' b ≠ 0 → tag b ≠ 0 ∨ wr.heap.size ≤ b) : MoAt w3 tag' g n rs w' s := by
  obtain ⟨ra, rc, a, c, l, h1, h2⟩ := h
  exact ⟨ra, rc, a, c, l, h1.upd hu (fun e => e hg), h2.src hu ht⟩
theorem ReAt.on (h : ReAt w5 t1 tag g wr s) (hb : Below wr.heap.size wr w') : ReAt w5 t1 tag g w' s := by
  obtain ⟨a, c, l, h1, h2⟩ := h
  exact ⟨a, c, l, h1.on hb, h2.on hb⟩
theorem ReAt.lt (h : ReAt w5 t1 tag g wr s) : g < wr.heap.size := by
  obtain ⟨a, c, l, h1, h2⟩ := h
  exact h1.1
theorem ReAt.src (h : ReAt w5 t1 tag g wr s) (hg : tag g = 0) (hu : Upd (fun b => tag b ≠ 0) wr w') (ht : ∀ b, tag' b ≠ 0 → tag b ≠ 0 ∨ wr.heap.size ≤ b) : ReAt w5 t1 tag' g w' s := by
  obtain ⟨a, c, l, h1, h2⟩ := h
  exact ⟨a, c, l, h1.upd hu (fun e => e hg), h2.src hu ht⟩
/-- A copy of it in a variable that is new. -/
theorem MoAt.copy {gN : Nat} {ex : TypeId} {ra : Option Addr} {rc : Nat} {a : Option Addr} {c : Nat} {l : List Pv} (h2 : MoV w3 (fun _ => False) tag g wr rs ra a l s) (hN : wr.heap.size = gN) (h3 : w3.heap.size ≤ gN) (htag : ∀ b, tag' b ≠ 0 → tag b ≠ 0 ∨ b = g) (hold : ∀ b, b < w3.heap.size → tag' b = 0) :
    MoAt w3 tag' gN n rs (wr.alloc (.cells #[.slice ra n rc, .int .i64 s.timeout, .int .i64 s.drift, .slice a s.ps.length c, .int .i64 s.clock, .int .i64 s.now] ex)) s := by
  subst hN
  have hz : ∀ b, tag b = 0 ∧ b ≠ g → tag' b = 0 := fun b hb => Classical.byContradiction fun hn => (htag b hn).elim (fun h => h hb.1) hb.2
  refine ⟨ra, rc, a, c, l, At.alloc wr [.slice ra n rc, .int .i64 s.timeout, .int .i64 s.drift, .slice a s.ps.length c, .int .i64 s.clock, .int .i64 s.now] ex, MoV.on ⟨⟨h2.par.row, h2.par.k, h2.par.ps, h2.par.new, fun p hp h0 => ⟨hz _ (h2.par.fr p hp h0), Nat.ne_of_lt (h2.par.lt p hp h0)⟩, fun b hb hn => hn (hold b hb), h3⟩, h2.ru, fun p hp h0 => ⟨hz _ (h2.rf p hp h0), Nat.ne_of_lt (rowu_lt h2.ru p hp h0)⟩⟩ ((Below.refl _ _).alloc (Nat.le_refl _) _)⟩
end
set_option maxRecDepth 100000 in
set_option maxHeartbeats 4000000 in
theorem walk_ModelForks (w : World) (c0 : Array Value) (d0 : (((List (Int × Int × Int × Int × Int × Unit)) × Int × Int × Unit) × (List ByteArray) × (List (Bool × Int × Unit)) × Unit)) (w0 : Rd w (.pair (.pair (.sl (.pair (.int .i64) (.pair (.int .i64) (.pair (.int .i64) (.pair (.int .i64) (.pair (.int .i64) .unit)))))) (.pair (.int .i64) (.pair (.int .i64) .unit))) (.pair (.sl .str) (.pair (.sl (.pair .bool (.pair (.int .i64) .unit))) .unit))) c0.toList d0) (a1 : Option Addr) (n1 c1 : Nat) (l1 : List (Bool × Int × Unit)) (w1 : Rd w (.sl (.pair .bool (.pair (.int .i64) .unit))) [.slice a1 n1 c1] l1) :
    Calls Tryz.prog 9 #[.agg c0, .slice a1 n1 c1] w fun e w' => e = .returned (.bool true) ∧ Below w.heap.size w w' := by
  obtain ⟨a, n, c, t, dr, b, m, c2, q, nq, c3, rs, ls, cs, rfl, hC⟩ := Rd.case w0
  clear w0
  obtain ⟨hn1, hnc1, hc1m, hch1, hci1⟩ := Rd.chs w1
  clear w1
  have hbx : Below w.heap.size w (w.alloc (.cells #[.slice a n c, .int .i64 t, .int .i64 dr, .slice b m c2, .slice q nq c3] 28)) := (Below.refl _ _).alloc (Nat.le_refl _) _
  have hA0 := At.alloc w [.slice a n c, .int .i64 t, .int .i64 dr, .slice b m c2, .slice q nq c3] 28
  have hC0 := hC.on hbx
  have hch1' := hch1.below hbx
  have hsz : w.heap.size < (w.alloc (.cells #[.slice a n c, .int .i64 t, .int .i64 dr, .slice b m c2, .slice q nq c3] 28)).heap.size := hA0.1
  clear hC hch1
  generalize l1.map toC = cs1 at *
  have HQ1 := Lib.hid hn1
  clear hn1
  have HSP := fun wx => Lib.hid (speaks24 wx)
  go_enter Tryz.func9, Tryz.ntmps9
  go_wp2_with fail
  generalize w.alloc (.cells #[.slice a n c, .int .i64 t, .int .i64 dr, .slice b m c2, .slice q nq c3] 28) = w0 at *
  have HSM := fun wx (hx : Below w0.heap.size w0 wx) => Lib.hid (law_small a n c t dr b m c2 q nq c3 ls wx (hC0.on hx).hlo hC0.hm (fun s hs => hC0.hsl s hs))
  have HA := fun wx (hx : Below w0.heap.size w0 wx) => At.five (hA0.below hx hsz)
  go_wp2_with (go_at_call 32; (with_reducible refine (HSP _).out.mono ?_); rintro e w1 ⟨rfl, hb1⟩; obtain ⟨-, x0, -, x1, -, x2, -, x3, -, x4, -⟩ := HA _ hb1)
  go_at_call 13
  refine (HSM _ hb1).out.mono ?_
  intro e w2 hS
  obtain ⟨z, rfl, hz, hb2'⟩ := hS
  have hb2 := on_below hb1 hb2'
  obtain ⟨-, y0, -, y1, -, y2, -, y3, -, y4, -⟩ := HA _ hb2
  rcases hz with rfl | ⟨rfl, hSm⟩
  · go_wp2
    go_ret
    exact ⟨rfl, on_below hbx hb2⟩
  by_cases ho60 : n1 ≤ 60
  case neg =>
    have h60 : (60 : Int) < (n1 : Int) := by omega
    have h61 : decide ((60 : Int) < (n1 : Int)) = true := decide_eq_true h60
    clear ho60
    go_wp2
    go_ret
    exact ⟨rfl, on_below hbx hb2⟩
  have h60 : (n1 : Int) ≤ 60 := by omega
  have h62 : decide ((60 : Int) < (n1 : Int)) = false := decide_eq_false (by omega)
  have e := fun (w : World) (o : Obj) => (Below.refl w.heap.size w).alloc (Nat.le_refl _) o
  by_cases hz : nerr rs t dr m = 0
  · have HN := Lib.hid (mo_new rs t dr ls a n c b m c2 w2 (hC0.hru.below hb2) (hC0.hlo.below hb2) hC0.hn hC0.hm hz hSm.1 hC0.hfit hC0.ht hC0.hd hSm.2.2.2)
    have HRN := fun wx (hx : Below w0.heap.size w0 wx) => Lib.hid (ref_new rs t dr ls a n c b m c2 wx (hC0.hru.below hx) (hC0.hlo.below hx) hC0.hn hC0.hm hz hSm.1 hC0.hfit hC0.ht hC0.hd hSm.2.2.2)
    have hc0 := (nerr_zero hz).1
    have ht1 := ccheck_t hc0
    have hmn := (nerr_zero hz).2
    have hok : (St.new t dr rs (ls.map fun s => s.data.toList)).Ok := new_ok (by rw [List.length_map]; have := hC0.hm; omega) (by have := hSm.1; omega) (fun r hr => ⟨ccheck_ok hc0 r hr, hC0.hfit r hr⟩) (fun l hl => by
      obtain ⟨s, hs', rfl⟩ := List.mem_map.1 hl
      exact hSm.2.2.2 s hs') ⟨ht1.2.1, hC0.ht.2⟩ ⟨ht1.2.2, hC0.hd.2⟩
    generalize St.new t dr rs (ls.map fun s => s.data.toList) = s0 at *
    generalize St.newE t rs (ls.map fun s => s.data.toList) = l0 at *
    have HOK := Lib.hid hok
    have hnq : nq ≤ 120 := hSm.2.1
    have HQ := Lib.hid hC0.hnq
    have HCI := Lib.hid hC0.hci
    have HCH := Lib.hid hC0.hch
    have HCI1 := Lib.hid hci1
    have HCH1 := Lib.hid hch1'
    have HRS := Lib.hid hC0.hn
    have hn5 : n ≤ 10000 := by have := hSm.2.2.1; omega
    have HBX := Lib.hid hbx
    clear hSm hz hb2' HSP HSM hok hc0 ht1 hmn hbx x0 x1 x2 x3 x4 hci1 hch1' ho60 hnc1 hc1m
    clear hC0
    go_upto_region 6 with (first | (go_at_call 33; (with_reducible refine HN.out.mono ?_); intro e3 w3 hN; obtain ⟨ra3, rc3, a3, c3', l3, r3, rfl, hU3, hP3, hps3, hr3, hb3, hra3, ha3, hap3, hrc3⟩ := hN) | fail)
    have hb23 := on_below hb2 hb3
    have hba := e w3 (.cells #[.slice ra3 n rc3, .int .i64 s0.timeout, .int .i64 s0.drift, .slice a3 s0.ps.length c3', .int .i64 s0.clock, .int .i64 s0.now] 70)
    have hA3 := At.alloc w3 [.slice ra3 n rc3, .int .i64 s0.timeout, .int .i64 s0.drift, .slice a3 s0.ps.length c3', .int .i64 s0.clock, .int .i64 s0.now] 70
    have hb4 := on_below hb23 hba
    have hg3 : w3.heap.size < (w3.alloc (.cells #[.slice ra3 n rc3, .int .i64 s0.timeout, .int .i64 s0.drift, .slice a3 s0.ps.length c3', .int .i64 s0.clock, .int .i64 s0.now] 70)).heap.size := hA3.1
    have h30 : w0.heap.size ≤ w3.heap.size := hb23.size
    clear y0 y1 y2 y3 y4 HN
    have hb34 := hba
    clear hba hr3
    generalize w3.alloc (.cells #[.slice ra3 n rc3, .int .i64 s0.timeout, .int .i64 s0.drift, .slice a3 s0.ps.length c3', .int .i64 s0.clock, .int .i64 s0.now] 70) = w4 at *
    have HR4 := HRN w4 hb4
    obtain ⟨-, y0, -, y1, -, y2, -, y3, -, y4, -⟩ := HA _ hb4
    go_upto_region 7 with (first | (go_at_call 15; (with_reducible refine HR4.out.mono ?_); intro e5 w5 hY; obtain ⟨a5, c5, l5, r5, rfl, hP5, hps5, hr5, hb5, hna5, hap5, hnr5⟩ := hY) | fail)
    have hba := e w5 (.cells #[.slice a5 s0.ps.length c5, .int .i64 s0.timeout, .int .i64 s0.drift, .int .i64 s0.clock, .int .i64 s0.now] 37)
    have hA5 := At.alloc w5 [.slice a5 s0.ps.length c5, .int .i64 s0.timeout, .int .i64 s0.drift, .int .i64 s0.clock, .int .i64 s0.now] 37
    have hb45 := on_below hb5 hba
    have hb6 := on_below hb4 hb45
    have h35 : w3.heap.size < w5.heap.size := Nat.lt_of_lt_of_le hg3 hb5.size
    have hM0 : MoV w3 (fun _ => False) (tagof w5.heap.size) w3.heap.size w3 rs ra3 a3 l3 s0 :=
      ⟨⟨hP3.row, fun v hv => ⟨(hP3.ok v hv).row, (hP3.ok v hv).le, (hP3.ok v hv).cap, fun p hp h0 h => h⟩, hps3, Upd.refl _ _, fun p hp h0 => by
        obtain ⟨b', off, hab, hb, -⟩ := hP3.row.at_ 0 h0
        rw [hab] at hp; cases hp
        have hb : b' < w3.heap.size := hb
        exact ⟨tagof_zero (by show b' ≠ w5.heap.size; omega), by show b' ≠ w3.heap.size; omega⟩, fun b hb h => by have := tagof_ne.1 h; omega, Nat.le_refl _⟩, hU3, fun p hp h0 => by
        have hb := rowu_lt hU3 p hp h0
        exact ⟨tagof_zero (by omega), by omega⟩⟩
    have hR0 : RefR w5 (fun b => b = w3.heap.size) (tagof w3.heap.size) w5.heap.size w5 a5 l5 s0 :=
      ⟨hP5.row, fun v hv => ⟨(hP5.ok v hv).row, (hP5.ok v hv).le, (hP5.ok v hv).cap, fun p hp h0 h => by have := hnr5 v hv p hp h0; omega⟩, hps5, Upd.refl _ _, fun p hp h0 => by
        have h1 := hna5 p hp h0
        obtain ⟨b', off, hab, hb, -⟩ := hP5.row.at_ 0 h0
        rw [hab] at hp; cases hp
        have hb : b' < w5.heap.size := hb
        have h1 : w4.heap.size ≤ b' := h1
        exact ⟨tagof_zero (by show b' ≠ w3.heap.size; omega), by show b' ≠ w5.heap.size; omega⟩, fun b _ h => tagof_ne.1 h, Nat.le_refl _⟩
    have hS0 : MoAt w3 (tagof w5.heap.size) w3.heap.size n rs (w5.alloc (.cells #[.slice a5 s0.ps.length c5, .int .i64 s0.timeout, .int .i64 s0.drift, .int .i64 s0.clock, .int .i64 s0.now] 37)) s0 := ⟨ra3, rc3, a3, c3', l3, hA3.on hb45, hM0.on (on_below hb34 hb45)⟩
    have hD0 : ReAt w5 (fun b => b = w3.heap.size) (tagof w3.heap.size) w5.heap.size (w5.alloc (.cells #[.slice a5 s0.ps.length c5, .int .i64 s0.timeout, .int .i64 s0.drift, .int .i64 s0.clock, .int .i64 s0.now] 37)) s0 := ⟨a5, c5, l5, hA5, hR0.on hba⟩
    have h50 : w0.heap.size ≤ w5.heap.size := by omega
    clear y0 y1 y2 y3 y4 HR4 hM0 hR0 hA5 hba hb45 hA3 hr5 hb5 hb34 hb23 hb3 hb4 hU3 hP3 hps3 hra3 ha3 hap3 hrc3 hP5 hps5 hna5 hap5 hnr5 HRN
    generalize w5.alloc (.cells #[.slice a5 s0.ps.length c5, .int .i64 s0.timeout, .int .i64 s0.drift, .int .i64 s0.clock, .int .i64 s0.now] 37) = w6 at *
    obtain ⟨-, y0, -, y1, -, y2, -, y3, -, y4, -⟩ := HA _ hb6
    have h3w : w3.heap.size ≤ w3.heap.size := Nat.le_refl _
    generalize hgg3 : w3.heap.size = g3 at *
    generalize hgg6 : w5.heap.size = g6 at *
    go_wp2_with fail
    go_loopw [51] (fun i wr => ∃ k : Nat, k ≤ nq ∧ i = .int .i64 k ∧ MoAt w3 (tagof g6) g3 n rs wr (s0.run (cs.take k)) ∧ ReAt w5 (fun b => b = g3) (tagof g3) g6 wr (s0.run (cs.take k)) ∧ Below w0.heap.size w0 wr) (fun i _ => nq - (intOf i).toNat)
    case atStart => exact ⟨0, Nat.zero_le _, rfl, hS0, hD0, hb6⟩
    case round =>
      clear hS0 hD0 y0 y1 y2 y3 y4
      obtain ⟨k, hk, rfl, hS, hD, hbw⟩ := hrel
      by_cases hlt : k < nq
      · have hkc : k < cs.length := by rw [← HQ.out]; exact hlt
        have hrow := HCH.out.below (hbw)
        obtain ⟨bq, offq, hq', -, -⟩ := hrow.at_ k hkc
        subst hq'
        obtain ⟨hbq, r0, r1⟩ := RowC.cells hrow k hkc
        have hin := HCI.out _ (List.getElem_mem hkc)
        have hS1 := run_take s0 cs k hkc
        generalize hck : cs[k] = x at *
        have HCK := Lib.hid hck
        clear hck hrow
        obtain ⟨ct, cn⟩ := x
        simp only at r0 r1 hin
        have hokk := HOK.out.run (cs.take k)
        have HS1 : Hid (s0.run (cs.take (k + 1)) = (s0.run (cs.take k)).doS (ct, cn)) := hS1
        have hbc := e wr (.cells #[.bool ct, .int .i64 cn] 48)
        have hC3 := At.alloc wr [.bool ct, .int .i64 cn] 48
        clear hS1
        have h6l := hD.lt
        have h3l := hS.lt
        have hDA := hD.on hbc
        obtain ⟨ra, rc, a, c, l, hA, hM⟩ := hS
        have hAA := hA.on hbc
        have hbA := on_below hbw hbc
        have HD := Lib.hid ((hM.on hbc).does hAA.1 (fun b hb => tagof_zero (by rw [World.size_alloc] at hb; omega)) n rc c HRS.out hn5 hokk ct cn hin)
        clear hA hM hD hbw hbc
        generalize (s0.run (cs.take k)).doE (ct, cn) = e5 at *
        generalize hs5 : (s0.run (cs.take k)).doS (ct, cn) = s5 at *
        have HS5 := Lib.hid hs5
        clear hs5
        generalize hs4 : s0.run (cs.take k) = s4 at *
        have HS4 := Lib.hid hs4
        clear hs4
        go_upto_region 12 with fail
        clear r0 r1 hbq
        have hwA : wr.heap.size < (wr.alloc (.cells #[.bool ct, .int .i64 cn] 48)).heap.size := hC3.1
        generalize wr.alloc (.cells #[.bool ct, .int .i64 cn] 48) = wA at *
        obtain ⟨-, c0, -, c1', -⟩ := hC3.two
        obtain ⟨-, d0, -, d1, -, d2, -, d3, -, d4, -, d5, -⟩ := hAA.cells6
        go_upto_region 13 with (first | (go_at_call 36; (with_reducible refine HD.out.mono ?_); intro e9 w13 hY; obtain ⟨ra6, rc6, a6, c6, l6, r6, rfl, hM6, hr6, hb6'⟩ := hY; obtain ⟨-, m0, f0, m1, f1, m2, f2, m3, f3, m4, f4, m5, f5⟩ := (hAA.on hb6').cells6) | fail)
        have hu := Upd.all6 (Upd.refl (fun b => b = g3) w13) (g := g3) (fun _ => rfl) (.slice ra6 n rc6) (.int .i64 s5.timeout) (.int .i64 s5.drift) (.slice a6 s5.ps.length c6) (.int .i64 s5.clock) (.int .i64 s5.now)
        have hS5 : MoAt w3 (tagof g6) g3 n rs (((((((w13).setCell ⟨g3, 0, none⟩ (.slice ra6 n rc6)).setCell ⟨g3, 1, none⟩ (.int .i64 s5.timeout)).setCell ⟨g3, 2, none⟩ (.int .i64 s5.drift)).setCell ⟨g3, 3, none⟩ (.slice a6 s5.ps.length c6)).setCell ⟨g3, 4, none⟩ (.int .i64 s5.clock)).setCell ⟨g3, 5, none⟩ (.int .i64 s5.now)) s5 := ⟨ra6, rc6, a6, c6, l6, At.all6 (hAA.on hb6') (.slice ra6 n rc6) (.int .i64 s5.timeout) (.int .i64 s5.drift) (.slice a6 s5.ps.length c6) (.int .i64 s5.clock) (.int .i64 s5.now), hM6.set hu⟩
        have hD5 := (hDA.on hb6').src (tag' := tagof g3) (tagof_zero (by omega)) (hu.mono (fun b _ h => tagof_ne.2 h)) (fun b h => .inl h)
        have hC5 := (hC3.on hb6').upd hu (fun h => by have h' : wr.heap.size = g3 := h; omega)
        have hbB := (on_below hbA hb6').upd hu (on_below hbA hb6').size (fun b _ h => by have h' : b = g3 := h; omega)
        have hszB : wA.heap.size ≤ _ := Nat.le_trans hb6'.size hu.size
        clear m0 f0 m1 f1 m2 f2 m3 f3 m4 f4 m5 f5 c0 c1' d0 d1 d2 d3 d4 d5 hAA hM6 hr6 hb6' hu hDA hbA hC3 HD
        generalize (((((((w13).setCell ⟨g3, 0, none⟩ (.slice ra6 n rc6)).setCell ⟨g3, 1, none⟩ (.int .i64 s5.timeout)).setCell ⟨g3, 2, none⟩ (.int .i64 s5.drift)).setCell ⟨g3, 3, none⟩ (.slice a6 s5.ps.length c6)).setCell ⟨g3, 4, none⟩ (.int .i64 s5.clock)).setCell ⟨g3, 5, none⟩ (.int .i64 s5.now)) = wB at *
        obtain ⟨a2, c2', l2, hA2, hR2⟩ := hD5
        have HRD := Lib.hid (hR2.does hA2.1 (fun b hb => tagof_zero (by omega)) c2' (by rw [← HS4.out]; exact HOK.out.run _) ct cn hin)
        rw [HS5.out] at HRD
        obtain ⟨-, c0, -, c1', -⟩ := hC5.two
        obtain ⟨-, d0, -, d1, -, d2, -, d3, -, d4, -⟩ := hA2.five
        go_upto_region 14 with (first | (go_at_call 20; (with_reducible refine HRD.out.mono ?_); intro e9 w14 hY; obtain ⟨a7, c7, l7, r7, rfl, hR7, hr7, hb7'⟩ := hY; obtain ⟨-, m0, f0, m1, f1, m2, f2, m3, f3, m4, f4⟩ := (hA2.on hb7').five) | fail)
        have hu := upd_all5 w14 g6 (.slice a7 s5.ps.length c7) (.int .i64 s5.timeout) (.int .i64 s5.drift) (.int .i64 s5.clock) (.int .i64 s5.now)
        have hD6 : ReAt w5 (fun b => b = g3) (tagof g3) g6 ((((((w14).setCell ⟨g6, 0, none⟩ (.slice a7 s5.ps.length c7)).setCell ⟨g6, 1, none⟩ (.int .i64 s5.timeout)).setCell ⟨g6, 2, none⟩ (.int .i64 s5.drift)).setCell ⟨g6, 3, none⟩ (.int .i64 s5.clock)).setCell ⟨g6, 4, none⟩ (.int .i64 s5.now)) s5 := ⟨a7, c7, l7, At.all5 (hA2.on hb7') (.slice a7 s5.ps.length c7) (.int .i64 s5.timeout) (.int .i64 s5.drift) (.int .i64 s5.clock) (.int .i64 s5.now), hR7.set hu⟩
        have hS6 := (hS5.on hb7').src (tag' := tagof g6) (tagof_zero (by omega)) (hu.mono (fun b _ h => tagof_ne.2 h)) (fun b h => .inl h)
        have hbC := Lib.hid ((on_below hbB hb7').upd hu (on_below hbB hb7').size (fun b _ h => by have h' : b = g6 := h; omega))
        clear m0 f0 m1 f1 m2 f2 m3 f3 m4 f4 c0 c1' d0 d1 d2 d3 d4 hA2 hR2 hR7 hr7 hb7' hu hS5 hbB hC5 HRD
        generalize ((((((w14).setCell ⟨g6, 0, none⟩ (.slice a7 s5.ps.length c7)).setCell ⟨g6, 1, none⟩ (.int .i64 s5.timeout)).setCell ⟨g6, 2, none⟩ (.int .i64 s5.drift)).setCell ⟨g6, 3, none⟩ (.int .i64 s5.clock)).setCell ⟨g6, 4, none⟩ (.int .i64 s5.now)) = wC at *
        go_wp2_with fail
        go_roundw
        case rel => exact ⟨k + 1, by omega, by go_num, by rw [HS1.out]; exact hS6, by rw [HS1.out]; exact hD6, hbC.out⟩
        case measure => simp [intOf] <;> omega
      · obtain rfl : k = nq := by omega
        have hok1 := HOK.out.run (cs.take k)
        generalize s0.run (cs.take k) = s1 at *
        have HOK1 := Lib.hid hok1
        clear hok1
        have h6l := hD.lt
        have h3l := hS.lt
        obtain ⟨ra, rc, a, c, l, hA, hM⟩ := hS
        have hba := e wr (.cells #[.slice ra n rc, .int .i64 s1.timeout, .int .i64 s1.drift, .slice a s1.ps.length c, .int .i64 s1.clock, .int .i64 s1.now] 70)
        have hS1 : MoAt w3 (tagtwo g6 wr.heap.size) g3 n rs (wr.alloc (.cells #[.slice ra n rc, .int .i64 s1.timeout, .int .i64 s1.drift, .slice a s1.ps.length c, .int .i64 s1.clock, .int .i64 s1.now] 70)) s1 := (MoAt.src (tag' := tagtwo g6 wr.heap.size) ⟨ra, rc, a, c, l, hA, hM⟩ (tagof_zero (by omega)) (Upd.refl _ _) (fun b h => (tagtwo_ne.1 h).imp tagof_ne.2 (fun h => by omega))).on hba
        have hN1 : MoAt w3 (tagtwo g6 g3) wr.heap.size n rs (wr.alloc (.cells #[.slice ra n rc, .int .i64 s1.timeout, .int .i64 s1.drift, .slice a s1.ps.length c, .int .i64 s1.clock, .int .i64 s1.now] 70)) s1 := MoAt.copy hM rfl (by rw [hgg3]; omega) (fun b h => (tagtwo_ne.1 h).imp tagof_ne.2 id) (fun b hb => tagtwo_zero (by omega) (by omega))
        have hD1 : ReAt w5 (fun b => b = g3) (tagtwo g3 wr.heap.size) g6 (wr.alloc (.cells #[.slice ra n rc, .int .i64 s1.timeout, .int .i64 s1.drift, .slice a s1.ps.length c, .int .i64 s1.clock, .int .i64 s1.now] 70)) s1 := (hD.src (tag' := tagtwo g3 wr.heap.size) (tagof_zero (by omega)) (Upd.refl _ _) (fun b h => (tagtwo_ne.1 h).imp tagof_ne.2 (fun h => by omega))).on hba
        have hb1' := on_below hbw hba
        obtain ⟨-, d0, -, d1, -, d2, -, d3, -, d4, -, d5, -⟩ := hA.cells6
        have h3N : g3 < wr.heap.size := h3l
        have h6N : g6 < wr.heap.size := h6l
        go_upto_region 16 with fail
        clear d0 d1 d2 d3 d4 d5 hA hM hD hbw hba
        generalize wr.alloc (.cells #[.slice ra n rc, .int .i64 s1.timeout, .int .i64 s1.drift, .slice a s1.ps.length c, .int .i64 s1.clock, .int .i64 s1.now] 70) = wZ at *
        generalize wr.heap.size = gN at *
        go_wp2_with fail
        go_loopw [71] (fun i wr => ∃ k : Nat, k ≤ n1 ∧ i = .int .i64 k ∧ MoAt w3 (tagtwo g6 g3) gN n rs wr (s1.run (cs1.take k)) ∧ MoAt w3 (tagtwo g6 gN) g3 n rs wr s1 ∧ ReAt w5 (fun b => b = g3) (tagtwo g3 gN) g6 wr s1 ∧ Below w0.heap.size w0 wr) (fun i _ => n1 - (intOf i).toNat)
        case atStart => exact ⟨0, Nat.zero_le _, rfl, hN1, hS1, hD1, hb1'⟩
        case round =>
          clear hN1 hS1 hD1 hb1'
          obtain ⟨k, hk, rfl, hN, hS, hD, hbw⟩ := hrel
          by_cases hlt : k < n1
          · have hkc : k < cs1.length := by rw [← HQ1.out]; exact hlt
            have hrow := HCH1.out.below (hbw)
            obtain ⟨bq, offq, hq', -, -⟩ := hrow.at_ k hkc
            subst hq'
            obtain ⟨hbq, r0, r1⟩ := RowC.cells hrow k hkc
            have hin := HCI1.out _ (List.getElem_mem hkc)
            have hS1 := run_take s1 cs1 k hkc
            generalize hck : cs1[k] = x at *
            have HCK := Lib.hid hck
            clear hck hrow
            obtain ⟨ct, cn⟩ := x
            simp only at r0 r1 hin
            have hokk := HOK1.out.run (cs1.take k)
            have HS1 : Hid (s1.run (cs1.take (k + 1)) = (s1.run (cs1.take k)).doS (ct, cn)) := hS1
            have hbc := e wr (.cells #[.bool ct, .int .i64 cn] 48)
            have hC3 := At.alloc wr [.bool ct, .int .i64 cn] 48
            clear hS1
            have hNl := hN.lt
            have hSA := hS.on hbc
            have hDA := hD.on hbc
            have h3l := hS.lt
            have h6l := hD.lt
            obtain ⟨ra, rc, a, c, l, hA, hM⟩ := hN
            have hAA := hA.on hbc
            have hbA := on_below hbw hbc
            have HD := Lib.hid ((hM.on hbc).does hAA.1 (fun b hb => tagtwo_zero (by rw [World.size_alloc] at hb; omega) (by rw [World.size_alloc] at hb; omega)) n rc c HRS.out hn5 hokk ct cn hin)
            clear hA hM hD hS hbw hbc
            generalize (s1.run (cs1.take k)).doE (ct, cn) = e5 at *
            generalize hs5 : (s1.run (cs1.take k)).doS (ct, cn) = s5 at *
            have HS5 := Lib.hid hs5
            clear hs5
            generalize s1.run (cs1.take k) = s4 at *
            go_upto_region 19 with fail
            clear r0 r1 hbq
            have hwA : wr.heap.size < (wr.alloc (.cells #[.bool ct, .int .i64 cn] 48)).heap.size := hC3.1
            generalize wr.alloc (.cells #[.bool ct, .int .i64 cn] 48) = wA at *
            obtain ⟨-, c0, -, c1', -⟩ := hC3.two
            obtain ⟨-, d0, -, d1, -, d2, -, d3, -, d4, -, d5, -⟩ := hAA.cells6
            go_upto_region 20 with (first | (go_at_call 36; (with_reducible refine HD.out.mono ?_); intro e9 w13 hY; obtain ⟨ra6, rc6, a6, c6, l6, r6, rfl, hM6, hr6, hb6'⟩ := hY; obtain ⟨-, m0, f0, m1, f1, m2, f2, m3, f3, m4, f4, m5, f5⟩ := (hAA.on hb6').cells6) | fail)
            have hu := Upd.all6 (Upd.refl (fun b => b = gN) w13) (g := gN) (fun _ => rfl) (.slice ra6 n rc6) (.int .i64 s5.timeout) (.int .i64 s5.drift) (.slice a6 s5.ps.length c6) (.int .i64 s5.clock) (.int .i64 s5.now)
            have hN5 : MoAt w3 (tagtwo g6 g3) gN n rs (((((((w13).setCell ⟨gN, 0, none⟩ (.slice ra6 n rc6)).setCell ⟨gN, 1, none⟩ (.int .i64 s5.timeout)).setCell ⟨gN, 2, none⟩ (.int .i64 s5.drift)).setCell ⟨gN, 3, none⟩ (.slice a6 s5.ps.length c6)).setCell ⟨gN, 4, none⟩ (.int .i64 s5.clock)).setCell ⟨gN, 5, none⟩ (.int .i64 s5.now)) s5 := ⟨ra6, rc6, a6, c6, l6, At.all6 (hAA.on hb6') (.slice ra6 n rc6) (.int .i64 s5.timeout) (.int .i64 s5.drift) (.slice a6 s5.ps.length c6) (.int .i64 s5.clock) (.int .i64 s5.now), hM6.set hu⟩
            have hS5 := (hSA.on hb6').src (tag' := tagtwo g6 gN) (tagtwo_zero (by omega) (by omega)) (hu.mono (fun b _ h => tagtwo_ne.2 (.inr h))) (fun b h => .inl h)
            have hD5 := (hDA.on hb6').src (tag' := tagtwo g3 gN) (tagtwo_zero (by omega) (by omega)) (hu.mono (fun b _ h => tagtwo_ne.2 (.inr h))) (fun b h => .inl h)
            have hbB := Lib.hid ((on_below hbA hb6').upd hu (on_below hbA hb6').size (fun b _ h => by have h' : b = gN := h; omega))
            clear m0 f0 m1 f1 m2 f2 m3 f3 m4 f4 m5 f5 c0 c1' d0 d1 d2 d3 d4 d5 hAA hM6 hr6 hb6' hu hDA hSA hbA hC3 HD
            generalize (((((((w13).setCell ⟨gN, 0, none⟩ (.slice ra6 n rc6)).setCell ⟨gN, 1, none⟩ (.int .i64 s5.timeout)).setCell ⟨gN, 2, none⟩ (.int .i64 s5.drift)).setCell ⟨gN, 3, none⟩ (.slice a6 s5.ps.length c6)).setCell ⟨gN, 4, none⟩ (.int .i64 s5.clock)).setCell ⟨gN, 5, none⟩ (.int .i64 s5.now)) = wB at *
            go_wp2_with fail
            go_roundw
            case rel => exact ⟨k + 1, by omega, by go_num, by rw [HS1.out]; exact hN5, hS5, hD5, hbB.out⟩
            case measure => simp [intOf] <;> omega
          · obtain ⟨k1n, rfl⟩ : ∃ k1n, k1n = k := ⟨_, rfl⟩
            obtain rfl : k1n = n1 := by omega
            have hcs : cs1.take k1n = cs1 := List.take_of_length_le (by rw [HQ1.out]; exact Nat.le_refl _)
            rw [hcs] at hN
            clear hcs
            have HAL := fun ra rc a c l a2 c2 l2 wx (h1 : RowP wx a l) (h2 : RowP wx a2 l2) hl hl2 => Lib.hid (alike_true ra n rc a a2 _ c c2 l l2 s1 wx h1 h2 rfl hl hl2 HOK1.out)
            have hNl := hN.lt
            have h3l := hS.lt
            have h6l := hD.lt
            obtain ⟨ra, rc, a, c, l, hA, hM⟩ := hS
            have hD' := hD
            obtain ⟨a2, c2', l2, hA2, hR2⟩ := hD'
            have HAL1 := HAL ra rc a c l a2 c2' l2 wr hM.par.rowp hR2.rowp hM.par.ps hR2.ps
            obtain ⟨-, d0, -, d1, -, d2, -, d3, -, d4, -, d5, -⟩ := hA.cells6
            obtain ⟨-, k0, -, k1, -, k2, -, k3, -, k4, -⟩ := hA2.five
            clear HAL hA hM hA2 hR2
            go_upto_region 23 with (first | (go_at_call 37; (with_reducible refine HAL1.out.mono ?_); rintro e9 w15 ⟨rfl, hb15⟩) | fail)
            have hN2 := hN.on hb15
            have hD2 := hD.on hb15
            have hb2' := on_below hbw hb15
            clear d0 d1 d2 d3 d4 d5 k0 k1 k2 k3 k4 hN hD hbw hb15 HAL1
            go_wp2_with fail
            go_loopw [88] (fun i wr => ∃ k : Nat, k ≤ k1n ∧ i = .int .i64 k ∧ MoAt w3 (tagtwo g6 g3) gN n rs wr (s1.run cs1) ∧ ReAt w5 (fun b => b = g3) (tagtwo g3 gN) g6 wr (s1.run (cs1.take k)) ∧ Below w0.heap.size w0 wr) (fun i _ => k1n - (intOf i).toNat)
            case atStart => exact ⟨0, Nat.zero_le _, rfl, hN2, hD2, hb2'⟩
            case round =>
              clear hN2 hD2 hb2'
              obtain ⟨k, hk, rfl, hN, hD, hbw⟩ := hrel
              by_cases hlt : k < k1n
              · have hkc : k < cs1.length := by rw [← HQ1.out]; exact hlt
                have hrow := HCH1.out.below (hbw)
                obtain ⟨bq, offq, hq', -, -⟩ := hrow.at_ k hkc
                subst hq'
                obtain ⟨hbq, r0, r1⟩ := RowC.cells hrow k hkc
                have hin := HCI1.out _ (List.getElem_mem hkc)
                have hS1 := run_take s1 cs1 k hkc
                generalize hck : cs1[k] = x at *
                have HCK := Lib.hid hck
                clear hck hrow
                obtain ⟨ct, cn⟩ := x
                simp only at r0 r1 hin
                have hokk := HOK1.out.run (cs1.take k)
                have HS1 : Hid (s1.run (cs1.take (k + 1)) = (s1.run (cs1.take k)).doS (ct, cn)) := hS1
                have hbc := e wr (.cells #[.bool ct, .int .i64 cn] 48)
                have hC3 := At.alloc wr [.bool ct, .int .i64 cn] 48
                clear hS1
                have hNl := hN.lt
                have h6l := hD.lt
                have hNA := hN.on hbc
                obtain ⟨a2, c2', l2, hA2, hR2⟩ := hD
                have hAA := hA2.on hbc
                have hbA := on_below hbw hbc
                have HRD := Lib.hid ((hR2.on hbc).does hAA.1 (fun b hb => tagtwo_zero (by rw [World.size_alloc] at hb; omega) (by rw [World.size_alloc] at hb; omega)) c2' hokk ct cn hin)
                clear hA2 hR2 hN hbw hbc
                generalize (s1.run (cs1.take k)).doE (ct, cn) = e5 at *
                generalize hs5 : (s1.run (cs1.take k)).doS (ct, cn) = s5 at *
                have HS5 := Lib.hid hs5
                clear hs5
                generalize s1.run (cs1.take k) = s4 at *
                go_upto_region 26 with fail
                clear r0 r1 hbq
                have hwA : wr.heap.size < (wr.alloc (.cells #[.bool ct, .int .i64 cn] 48)).heap.size := hC3.1
                generalize wr.alloc (.cells #[.bool ct, .int .i64 cn] 48) = wA at *
                obtain ⟨-, c0, -, c1', -⟩ := hC3.two
                obtain ⟨-, d0, -, d1, -, d2, -, d3, -, d4, -⟩ := hAA.five
                go_upto_region 27 with (first | (go_at_call 20; (with_reducible refine HRD.out.mono ?_); intro e9 w14 hY; obtain ⟨a7, c7, l7, r7, rfl, hR7, hr7, hb7'⟩ := hY; obtain ⟨-, m0, f0, m1, f1, m2, f2, m3, f3, m4, f4⟩ := (hAA.on hb7').five) | fail)
                have hu := upd_all5 w14 g6 (.slice a7 s5.ps.length c7) (.int .i64 s5.timeout) (.int .i64 s5.drift) (.int .i64 s5.clock) (.int .i64 s5.now)
                have hD6 : ReAt w5 (fun b => b = g3) (tagtwo g3 gN) g6 ((((((w14).setCell ⟨g6, 0, none⟩ (.slice a7 s5.ps.length c7)).setCell ⟨g6, 1, none⟩ (.int .i64 s5.timeout)).setCell ⟨g6, 2, none⟩ (.int .i64 s5.drift)).setCell ⟨g6, 3, none⟩ (.int .i64 s5.clock)).setCell ⟨g6, 4, none⟩ (.int .i64 s5.now)) s5 := ⟨a7, c7, l7, At.all5 (hAA.on hb7') (.slice a7 s5.ps.length c7) (.int .i64 s5.timeout) (.int .i64 s5.drift) (.int .i64 s5.clock) (.int .i64 s5.now), hR7.set hu⟩
                have hN6 := (hNA.on hb7').src (tag' := tagtwo g6 g3) (tagtwo_zero (by omega) (by omega)) (hu.mono (fun b _ h => tagtwo_ne.2 (.inl h))) (fun b h => .inl h)
                have hbC := Lib.hid ((on_below hbA hb7').upd hu (on_below hbA hb7').size (fun b _ h => by have h' : b = g6 := h; omega))
                clear m0 f0 m1 f1 m2 f2 m3 f3 m4 f4 c0 c1' d0 d1 d2 d3 d4 hAA hR7 hr7 hb7' hu hNA hbA hC3 HRD
                generalize ((((((w14).setCell ⟨g6, 0, none⟩ (.slice a7 s5.ps.length c7)).setCell ⟨g6, 1, none⟩ (.int .i64 s5.timeout)).setCell ⟨g6, 2, none⟩ (.int .i64 s5.drift)).setCell ⟨g6, 3, none⟩ (.int .i64 s5.clock)).setCell ⟨g6, 4, none⟩ (.int .i64 s5.now)) = wC at *
                go_wp2_with fail
                go_roundw
                case rel => exact ⟨k + 1, by omega, by go_num, hN6, by rw [HS1.out]; exact hD6, hbC.out⟩
                case measure => simp [intOf] <;> omega
              · obtain rfl : k = k1n := by omega
                have hcs : cs1.take k = cs1 := List.take_of_length_le (by rw [HQ1.out]; exact Nat.le_refl _)
                rw [hcs] at hD
                clear hcs
                have hokf := HOK1.out.run cs1
                obtain ⟨ra, rc, a, c, l, hA, hM⟩ := hN
                obtain ⟨a2, c2', l2, hA2, hR2⟩ := hD
                have HAL1 := Lib.hid (alike_true ra n rc a a2 _ c c2' l l2 (s1.run cs1) wr hM.par.rowp hR2.rowp rfl hM.par.ps hR2.ps hokf)
                obtain ⟨-, d0, -, d1, -, d2, -, d3, -, d4, -, d5, -⟩ := hA.cells6
                obtain ⟨-, k0, -, k1, -, k2, -, k3, -, k4, -⟩ := hA2.five
                have HBW := Lib.hid hbw
                clear hA hM hA2 hR2 hbw hokf
                go_wp2_with (first | (go_at_call 37; (with_reducible refine HAL1.out.mono ?_); rintro e9 w15 ⟨rfl, hb15⟩) | fail)
                go_ret
                exact ⟨rfl, on_below HBX.out (on_below HBW.out hb15)⟩
  · obtain ⟨z, hzz⟩ : ∃ z, nerr rs t dr m = z := ⟨_, rfl⟩
    have hz0 : z ≠ 0 := by rw [← hzz]; exact hz
    have hn1' : n ≤ 10000 := by have := hSm.2.2.1; omega
    have HN := Lib.hid (mo_new_none rs t dr a n c b m c2 w2 (hC0.hru.below hb2) hC0.hn hn1' z hzz hz0)
    have HRN := fun wx (hx : Below w0.heap.size w0 wx) => Lib.hid (ref_new_none rs t dr a n c b m c2 wx (hC0.hru.below hx) hC0.hn hn1' z hzz hz0)
    have hzb : (z != 0) = true := by rw [bne_iff_ne]; exact hz0
    have HBX := Lib.hid hbx
    clear hSm hz hzz hz0 hb2' HSP HSM hC0 hbx x0 x1 x2 x3 x4 hci1 hch1'
    go_upto_region 6 with (first | (go_at_call 33; (with_reducible refine HN.out.mono ?_); rintro e3 w3 ⟨rfl, hb3⟩) | fail)
    have hba := e w3 (.cells #[.slice none 0 0, .int .i64 0, .int .i64 0, .slice none 0 0, .int .i64 0, .int .i64 0] 70)
    have hb4 := on_below (on_below hb2 hb3) hba
    clear y0 y1 y2 y3 y4 HN hba
    generalize w3.alloc (.cells #[.slice none 0 0, .int .i64 0, .int .i64 0, .slice none 0 0, .int .i64 0, .int .i64 0] 70) = w4 at *
    have HR4 := HRN w4 hb4
    obtain ⟨-, y0, -, y1, -, y2, -, y3, -, y4, -⟩ := HA _ hb4
    go_upto_region 7 with (first | (go_at_call 15; (with_reducible refine HR4.out.mono ?_); rintro e5 w5 ⟨rfl, hb5⟩) | fail)
    have hba := Lib.hid (e w5 (.cells #[.slice none 0 0, .int .i64 0, .int .i64 0, .int .i64 0, .int .i64 0] 37))
    clear y0 y1 y2 y3 y4 HR4 HRN e
    go_wp2_with fail
    go_ret
    exact ⟨rfl, on_below HBX.out (on_below (on_below hb4 hb5) hba.out)⟩
end Go.Proofs.YtoecikeleoaecaaGreat
