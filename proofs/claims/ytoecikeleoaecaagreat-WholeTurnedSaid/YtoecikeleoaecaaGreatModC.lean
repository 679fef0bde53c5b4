/- The model's state in a variable: what stays of it; all choices, one behind the other. -/
import Derived.Test.YtoecikeleoaecaaGreatModB
import Derived.Test.YtoecikeleoaecaaGreatRefV
namespace Go.Proofs.YtoecikeleoaecaaGreat
set_option maxRecDepth 4000
open Go.ChangeShapes Go.WideShapes Go.ChangeAt Go.RowKit
open PHist PRing PSat PClamp PBound PFrame PVar PCrc PSign PTree PEv
set_option linter.unusedVariables false
set_option linter.unusedSimpArgs false

/-- A state's rows, beside blocks that others write (tag), and its own variable g5. -/
structure MoV (w1 : World) (t1 : Nat → Prop) (tag : Nat → Nat) (g5 : Nat) (wr : World) (rs : List Rul) (ra a : Option Addr) (l : List Pv) (s : St) : Prop where
  par : RefR w1 t1 tag g5 wr a l s
  ru : RowU wr ra rs
  rf : ∀ p, ra = some p → 0 < rs.length → tag p.block = 0 ∧ p.block ≠ g5
theorem rowu_keep {S : Nat → Prop} {w w' : World} {ra : Option Addr} {rs : List Rul} (h : RowU w ra rs) (hu : Upd S w w') (hn : ∀ p, ra = some p → 0 < rs.length → ¬ S p.block) : RowU w' ra rs := by
  rcases Nat.eq_zero_or_pos rs.length with h0 | h0
  · exact ⟨fun i hi => by omega⟩
  · exact RowG.upd h hu fun p hp => hn p hp h0
theorem rowu_lt {w : World} {ra : Option Addr} {rs : List Rul} (h : RowU w ra rs) : ∀ p, ra = some p → 0 < rs.length → p.block < w.heap.size := fun p hp h0 => by
  obtain ⟨b, off, hab, hb, -⟩ := h.at_ 0 h0
  rw [hab] at hp; cases hp
  exact hb
section
variable {w1 wr w' : World} {t1 : Nat → Prop} {tag tag' : Nat → Nat} {g5 : Nat} {rs : List Rul} {ra a : Option Addr} {l : List Pv} {s : St}
theorem MoV.on (h : MoV w1 t1 tag g5 wr rs ra a l s) (hb : Below wr.heap.size wr w') : MoV w1 t1 tag g5 w' rs ra a l s := ⟨h.par.on hb, h.ru.below hb, h.rf⟩
theorem MoV.src (h : MoV w1 t1 tag g5 wr rs ra a l s) (hu : Upd (fun b => tag b ≠ 0) wr w') (ht : ∀ b, tag' b ≠ 0 → tag b ≠ 0 ∨ wr.heap.size ≤ b) : MoV w1 t1 tag' g5 w' rs ra a l s :=
  ⟨h.par.src hu ht, rowu_keep h.ru hu (fun p hp h0 hn => hn (h.rf p hp h0).1), fun p hp h0 => ⟨by
    apply Classical.byContradiction
    intro hn
    rcases ht _ hn with h1 | h1
    · exact h1 (h.rf p hp h0).1
    · have := rowu_lt h.ru p hp h0; omega, (h.rf p hp h0).2⟩⟩
theorem MoV.set (h : MoV w1 t1 tag g5 wr rs ra a l s) (hu : Upd (fun b => b = g5) wr w') : MoV w1 t1 tag g5 w' rs ra a l s :=
  ⟨h.par.set hu, rowu_keep h.ru hu (fun p hp h0 hn => (h.rf p hp h0).2 hn), h.rf⟩
theorem MoV.does (h : MoV w1 t1 tag g5 wr rs ra a l s) (hg : g5 < wr.heap.size) (hn : ∀ b, wr.heap.size ≤ b → tag b = 0) (rn rc c : Nat) (hrn : rn = rs.length) (hr8 : rn ≤ 10000) (hok : s.Ok) (t : Bool) (x : Int) (hx : in64 x) :
    Calls Tryz.prog 36 #[.agg #[.slice ra rn rc, .int .i64 s.timeout, .int .i64 s.drift, .slice a s.ps.length c, .int .i64 s.clock, .int .i64 s.now], .agg #[.bool t, .int .i64 x]] wr fun e w' => ∃ ra' rc' a' c' l' r, e = .returned (.tuple #[.agg #[.slice ra' rn rc', .int .i64 (s.doS (t, x)).timeout, .int .i64 (s.doS (t, x)).drift, .slice a' (s.doS (t, x)).ps.length c', .int .i64 (s.doS (t, x)).clock, .int .i64 (s.doS (t, x)).now], r]) ∧
      MoV w1 t1 tag g5 w' rs ra' a' l' (s.doS (t, x)) ∧ Sl wr.heap.size w' 1 r (s.doE (t, x)).length ((s.doE (t, x)).map evv) ∧ Below wr.heap.size wr w' :=
  (mo_do (KR w1 t1) ra rn rc rs a s.ps.length c l s t x wr h.ru hrn hr8 h.par.rowp h.par.len.symm h.par.ps h.par.k hok hx).mono fun e w' hY => by
    obtain ⟨ra', rc', a', c', l', r, h1, h2, h3, h4, h5, h6, h7, h8, h9⟩ := hY
    exact ⟨ra', rc', a', c', l', r, h1, ⟨⟨h3, h4, h5, (h.par.on h7).new, fun p hp h0 => by have := h9 p hp; exact ⟨hn _ this, by omega⟩, h.par.old, h.par.g⟩, h2, fun p hp h0 => by have := h8 p hp; exact ⟨hn _ this, by omega⟩⟩, h6, h7⟩
end
/-- Its blocks: those of one slice. -/
def own1 (v : Value) (b : Nat) : Nat := match v.ownBlock with
  | some k => if k = b then 1 else 0
  | none => 0
theorem own1_ne {v : Value} {b : Nat} : own1 v b ≠ 0 ↔ v.ownBlock = some b := by
  unfold own1
  cases h : v.ownBlock with
  | none => simp
  | some k =>
    by_cases e : k = b
    · simp [e]
    · simp [e]
theorem own1_zero {v : Value} {b : Nat} (h : v.ownBlock ≠ some b) : own1 v b = 0 := by
  apply Classical.byContradiction
  intro hn
  exact h (own1_ne.1 hn)
set_option maxHeartbeats 4000000 in
theorem mo_play (rs : List Rul) (t d : Int) (ls : List ByteArray) (cs : List (Bool × Int)) (a : Option Addr) (n c : Nat) (b : Option Addr) (m c2 : Nat) (q : Option Addr) (nq c3 : Nat) (w : World) (h1 : RowU w a rs) (h2 : RowS w b ls) (h3 : RowG w 2 chc q cs) (hn : n = rs.length) (hm : m = ls.length) (hq : nq = cs.length) (hz : nerr rs t d m = 0) (h8 : m ≤ 8) (hf : ∀ r ∈ rs, r.Fits) (ht : in64 t) (hd : in64 d) (hs : ∀ s ∈ ls, s.size ≤ 400) (hc : ∀ x ∈ cs, in64 x.2) (hcl : nq ≤ 1000) :
    Calls Tryz.prog 34 #[.agg #[.slice a n c, .int .i64 t, .int .i64 d], .slice b m c2, .slice q nq c3] w (PlayPost (St.newE t rs (ls.map fun s => s.data.toList) ++ (St.new t d rs (ls.map fun s => s.data.toList)).runE cs) w) := by
  have e := fun (w : World) (o : Obj) => (Below.refl w.heap.size w).alloc (Nat.le_refl _) o
  have hb0 : Below w.heap.size w (w.alloc (.cells #[.slice a n c, .int .i64 t, .int .i64 d] 24)) := e _ _
  have hA0 := At.alloc w [.slice a n c, .int .i64 t, .int .i64 d] 24
  obtain ⟨hc0, hmn⟩ := nerr_zero hz
  have ht1 := ccheck_t hc0
  have hok : (St.new t d rs (ls.map fun s => s.data.toList)).Ok := new_ok (by rw [List.length_map]; omega) (by omega) (fun r hr => ⟨ccheck_ok hc0 r hr, hf r hr⟩) (fun l hl => by
    obtain ⟨s, hs', rfl⟩ := List.mem_map.1 hl
    exact hs s hs') ⟨ht1.2.1, ht.2⟩ ⟨ht1.2.2, hd.2⟩
  have hel := newE_len t rs (ls.map fun s => s.data.toList)
  have HN := Lib.hid (mo_new rs t d ls a n c b m c2 _ (h1.below hb0) (h2.below hb0) hn hm hz h8 hf ht hd hs)
  generalize St.new t d rs (ls.map fun s => s.data.toList) = s0 at *
  generalize St.newE t rs (ls.map fun s => s.data.toList) = l0 at *
  have HOK := Lib.hid hok
  have HL : Hid (l0.length ≤ 9) := by show l0.length ≤ 9; omega
  have HQ := Lib.hid hq
  have H3 := Lib.hid h3
  have HC := Lib.hid hc
  have HRN := Lib.hid hn
  have hr8 : n ≤ 8 := by omega
  clear h1 h2 h3 hn hm hz h8 hf ht hd hs hc hok hc0 hmn ht1 hel hq
  go_enter Tryz.func34, Tryz.ntmps34
  go_upto_region 1 with fail
  generalize w.alloc (.cells #[.slice a n c, .int .i64 t, .int .i64 d] 24) = w0 at *
  obtain ⟨-, p0, -, p1, -, p2, -⟩ := hA0.three
  go_upto_region 2 with (first | (go_at_call 33; (with_reducible refine HN.out.mono ?_); intro e3 w1 hN; obtain ⟨ra1, rc1, a1, c1, l1, r1, rfl, hU1, hP1, hps1, hr1, hb1, hra1, ha1, hap1, hrc1⟩ := hN; obtain ⟨ao, co, hre⟩ := hr1.shape; subst hre) | fail)
  have hbw1 := on_below hb0 hb1
  have hba := e w1 (.cells #[.slice ra1 n rc1, .int .i64 s0.timeout, .int .i64 s0.drift, .slice a1 s0.ps.length c1, .int .i64 s0.clock, .int .i64 s0.now] 70)
  have hAt := At.alloc w1 [.slice ra1 n rc1, .int .i64 s0.timeout, .int .i64 s0.drift, .slice a1 s0.ps.length c1, .int .i64 s0.clock, .int .i64 s0.now] 70
  have hs0 : w0.heap.size ≤ w1.heap.size := hb1.size
  have hww1 : w.heap.size ≤ w1.heap.size := hbw1.size
  have hM0 : MoV w1 (fun b => (Value.slice ao l0.length co).ownBlock = some b) (own1 (.slice ao l0.length co)) w1.heap.size w1 rs ra1 a1 l1 s0 :=
    ⟨⟨hP1.row, fun v hv => ⟨(hP1.ok v hv).row, (hP1.ok v hv).le, (hP1.ok v hv).cap, fun p hp h0 h => (hap1 _ h).2.2 v hv p hp h0 rfl⟩, hps1, Upd.refl _ _, fun p hp h0 => ⟨own1_zero (fun h => (hap1 _ h).2.1 p hp rfl), by
      obtain ⟨b', off, hab, hb, -⟩ := hP1.row.at_ 0 h0
      rw [hab] at hp; cases hp
      exact Nat.ne_of_lt hb⟩, fun b _ h => own1_ne.1 h, Nat.le_refl _⟩, hU1, fun p hp h0 => ⟨own1_zero (fun h => (hap1 _ h).1 p hp rfl), Nat.ne_of_lt (rowu_lt hU1 p hp h0)⟩⟩
  have hM1 := hM0.on hba
  have hE1 := (hr1.onW hba).base hb0.size
  have hbw2 := on_below hbw1 hba
  have hno : (Value.slice ao l0.length co).ownBlock ≠ some w1.heap.size := fun h => Nat.lt_irrefl _ (hr1.lt _ h).2
  clear p0 p1 p2 hA0 HN hU1 hP1 hps1 hr1 hb1 hra1 ha1 hap1 hrc1 hM0 hba hb0
  have hg1 := hAt.1
  generalize w1.alloc (.cells #[.slice ra1 n rc1, .int .i64 s0.timeout, .int .i64 s0.drift, .slice a1 s0.ps.length c1, .int .i64 s0.clock, .int .i64 s0.now] 70) = w2 at *
  go_wp2_with fail
  go_loopw [9, 27] (fun va i wr => ∃ (k : Nat) (ra : Option Addr) (rc : Nat) (a : Option Addr) (c : Nat) (l : List Pv), k ≤ nq ∧ i = .int .i64 k ∧ At wr w1.heap.size [.slice ra n rc, .int .i64 (s0.run (cs.take k)).timeout, .int .i64 (s0.run (cs.take k)).drift, .slice a (s0.run (cs.take k)).ps.length c, .int .i64 (s0.run (cs.take k)).clock, .int .i64 (s0.run (cs.take k)).now] ∧ MoV w1 (fun b => (Value.slice ao l0.length co).ownBlock = some b) (own1 va) w1.heap.size wr rs ra a l (s0.run (cs.take k)) ∧ Sl w.heap.size wr 1 va (l0 ++ s0.runE (cs.take k)).length ((l0 ++ s0.runE (cs.take k)).map evv) ∧ va.ownBlock ≠ some w1.heap.size ∧ Below w.heap.size w wr) (fun _ i _ => nq - (intOf i).toNat)
  case atStart =>
    refine ⟨0, ra1, rc1, a1, c1, l1, Nat.zero_le _, rfl, hAt, hM1, ?_, hno, hbw2⟩
    show Sl w.heap.size w2 1 _ (l0 ++ []).length ((l0 ++ []).map evv)
    rw [List.append_nil]
    exact hE1
  case round =>
    clear hAt hM1 hE1 hbw2 hno
    obtain ⟨k, ra, rc, a, c, l, hk, rfl, hAt, hM, hE, hno, hbw⟩ := hrel
    obtain ⟨av, cv, hre⟩ := hE.shape
    subst hre
    by_cases hlt : k < nq
    · have hkc : k < cs.length := by rw [← HQ.out]; exact hlt
      have hrow := H3.out.below hbw
      obtain ⟨bq, offq, hq', -, -⟩ := hrow.at_ k hkc
      subst hq'
      obtain ⟨hbq, r0, r1⟩ := RowC.cells hrow k hkc
      have hin := HC.out _ (List.getElem_mem hkc)
      have hrl := runE_len (cs.take k) s0
      rw [List.length_take] at hrl
      have hel : (l0 ++ s0.runE (cs.take k)).length ≤ 9000 := by rw [List.length_append]; have := HL.out; omega
      have hS1 := run_take s0 cs k hkc
      have hE1 := runE_take s0 cs k hkc
      generalize hck : cs[k] = x at *
      have HCK := Lib.hid hck
      clear hck hrow hrl
      obtain ⟨ct, cn⟩ := x
      simp only at r0 r1 hin
      have hd3 := doE_len (s0.run (cs.take k)) (ct, cn)
      have hokk := HOK.out.run (cs.take k)
      have HS1 : Hid (s0.run (cs.take (k + 1)) = (s0.run (cs.take k)).doS (ct, cn)) := hS1
      have HE1 : Hid (l0 ++ s0.runE (cs.take (k + 1)) = (l0 ++ s0.runE (cs.take k)) ++ (s0.run (cs.take k)).doE (ct, cn)) := by show _ = _; rw [hE1, List.append_assoc]
      have hbc := e wr (.cells #[.bool ct, .int .i64 cn] 48)
      have hC3 := At.alloc wr [.bool ct, .int .i64 cn] 48
      have hAA := hAt.on hbc
      have hMA := hM.on hbc
      have hEA := hE.onW hbc
      have hbA := on_below hbw hbc
      have HD := Lib.hid (hMA.does hAA.1 (fun b hb => own1_zero (fun h => by have := (hE.lt b h).2; rw [World.size_alloc] at hb; omega)) n rc c HRN.out (by omega) hokk ct cn hin)
      clear hAt hM hE hbw hbc hS1 hE1 hokk
      generalize (s0.run (cs.take k)).doE (ct, cn) = e5 at *
      generalize (s0.run (cs.take k)).doS (ct, cn) = s5 at *
      generalize l0 ++ s0.runE (cs.take k) = e4 at *
      generalize s0.run (cs.take k) = s4 at *
      go_upto_region 7 with fail
      clear r0 r1 hbq
      generalize wr.alloc (.cells #[.bool ct, .int .i64 cn] 48) = wA at *
      obtain ⟨-, c0, -, c1', -⟩ := hC3.two
      obtain ⟨-, d0, -, d1, -, d2, -, d3, -, d4, -, d5, -⟩ := hAA.cells6
      go_upto_region 8 with (first | (go_at_call 36; (with_reducible refine HD.out.mono ?_); intro e9 w6 hY; obtain ⟨ra6, rc6, a6, c6, l6, r6, rfl, hM6, hr6, hb6⟩ := hY; obtain ⟨ar, cr, hre⟩ := hr6.shape; subst hre) | fail)
      have hba7 := e w6 (.cells #[.slice ra6 n rc6, .int .i64 s5.timeout, .int .i64 s5.drift, .slice a6 s5.ps.length c6, .int .i64 s5.clock, .int .i64 s5.now] 70)
      have hN7 := At.alloc w6 [.slice ra6 n rc6, .int .i64 s5.timeout, .int .i64 s5.drift, .slice a6 s5.ps.length c6, .int .i64 s5.clock, .int .i64 s5.now] 70
      have hA7 := (hAA.on hb6).on hba7
      have hM7 := (hM6.on hba7).on (Below.refl _ _).drew
      have hE7 := (hEA.onW hb6).onW hba7
      have hr7 := hr6.onW hba7
      have hb7 := on_below (on_below hbA hb6) hba7
      have hav6 : ∀ b, (Value.slice av e4.length cv).ownBlock = some b → b < w6.heap.size := fun b hb => Nat.lt_of_lt_of_le (hEA.lt b hb).2 hb6.size
      have hg16 : w1.heap.size < w6.heap.size := Nat.lt_of_lt_of_le hAA.1 hb6.size
      have hbw : w.heap.size ≤ w6.heap.size := Nat.le_trans hbA.size hb6.size
      clear c0 c1' d0 d1 d2 d3 d4 d5 hC3 hAA hMA hEA hbA hM6 hr6 hb6 HD hba7
      have hg7 : w6.heap.size < (w6.alloc (.cells #[.slice ra6 n rc6, .int .i64 s5.timeout, .int .i64 s5.drift, .slice a6 s5.ps.length c6, .int .i64 s5.clock, .int .i64 s5.now] 70)).heap.size := hN7.1
      generalize w6.alloc (.cells #[.slice ra6 n rc6, .int .i64 s5.timeout, .int .i64 s5.drift, .slice a6 s5.ps.length c6, .int .i64 s5.clock, .int .i64 s5.now] 70) = w7 at *
      generalize w6.heap.size = g13 at *
      have HFI : Hid (∀ (a8 : Option Addr) (c8 : Nat) (w8 : World), Sl w.heap.size w8 1 (.slice a8 (e4.length + e5.length) c8) (e4.length + e5.length) (e4.map evv ++ e5.map evv) → Upd (fun b => (Value.slice av e4.length cv).ownBlock = some b) w7.drew w8 → (∀ b, (Value.slice a8 (e4.length + e5.length) c8).ownBlock = some b → (Value.slice av e4.length cv).ownBlock = some b ∨ w7.drew.heap.size ≤ b) → ∀ w9, Upd (fun b => b = w1.heap.size) w8 w9 →
          MoV w1 (fun b => (Value.slice ao l0.length co).ownBlock = some b) (own1 (.slice a8 (e4.length + e5.length) c8)) w1.heap.size w9 rs ra6 a6 l6 s5 ∧ Sl w.heap.size w9 1 (.slice a8 (e4.length + e5.length) c8) (e4 ++ e5).length ((e4 ++ e5).map evv) ∧ (Value.slice a8 (e4.length + e5.length) c8).ownBlock ≠ some w1.heap.size ∧ Below w.heap.size w w9) := fun a8 c8 w8 l1 l2 l3 w9 hu => by
        have hn8 : (Value.slice a8 (e4.length + e5.length) c8).ownBlock ≠ some w1.heap.size := fun h => (l3 _ h).elim hno (fun h => by have h' : w7.heap.size ≤ w1.heap.size := h; omega)
        have hb8 : Below w.heap.size w w8 := (on_below hb7 (Below.refl _ _).drew).upd l2 (by show w.heap.size ≤ w7.heap.size; omega) (fun b _ h => (hE7.lt b h).1)
        refine ⟨(hM7.src (l2.mono (fun b _ h => own1_ne.2 h)) (fun b h => (l3 b (own1_ne.1 h)).imp own1_ne.2 id)).set hu, ?_, hn8, hb8.upd hu hb8.size (fun b _ h => by have h' : b = w1.heap.size := h; omega)⟩
        have h9 := l1.upd hu (fun b h1 h2 => hn8 (by rw [h1]; exact congrArg some h2))
        rw [List.length_append, List.map_append]
        exact h9
      obtain ⟨i0, hi0, hz0, hz1, hz2⟩ := info_parts info_cl_ev
      have hm1 : e4.length + e5.length ≤ maxLen := by unfold maxLen; omega
      have hB7 : w.heap.size ≤ w7.drew.heap.size := by show w.heap.size ≤ w7.heap.size; omega
      obtain ⟨hgz, c0, z0, c1', z1, c2', z2, c3', z3, c4', z4, c5', z5⟩ := hN7.drew.cells6
      obtain ⟨hgy, d0, y0, d1, y1, d2, y2, d3, y3, d4, y4, d5, y5⟩ := hA7.drew.cells6
      have hA7d := hA7.drew
      have hN7d := hN7.drew
      have hE7d := hE7.drew
      have hr7d := hr7.drew
      clear hM7 hA7 hN7 hE7 hr7 hb7
      go_region_law (first | (refine step_append_mine rfl (.tmp 38) (.tmp 39) 41 41 rfl 67 i0 .nilIface 16 Tryz.underlying41 hi0 hz0 hz1 hz2 rfl (.slice av e4.length cv) (.slice ar e5.length cr) e5.length (e5.map evv) rfl rfl hE7d (src_sl hr7d Tryz.underlying41 (evv_one _)) hm1 (by omega) hB7 ?_; intro a8 c8 w8 l1 l2 l3; have hN8 := hN7d.upd l2 (fun h => by have := hav6 _ h; omega); have hA8 := hA7d.upd l2 hno; obtain ⟨hgz', c0x, z0x, c1x, z1x, c2x, z2x, c3x, z3x, c4x, z4x, c5x, z5x⟩ := hN8.cells6; obtain ⟨hgy', d0x, y0x, d1x, y1x, d2x, y2x, d3x, y3x, d4x, y4x, d5x, y5x⟩ := hA8.cells6) | fail)
      all_goals
        have hT := Lib.hid (At.all6 hA8 (.slice ra6 n rc6) (.int .i64 s5.timeout) (.int .i64 s5.drift) (.slice a6 s5.ps.length c6) (.int .i64 s5.clock) (.int .i64 s5.now))
        have hUf := Lib.hid (Upd.all6 (Upd.refl (fun b => b = w1.heap.size) w8) (g := w1.heap.size) (fun _ => rfl) (.slice ra6 n rc6) (.int .i64 s5.timeout) (.int .i64 s5.drift) (.slice a6 s5.ps.length c6) (.int .i64 s5.clock) (.int .i64 s5.now))
        have hFI := Lib.hid (HFI.out a8 c8 w8 l1 l2 l3 _ hUf.out)
        clear l1 l2 l3 hN8 hA8 c0x z0x c1x z1x c2x z2x c3x z3x c4x z4x c5x z5x d0x y0x d1x y1x d2x y2x d3x y3x d4x y4x d5x y5x
        go_wp2_with fail
        go_roundw
      all_goals first
        | exact ⟨k + 1, ra6, rc6, a6, c6, l6, by omega, by go_num, by rw [HS1.out]; exact hT.out, by rw [HS1.out]; exact hFI.out.1, by rw [HE1.out]; exact hFI.out.2.1, hFI.out.2.2.1, hFI.out.2.2.2⟩
        | (simp [intOf] <;> omega)
    · obtain rfl : k = nq := by omega
      have hcs : cs.take k = cs := List.take_of_length_le (by rw [HQ.out]; exact Nat.le_refl _)
      rw [hcs] at hE
      rw [hcs]
      clear hcs
      have HE := Lib.hid hE
      have HB := Lib.hid hbw
      clear hE hbw hM hAt
      generalize l0 ++ s0.runE cs = e4 at *
      go_wp2_with fail
      go_ret2
      exact ⟨_, rfl, HE.out, HB.out⟩
set_option maxHeartbeats 1000000 in
theorem mo_play_none (rs : List Rul) (t d : Int) (a : Option Addr) (n c : Nat) (b : Option Addr) (m c2 : Nat) (u : Value) (w : World) (h1 : RowU w a rs) (hn : n = rs.length) (hl : n ≤ 10000) (z : Int) (hz : nerr rs t d m = z) (h0 : z ≠ 0) :
    Calls Tryz.prog 34 #[.agg #[.slice a n c, .int .i64 t, .int .i64 d], .slice b m c2, u] w fun e w' => e = .returned (.tuple #[.slice none 0 0, .int .i64 z]) ∧ Below w.heap.size w w' := by
  have hb0 : Below w.heap.size w (w.alloc (.cells #[.slice a n c, .int .i64 t, .int .i64 d] 24)) := (Below.refl _ _).alloc (Nat.le_refl _) _
  have HN := Lib.hid (mo_new_none rs t d a n c b m c2 _ (h1.below hb0) hn hl z hz h0)
  have hz0 : (z != 0) = true := by rw [bne_iff_ne]; exact h0
  have HB0 := Lib.hid hb0
  have hba := fun (w1 : World) => Lib.hid ((Below.refl w1.heap.size w1).alloc (Nat.le_refl _) (.cells #[.slice none 0 0, .int .i64 0, .int .i64 0, .slice none 0 0, .int .i64 0, .int .i64 0] 70))
  clear h1 hn hl hz h0 hb0
  go_enter Tryz.func34, Tryz.ntmps34
  go_wp2_with (first | (go_at_call 33; (with_reducible refine HN.out.mono ?_); rintro e w1 ⟨rfl, hb1⟩) | fail)
  go_ret2
  exact ⟨rfl, on_below (on_below HB0.out hb1) (hba _).out⟩
end Go.Proofs.YtoecikeleoaecaaGreat
