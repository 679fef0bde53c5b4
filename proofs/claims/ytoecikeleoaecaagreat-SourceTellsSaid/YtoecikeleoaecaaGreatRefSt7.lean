/- The document's own answers of layer 23: the clock goes on; a choice. -/
import Derived.Test.YtoecikeleoaecaaGreatRefSt6
namespace Go.Proofs.YtoecikeleoaecaaGreat
set_option maxRecDepth 4000
open Go.ChangeShapes Go.WideShapes Go.ChangeAt Go.RowKit
open PHist PRing PSat PClamp PBound PFrame PSign PTree PEv
set_option linter.unusedVariables false
set_option linter.unusedSimpArgs false

/-- The first q of them went on. -/
def wq (f : Pt → Pt) : List Pt → Nat → List Pt
  | ps, 0 => ps
  | [], _ + 1 => []
  | p :: ps, q + 1 => f p :: wq f ps q
theorem wq_zero (f : Pt → Pt) : ∀ ps : List Pt, wq f ps 0 = ps
  | [] => rfl
  | _ :: _ => rfl
theorem wq_all (f : Pt → Pt) : ∀ ps : List Pt, wq f ps ps.length = ps.map f
  | [] => rfl
  | p :: ps => by
    show f p :: wq f ps ps.length = _
    rw [wq_all f ps]; rfl
theorem wq_len (f : Pt → Pt) : ∀ (ps : List Pt) (q : Nat), (wq f ps q).length = ps.length
  | [], 0 => rfl
  | [], _ + 1 => rfl
  | _ :: _, 0 => rfl
  | p :: ps, q + 1 => by
    show (f p :: wq f ps q).length = _
    rw [List.length_cons, wq_len f ps q, List.length_cons]
theorem wq_at (f : Pt → Pt) : ∀ (ps : List Pt) (q : Nat) (h : q < ps.length), (wq f ps q)[q]? = some ps[q]
  | p :: ps, 0, _ => rfl
  | p :: ps, q + 1, h => wq_at f ps q (by simpa using h)
theorem wq_set (f : Pt → Pt) : ∀ (ps : List Pt) (q : Nat) (h : q < ps.length), (wq f ps q).set q (f ps[q]) = wq f ps (q + 1)
  | p :: ps, 0, _ => by
    show f p :: ps = f p :: wq f ps 0
    rw [wq_zero]
  | p :: ps, q + 1, h => by
    have h' : q < ps.length := by simpa using h
    show f p :: (wq f ps q).set q (f (ps[q]'h')) = f p :: wq f ps (q + 1)
    rw [wq_set f ps q h']
theorem wq_same (f : Pt → Pt) : ∀ (ps : List Pt) (q : Nat) (h : q < ps.length), f ps[q] = ps[q] → wq f ps (q + 1) = wq f ps q
  | p :: ps, 0, _, hf => by
    show f p :: wq f ps 0 = p :: ps
    rw [wq_zero]
    have hf : f p = p := hf
    rw [hf]
  | p :: ps, q + 1, h, hf => by
    show f p :: wq f ps (q + 1) = f p :: wq f ps q
    rw [wq_same f ps q (by simpa using h) hf]
theorem RowG.keep {S : Nat → Prop} {w w' : World} {a : Option Addr} {l : List Pv} (h : RowG w 10 Pv.cells a l) (hu : Upd S w w') (hn : ∀ p, a = some p → 0 < l.length → ¬ S p.block) : RowG w' 10 Pv.cells a l := by
  rcases Nat.eq_zero_or_pos l.length with h0 | h0
  · exact ⟨fun i hi => by omega⟩
  · exact h.upd hu fun p hp => hn p hp h0
def TickI (K : Option Addr → Nat → List R → Prop) (a : Option Addr) (n : Nat) (tm dr ck nw : Int) (ps : List Pt) (w wr : World) : Prop :=
  ∃ (a' : Option Addr) (c' : Nat) (l' : List Pv), At wr w.heap.size [.slice a' n c', .int .i64 tm, .int .i64 dr, .int .i64 ck, .int .i64 nw] ∧ RowG wr 10 Pv.cells a' l' ∧ l'.map (·.p) = ps ∧ At wr (w.heap.size + 1 + 1) [.slice none 0 0, .int .i64 0, .int .i64 0, .int .i64 0, .int .i64 0] ∧ Below w.heap.size w wr ∧ (∀ v ∈ l', PvOk w v) ∧ (∀ v ∈ l', K v.a v.c v.p.recs) ∧ (∀ p, a' = some p → 0 < l'.length → p.block < w.heap.size ∨ w.heap.size + 3 ≤ p.block) ∧ (a' = a ∨ ∀ p, a' = some p → w.heap.size ≤ p.block)
set_option maxHeartbeats 4000000 in
theorem ref_tick (K : Option Addr → Nat → List R → Prop) (a : Option Addr) (n c : Nat) (l : List Pv) (s : St) (x : Int) (w : World) (hr : RowP w a l) (hn : n = l.length) (hl : l.map (·.p) = s.ps) (h0 : ∀ v ∈ l, K v.a v.c v.p.recs) (hok : s.Ok) (hx : 0 ≤ x) (hx2 : x ≤ 9223372036854775807) :
    Calls Tryz.prog 20 #[.agg #[.slice a n c, .int .i64 s.timeout, .int .i64 s.drift, .int .i64 s.clock, .int .i64 s.now], .agg #[.bool true, .int .i64 x]] w (DoR K a (s.tickS x) (s.tickE x) w) := by
  have hA0 := At.alloc w [.slice a n c, .int .i64 s.timeout, .int .i64 s.drift, .int .i64 s.clock, .int .i64 s.now] 37
  have hA1 := At.alloc (w.alloc (.cells #[.slice a n c, .int .i64 s.timeout, .int .i64 s.drift, .int .i64 s.clock, .int .i64 s.now] 37)) [.bool true, .int .i64 x] 48
  have hA2 := At.alloc ((w.alloc (.cells #[.slice a n c, .int .i64 s.timeout, .int .i64 s.drift, .int .i64 s.clock, .int .i64 s.now] 37)).alloc (.cells #[.bool true, .int .i64 x] 48)) [.slice none 0 0, .int .i64 0, .int .i64 0, .int .i64 0, .int .i64 0] 37
  simp only [World.size_alloc] at hA1 hA2
  have e := fun (w : World) (o : Obj) => (Below.refl w.heap.size w).alloc (Nat.le_refl _) o
  have hA0' := (hA0.on (e _ (.cells #[.bool true, .int .i64 x] 48))).on (e _ (.cells #[.slice none 0 0, .int .i64 0, .int .i64 0, .int .i64 0, .int .i64 0] 37))
  have hA1' := hA1.on (e _ (.cells #[.slice none 0 0, .int .i64 0, .int .i64 0, .int .i64 0, .int .i64 0] 37))
  have hB0 : Below w.heap.size w (((w.alloc (.cells #[.slice a n c, .int .i64 s.timeout, .int .i64 s.drift, .int .i64 s.clock, .int .i64 s.now] 37)).alloc (.cells #[.bool true, .int .i64 x] 48)).alloc (.cells #[.slice none 0 0, .int .i64 0, .int .i64 0, .int .i64 0, .int .i64 0] 37)) := on_below (on_below (e _ _) (e _ _)) (e _ _)
  have hlen : n = s.ps.length := by rw [hn, ← hl, List.length_map]
  have hn8 := hok.n
  have HOK : Hid (∀ p ∈ s.ps.map (fun p => p.wait (add s.clock x)), p.Ok) := (hok.tick x).pt
  have HADD := fun wx => Lib.hid (ref_add s.clock x wx hok.ck ⟨by omega, hx2⟩)
  have hck2 : in64 (add s.clock x) := add_in _ _
  unfold St.tickS St.tickE St.ticked
  obtain ⟨ps, tm, dr, ck, nw⟩ := s
  simp only at *
  generalize add ck x = ck2 at *
  have HR := Lib.hid hr
  have HN := Lib.hid hn
  have HL := Lib.hid hl
  have H0 := Lib.hid h0
  have HLE := Lib.hid hlen
  have HRB : Hid (∀ p, a = some p → 0 < l.length → p.block < w.heap.size ∨ w.heap.size + 3 ≤ p.block) := fun p hp h0 => by
    obtain ⟨b, off, hab, hb, -⟩ := hr.row.at_ 0 h0
    rw [hab] at hp; cases hp
    exact .inl hb
  clear hr hn hl hlen hok h0 hA0 hA1 e
  generalize hf : (fun p : Pt => p.wait ck2) = f at *
  have HF : Hid (∀ p : Pt, f p = p.wait ck2) := fun p => by rw [← hf]
  clear hf
  have HADV := fun (a' : Option Addr) (c' : Nat) (l' : List Pv) (wx : World) (h : RowP wx a' l') (h2 : l'.map (·.p) = ps.map f) => Lib.hid (ref_advance a' n c' l' (ps.map f) tm dr ck2 nw wx h (by have h3 := congrArg List.length h2; rw [List.length_map, List.length_map] at h3; rw [HLE.out]; exact h3.symm) h2 HOK.out (by have := HLE.out; omega))
  have hn8' : n ≤ 8 := by have := HLE.out; omega
  have hnx : ¬ x < 0 := by omega
  go_enter Tryz.func20, Tryz.ntmps20
  go_upto_region 1 with fail
  generalize ((w.alloc (.cells #[.slice a n c, .int .i64 tm, .int .i64 dr, .int .i64 ck, .int .i64 nw] 37)).alloc (.cells #[.bool true, .int .i64 x] 48)).alloc (.cells #[.slice none 0 0, .int .i64 0, .int .i64 0, .int .i64 0, .int .i64 0] 37) = w1 at *
  obtain ⟨hg0, c0, z0, c1, z1, c2, z2, c3, z3, c4, z4⟩ := hA0'.five
  obtain ⟨hg1, d0, y0, d1, y1⟩ := hA1'.two
  go_upto_region 6 with (first | (go_at_call 60; (with_reducible refine (HADD _).out.mono ?_); rintro e w2 ⟨rfl, rfl⟩))
  clear c0 z0 c1 z1 c2 z2 c3 z3 c4 z4 d0 y0 d1 y1 hg0 hg1
  have hA := hA0'.set 3 (by simp) (.int .i64 ck2)
  simp only [List.set] at hA
  have hAz := hA2.set_other (p := ⟨w.heap.size, 3, none⟩) (by show w.heap.size ≠ w.heap.size + 1 + 1; omega) (.int .i64 ck2)
  have hB1 := hB0.setCell (p := ⟨w.heap.size, 3, none⟩) (Nat.le_refl _) (.int .i64 ck2)
  clear hA0' hA1' hA2 hB0
  generalize w1.setCell ⟨w.heap.size, 3, none⟩ (.int .i64 ck2) = w2 at *
  have HI0 : TickI K a n tm dr ck2 nw (wq f ps 0) w w2 := ⟨a, c, l, hA, HR.out.row.below hB1, by rw [wq_zero]; exact HL.out, hAz, hB1, HR.out.ok, H0.out, HRB.out, .inl rfl⟩
  clear hnx
  go_wp2_with fail
  go_loopw [6] (fun i wr => ∃ q : Nat, q ≤ n ∧ i = .int .i64 q ∧ TickI K a n tm dr ck2 nw (wq f ps q) w wr) (fun i _ => n - (intOf i).toNat)
  case atStart => exact ⟨0, Nat.zero_le _, rfl, HI0⟩
  case round =>
    clear HI0 hA hAz hB1
    obtain ⟨q, hq, rfl, a', c', l', hA, hR, hl', hAz, hbw, hoks, hok0, hblk, hnew⟩ := hrel
    obtain ⟨hg0, c0, z0, c1, z1, c2, z2, c3, z3, c4, z4⟩ := hA.five
    have hl2 : l'.length = n := by rw [HLE.out, ← wq_len f ps q, ← hl', List.length_map]
    have hRP : RowP wr a' l' := ⟨hR, fun v hv => (hoks v hv).on hbw⟩
    by_cases hlt : q < n
    · have hql : q < l'.length := by omega
      have hqp : q < ps.length := by rw [← HLE.out]; exact hlt
      obtain ⟨b, off, rfl, hbl, -⟩ := hR.at_ q hql
      have hcell := hRP.cell q hql
      have hpq : l'[q].p = ps[q] := by
        have h1 := wq_at f ps q hqp
        rw [← hl', List.getElem?_map, List.getElem?_eq_getElem hql] at h1
        exact Option.some.inj h1
      have hov := hoks _ (List.getElem_mem hql)
      have hov0 := hok0 _ (List.getElem_mem hql)
      have hF := HF.out ps[q]
      rw [← hpq] at hF
      have hsm := wq_same f ps q hqp
      have hst := wq_set f ps q hqp
      rw [← hpq] at hsm hst
      have HSET := fun (v : Pv) (h : v.p = f l'[q].p) => (show (l'.set q v).map (·.p) = wq f ps (q + 1) by rw [pair_set hl', h]; exact hst)
      have HW := fun (v : Pv) (wx : World) (hbx : Below wr.heap.size wr wx) (hv : PvOk wx v) => Lib.hid (ref_with (some ⟨b, off, none⟩) n c' l' tm dr ck2 nw q v wx (hRP.on hbx) hl2.symm hql hv (by omega))
      generalize hv0 : l'[q] = v at *
      obtain ⟨⟨⟨kd, bd, pc, wn, sg⟩, recs, er, rd, is, tl⟩, av, cv⟩ := v
      simp only at *
      obtain ⟨hbb, p0, p1, p2, p3, p4, p5, p6, p7, p8, p9⟩ := hcell
      have hba : Below wr.heap.size wr (wr.alloc (.cells #[.int .i64 kd, .int .i64 bd, .int .i64 pc, .int .i64 wn, .int .i64 sg, .slice av recs.length cv, .int .i64 er, .int .i64 rd, .int .i64 is, .int .i64 tl] 58)) := (Below.refl _ _).alloc (Nat.le_refl _) _
      by_cases hw : is = 0 ∧ tl ≤ ck2
      · rw [show Pt.wait ⟨⟨kd, bd, pc, wn, sg⟩, recs, er, rd, is, tl⟩ ck2 = ⟨⟨kd, bd, pc, wn, sg⟩, recs, er, rd, 1, tl⟩ from if_pos hw] at hF
        rw [hF] at HSET
        obtain ⟨rfl, htl⟩ := hw
        have hP := At.alloc wr [.int .i64 kd, .int .i64 bd, .int .i64 pc, .int .i64 wn, .int .i64 sg, .slice av recs.length cv, .int .i64 er, .int .i64 rd, .int .i64 1, .int .i64 tl] 58
        have hbs : Below wr.heap.size wr (wr.alloc (.cells #[.int .i64 kd, .int .i64 bd, .int .i64 pc, .int .i64 wn, .int .i64 sg, .slice av recs.length cv, .int .i64 er, .int .i64 rd, .int .i64 1, .int .i64 tl] 58)) := (Below.refl _ _).alloc (Nat.le_refl _) _
        have hv1 : PvOk w ⟨⟨⟨kd, bd, pc, wn, sg⟩, recs, er, rd, 1, tl⟩, av, cv⟩ := ⟨hov.row, hov.le, hov.cap⟩
        have HW1 := HW ⟨⟨⟨kd, bd, pc, wn, sg⟩, recs, er, rd, 1, tl⟩, av, cv⟩ _ hbs (hv1.on (on_below hbw hbs))
        simp only [Pv.val] at HW1
        have hA3 := hA.on hbs
        have hAz3 := hAz.on hbs
        have HOKS : Hid (∀ v ∈ l'.set q ⟨⟨⟨kd, bd, pc, wn, sg⟩, recs, er, rd, 1, tl⟩, av, cv⟩, PvOk w v) := fun v' h => by
          rcases List.mem_or_eq_of_mem_set h with h | rfl
          · exact hoks _ h
          · exact hv1
        have HOK0 : Hid (∀ v ∈ l'.set q ⟨⟨⟨kd, bd, pc, wn, sg⟩, recs, er, rd, 1, tl⟩, av, cv⟩, K v.a v.c v.p.recs) := fun v' h => by
          rcases List.mem_or_eq_of_mem_set h with h | rfl
          · exact hok0 _ h
          · exact hov0
        have HST := HSET ⟨⟨⟨kd, bd, pc, wn, sg⟩, recs, er, rd, 1, tl⟩, av, cv⟩ rfl
        have hbw3 := on_below hbw hbs
        have hwz : w.heap.size < wr.heap.size := hA.1
        have hwz2 : w.heap.size + 1 + 1 < wr.heap.size := hAz.1
        have hs3 := hbs.size
        clear HW HSET hst hsm hba hoks hok0 hov hov0 hv1 hRP hF
        go_upto_region 12 with fail
        generalize wr.alloc (.cells #[.int .i64 kd, .int .i64 bd, .int .i64 pc, .int .i64 wn, .int .i64 sg, .slice av recs.length cv, .int .i64 er, .int .i64 rd, .int .i64 1, .int .i64 tl] 58) = w3 at *
        obtain ⟨-, c0, z0, c1, z1, c2, z2, c3, z3, c4, z4⟩ := hA3.five
        obtain ⟨-, q0, x0, q1, x1, q2, x2, q3, x3, q4, x4, q5, x5, q6, x6, q7, x7, q8, x8, q9, x9⟩ := hP.ten
        go_upto_region 8 with (first | (go_at_call 61; (with_reducible refine HW1.out.mono ?_); intro e w5 hY; obtain ⟨a5, c5, rfl, hR5, hb5, hG5⟩ := hY; have hA5 := hA3.on hb5; have hAz5 := hAz3.on hb5; obtain ⟨-, e0, f0, e1, f1, e2, f2, e3, f3, e4, f4⟩ := hA5.five))
        clear c0 z0 c1 z1 c2 z2 c3 z3 c4 z4 q0 x0 q1 x1 q2 x2 q3 x3 q4 x4 q5 x5 q6 x6 q7 x7 q8 x8 q9 x9 e0 f0 e1 f1 e2 f2 e3 f3 e4 f4
        have hu6 := upd_all5 w5 w.heap.size (.slice a5 n c5) (.int .i64 tm) (.int .i64 dr) (.int .i64 ck2) (.int .i64 nw)
        have hA6 := At.all5 hA5 (.slice a5 n c5) (.int .i64 tm) (.int .i64 dr) (.int .i64 ck2) (.int .i64 nw)
        have HI6 := Lib.hid (show TickI K a n tm dr ck2 nw (wq f ps (q + 1)) w _ from ⟨a5, c5, _, hA6, hR5.row.upd hu6 (fun p hp h => by have := hG5 p hp; have h' : p.block = w.heap.size := h; omega), HST, hAz5.upd hu6 (fun h => by have h' : w.heap.size + 1 + 1 = w.heap.size := h; omega), (on_below hbw3 hb5).upd hu6 (on_below hbw3 hb5).size (fun k _ h => by have h' : k = w.heap.size := h; omega), HOKS.out, HOK0.out, fun p hp _ => .inr (by have := hG5 p hp; omega), .inr fun p hp => by have := hG5 p hp; omega⟩)
        clear hA5 hAz5 hR5 hb5 hG5 hu6 hA6 HOKS HST hA3 hAz3
        go_wp2_with fail
        go_roundw
        case rel => exact ⟨q + 1, by omega, by go_num, HI6.out⟩
        case measure => simp [intOf] <;> omega
      · rw [show Pt.wait ⟨⟨kd, bd, pc, wn, sg⟩, recs, er, rd, is, tl⟩ ck2 = ⟨⟨kd, bd, pc, wn, sg⟩, recs, er, rd, is, tl⟩ from if_neg hw] at hF
        have HI6 := Lib.hid (show TickI K a n tm dr ck2 nw (wq f ps (q + 1)) w _ from ⟨_, c', l', hA.on hba, hR.below hba, by rw [hsm hF]; exact hl', hAz.on hba, on_below hbw hba, hoks, hok0, hblk, hnew⟩)
        clear HW HSET hst hsm hoks hok0 hov hov0 hRP hF hl' hnew hblk hR hAz hA hbw
        by_cases h0 : is = 0
        · subst h0
          have htl : ck2 < tl := by omega
          clear hw
          go_wp2_with fail
          go_roundw
          case rel => exact ⟨q + 1, by omega, by go_num, HI6.out⟩
          case measure => simp [intOf] <;> omega
        · have h0' : (is == 0) = false := by rw [beq_eq_false_iff_ne]; exact h0
          clear hw h0
          go_wp2_with fail
          go_roundw
          case rel => exact ⟨q + 1, by omega, by go_num, HI6.out⟩
          case measure => simp [intOf] <;> omega
    · obtain rfl : q = n := by omega
      have hlf : l'.map (·.p) = ps.map f := by rw [hl', HLE.out]; exact wq_all f ps
      have HA5 := HADV a' c' l' wr hRP hlf
      have hbx := hbw.size
      have HWT : Hid (q = (ps.map f).length) := by show q = _; rw [List.length_map]; exact HLE.out
      have HFI : Hid (∀ (w7 w8 : World) (r : Value), Below wr.heap.size wr w7 → Upd (fun k => k = w.heap.size + 1 + 1) w7 w8 → Sl wr.heap.size w7 8 r (marksE nw (ps.map f)).length (evcs (marksE nw (ps.map f))) → DoR K a ⟨ps.map f, tm, dr, ck2, further nw (ps.map f)⟩ (marksE nw (ps.map f)) w (.returned (.tuple #[.agg #[.slice a' q c', .int .i64 tm, .int .i64 dr, .int .i64 ck2, .int .i64 (further nw (ps.map f))], r])) w8) := fun w7 w8 r hb7 hu8 hs => by
        have hw8 : Below w.heap.size w w8 := (on_below hbw hb7).upd hu8 (on_below hbw hb7).size (fun k _ h => by have h' : k = w.heap.size + 1 + 1 := h; omega)
        have hz := hAz.1
        refine ⟨a', c', l', r, by rw [← HWT.out], RowG.keep (hR.below hb7) hu8 (fun p hp h0 h => ?_), hok0, hlf, (hs.base hbx).upd hu8 (fun k hk h => ?_), hw8, hnew⟩
        · have h' : p.block = w.heap.size + 1 + 1 := h
          have := hblk p hp h0
          omega
        · have h' : k = w.heap.size + 1 + 1 := h
          have := (hs.lt k hk).1
          omega
      have hAz1 := hAz
      clear hlf hl' hoks hok0 hblk hnew hR hRP hAz hA hbw hq hlt HADV
      go_wp2_with (first | (go_at_call 57; (with_reducible refine HA5.out.mono ?_); intro e w7 hY; obtain ⟨r7, rfl, hm7, hb7⟩ := hY; have hAz7 := hAz1.on hb7; obtain ⟨-, e0, f0, e1, f1, e2, f2, e3, f3, e4, f4⟩ := hAz7.five; have hT := Lib.hid (fun x0 x1 x2 x3 x4 => At.all5 hAz7 x0 x1 x2 x3 x4); have hBo := Lib.hid (fun x0 x1 x2 x3 x4 => upd_all5 w7 (w.heap.size + 1 + 1) x0 x1 x2 x3 x4); clear hAz7))
      refine bodyPost_ret (results_at2 (fn := Tryz.f20) rfl _ rfl (hT.out _ _ _ _ _) Tryz.underlying37 rfl (by kernel_rfl)) rfl ?_
      exact HFI.out _ _ _ hb7 (hBo.out _ _ _ _ _) hm7
end Go.Proofs.YtoecikeleoaecaaGreat
