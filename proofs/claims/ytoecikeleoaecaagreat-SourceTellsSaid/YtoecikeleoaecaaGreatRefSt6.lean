/- The document's own answers of layer 23: a partition is read. -/
import Derived.Test.YtoecikeleoaecaaGreatKRefS
import Derived.Test.YtoecikeleoaecaaGreatKFrame
import Derived.Test.YtoecikeleoaecaaGreatKSrcA
import Derived.Deep.RegionLaw
namespace Go.Proofs.YtoecikeleoaecaaGreat
set_option maxRecDepth 4000
open Go.ChangeShapes Go.WideShapes Go.ChangeAt Go.RowKit
open PHist PRing PSat PClamp PBound PFrame PSign PTree PEv
set_option linter.unusedVariables false
set_option linter.unusedSimpArgs false

/-- A state, and events: the row is the one that was given, or a new one; what held of its records holds still. -/
def DoR (K : Option Addr → Nat → List R → Prop) (a0 : Option Addr) (s : St) (es : List Ev) (w : World) (e : Ending) (w' : World) : Prop :=
  ∃ (a : Option Addr) (c : Nat) (l : List Pv) (r : Value), e = .returned (.tuple #[.agg #[.slice a s.ps.length c, .int .i64 s.timeout, .int .i64 s.drift, .int .i64 s.clock, .int .i64 s.now], r]) ∧ RowG w' 10 Pv.cells a l ∧ (∀ v ∈ l, K v.a v.c v.p.recs) ∧ l.map (·.p) = s.ps ∧ Sl w.heap.size w' 8 r es.length (evcs es) ∧ Below w.heap.size w w' ∧ (a = a0 ∨ ∀ p, a = some p → w.heap.size ≤ p.block)
set_option maxHeartbeats 4000000 in
theorem ref_poll_no (K : Option Addr → Nat → List R → Prop) (a : Option Addr) (n c : Nat) (l : List Pv) (s : St) (i : Int) (w : World) (hr : RowP w a l) (hn : n = l.length) (hl : l.map (·.p) = s.ps) (h0 : ∀ v ∈ l, K v.a v.c v.p.recs) (hok : s.Ok) (ho : s.refused i = true) :
    Calls Tryz.prog 59 #[.agg #[.slice a n c, .int .i64 s.timeout, .int .i64 s.drift, .int .i64 s.clock, .int .i64 s.now], .int .i64 i] w (DoR K a s [] w) := by
  have hA0 := At.alloc w [.slice a n c, .int .i64 s.timeout, .int .i64 s.drift, .int .i64 s.clock, .int .i64 s.now] 37
  have hA1 := At.alloc (w.alloc (.cells #[.slice a n c, .int .i64 s.timeout, .int .i64 s.drift, .int .i64 s.clock, .int .i64 s.now] 37)) [.slice none 0 0, .int .i64 0, .int .i64 0, .int .i64 0, .int .i64 0] 37
  rw [World.size_alloc] at hA1
  have e := fun (w : World) (o : Obj) => (Below.refl w.heap.size w).alloc (Nat.le_refl _) o
  have hA0' := hA0.on (e _ (.cells #[.slice none 0 0, .int .i64 0, .int .i64 0, .int .i64 0, .int .i64 0] 37))
  have hB0 : Below w.heap.size w ((w.alloc (.cells #[.slice a n c, .int .i64 s.timeout, .int .i64 s.drift, .int .i64 s.clock, .int .i64 s.now] 37)).alloc (.cells #[.slice none 0 0, .int .i64 0, .int .i64 0, .int .i64 0, .int .i64 0] 37)) := on_below (e _ _) (e _ _)
  have hlen : n = s.ps.length := by rw [hn, ← hl, List.length_map]
  have HR := Lib.hid (ref_refused a n c l s i _ (hr.on hB0) hn hl hok true ho)
  have HRO := Lib.hid hr
  have HL := Lib.hid hl
  have H0 := Lib.hid h0
  have HLE := Lib.hid hlen
  clear hA0 e hr hn hl hok ho hlen h0
  go_enter Tryz.func59, Tryz.ntmps59
  go_wp2_with fail
  generalize (w.alloc (.cells #[.slice a n c, .int .i64 s.timeout, .int .i64 s.drift, .int .i64 s.clock, .int .i64 s.now] 37)).alloc (.cells #[.slice none 0 0, .int .i64 0, .int .i64 0, .int .i64 0, .int .i64 0] 37) = w2 at *
  go_wp2_with (go_at_call 30; (with_reducible refine HR.out.mono ?_); rintro e w3 ⟨rfl, hb3⟩; obtain ⟨-, b0, y0, b1, y1, b2, y2, b3, y3, b4, y4⟩ := (hA0'.on hb3).five; have hAz := hA1.on hb3; obtain ⟨-, z0, u0, z1, u1, z2, u2, z3, u3, z4, u4⟩ := hAz.five; have hT := Lib.hid (fun x0 x1 x2 x3 x4 => At.all5 hAz x0 x1 x2 x3 x4); have hBo := Lib.hid (fun x0 x1 x2 x3 x4 => Below.all5 (on_below hB0 hb3) (g := w.heap.size + 1) (by omega) x0 x1 x2 x3 x4); clear hAz)
  refine bodyPost_ret (results_at2 (fn := Tryz.f59) rfl _ rfl (hT.out _ _ _ _ _) Tryz.underlying37 rfl (by kernel_rfl)) rfl ?_
  rw [HLE.out]
  exact ⟨a, c, l, .slice none 0 0, rfl, HRO.out.row.below (hBo.out _ _ _ _ _), H0.out, HL.out, Sl.nil _ _ _, hBo.out _ _ _ _ _, .inl rfl⟩
theorem upd_all10 (w : World) (g : Nat) (x0 x1 x2 x3 x4 x5 x6 x7 x8 x9 : Value) : Upd (fun k => k = g) w ((((((((((w.setCell ⟨g, 0, none⟩ x0).setCell ⟨g, 1, none⟩ x1).setCell ⟨g, 2, none⟩ x2).setCell ⟨g, 3, none⟩ x3).setCell ⟨g, 4, none⟩ x4).setCell ⟨g, 5, none⟩ x5).setCell ⟨g, 6, none⟩ x6).setCell ⟨g, 7, none⟩ x7).setCell ⟨g, 8, none⟩ x8).setCell ⟨g, 9, none⟩ x9) := (((((((((((Upd.refl (fun k => k = g) w).setCell (p := ⟨g, 0, none⟩) (fun _ => rfl) x0).setCell (p := ⟨g, 1, none⟩) (fun _ => rfl) x1).setCell (p := ⟨g, 2, none⟩) (fun _ => rfl) x2).setCell (p := ⟨g, 3, none⟩) (fun _ => rfl) x3).setCell (p := ⟨g, 4, none⟩) (fun _ => rfl) x4).setCell (p := ⟨g, 5, none⟩) (fun _ => rfl) x5).setCell (p := ⟨g, 6, none⟩) (fun _ => rfl) x6).setCell (p := ⟨g, 7, none⟩) (fun _ => rfl) x7).setCell (p := ⟨g, 8, none⟩) (fun _ => rfl) x8).setCell (p := ⟨g, 9, none⟩) (fun _ => rfl) x9)
theorem upd_all5 (w : World) (g : Nat) (x0 x1 x2 x3 x4 : Value) : Upd (fun k => k = g) w (((((w.setCell ⟨g, 0, none⟩ x0).setCell ⟨g, 1, none⟩ x1).setCell ⟨g, 2, none⟩ x2).setCell ⟨g, 3, none⟩ x3).setCell ⟨g, 4, none⟩ x4) := ((((((Upd.refl (fun k => k = g) w).setCell (p := ⟨g, 0, none⟩) (fun _ => rfl) x0).setCell (p := ⟨g, 1, none⟩) (fun _ => rfl) x1).setCell (p := ⟨g, 2, none⟩) (fun _ => rfl) x2).setCell (p := ⟨g, 3, none⟩) (fun _ => rfl) x3).setCell (p := ⟨g, 4, none⟩) (fun _ => rfl) x4)
theorem evcs_one (l : List Ev) : ∀ u ∈ evcs l, u.oneCell' = true := by
  intro u hu
  obtain ⟨v, _, hv⟩ := List.mem_flatMap.1 hu
  exact evc_one v u hv
theorem settled_is (p : Pt) : settled p = { p with is := (settled p).is } := by
  unfold settled
  split <;> rfl
theorem pair_set {l : List Pv} {ps : List Pt} (h : l.map (·.p) = ps) (i : Nat) (v : Pv) : (l.set i v).map (·.p) = ps.set i v.p := by rw [List.map_set, h]
/-- What stands behind a partition that was read. -/
theorem poll_done {K : Option Addr → Nat → List R → Prop} {w w8 w12 w' : World} {a0 a8 a12 : Option Addr} {n c8 m c12 i B7 g1 BB : Nat} {l2 : List Pv} {ps : List Pt} {tm dr ck fu : Int} {es : List Ev} {xs : List Value}
    (hi : i < l2.length) (hR : RowG w8 10 Pv.cells a8 l2) (hn8 : ∀ p, a8 = some p → B7 ≤ p.block)
    (hX : Upd (fun k => w8.heap.size ≤ k ∨ k = w.heap.size ∨ k = g1) w8 w12) (hU : Upd (fun k => k = w.heap.size + 1) w12 w') (h0 : w.heap.size + 1 < B7) (h1 : g1 < B7)
    (hok : ∀ v ∈ l2, K v.a v.c v.p.recs) (hps : l2.map (·.p) = ps) (hn : n = ps.length) (hw : Below w.heap.size w w12) (hsl : Sl BB w12 8 (.slice a12 m c12) m xs) (hBB : w.heap.size + 1 < BB) (hm : m = es.length) (hes : xs = evcs es) :
    DoR K a0 ⟨ps, tm, dr, ck, fu⟩ es w (.returned (.tuple #[.agg #[.slice a8 n c8, .int .i64 tm, .int .i64 dr, .int .i64 ck, .int .i64 fu], .slice a12 m c12])) w' := by
  obtain ⟨b, off, rfl, hb, -⟩ := hR.at_ i hi
  have h8 : B7 ≤ b := hn8 _ rfl
  subst hn hm hes
  have hwb : Below w.heap.size w w' := hw.upd hU hw.size (fun k _ h => by have h' : k = w.heap.size + 1 := h; omega)
  refine ⟨_, c8, l2, _, rfl, (hR.upd hX (fun p hp h => ?_)).upd hU (fun p hp h => ?_), hok, hps, (hsl.base (by omega)).upd hU (fun k hk h => ?_), hwb, .inr fun p hp => ?_⟩
  · cases hp
    have h : w8.heap.size ≤ b ∨ b = w.heap.size ∨ b = g1 := h
    omega
  · cases hp
    have h : b = w.heap.size + 1 := h
    omega
  · have h' : k = w.heap.size + 1 := h
    have := (hsl.lt k hk).1
    omega
  · cases hp
    show _ ≤ b
    omega
set_option maxHeartbeats 4000000 in
theorem ref_poll (K : Option Addr → Nat → List R → Prop) (a : Option Addr) (n c : Nat) (l : List Pv) (s : St) (i : Nat) (w : World) (hr : RowP w a l) (hn : n = l.length) (hl : l.map (·.p) = s.ps) (h0 : ∀ v ∈ l, K v.a v.c v.p.recs) (hok : s.Ok) (ho : s.refused i = false) :
    Calls Tryz.prog 59 #[.agg #[.slice a n c, .int .i64 s.timeout, .int .i64 s.drift, .int .i64 s.clock, .int .i64 s.now], .int .i64 i] w (DoR K a (s.pollS i) (s.pollE i) w) := by
  have hA0 := At.alloc w [.slice a n c, .int .i64 s.timeout, .int .i64 s.drift, .int .i64 s.clock, .int .i64 s.now] 37
  have hA1 := At.alloc (w.alloc (.cells #[.slice a n c, .int .i64 s.timeout, .int .i64 s.drift, .int .i64 s.clock, .int .i64 s.now] 37)) [.slice none 0 0, .int .i64 0, .int .i64 0, .int .i64 0, .int .i64 0] 37
  rw [World.size_alloc] at hA1
  have e := fun (w : World) (o : Obj) => (Below.refl w.heap.size w).alloc (Nat.le_refl _) o
  have hA0' := hA0.on (e _ (.cells #[.slice none 0 0, .int .i64 0, .int .i64 0, .int .i64 0, .int .i64 0] 37))
  have hB0 : Below w.heap.size w ((w.alloc (.cells #[.slice a n c, .int .i64 s.timeout, .int .i64 s.drift, .int .i64 s.clock, .int .i64 s.now] 37)).alloc (.cells #[.slice none 0 0, .int .i64 0, .int .i64 0, .int .i64 0, .int .i64 0] 37)) := on_below (e _ _) (e _ _)
  have hlen : l.length = s.ps.length := by rw [← hl, List.length_map]
  have HR := Lib.hid (ref_refused a n c l s i _ (hr.on hB0) hn hl hok false ho)
  obtain ⟨-, h2, h3, h4⟩ := refused_not ho
  have hrd := refused_read hok ho
  rw [Int.toNat_natCast] at h2 h3 h4 hrd
  have hil : i < l.length := by omega
  have hp : pat s.ps i = l[i].p := by
    rw [pat_lt h2]
    simp only [← hl, List.getElem_map]
  have hpo := hok.pt _ (pat_mem h2)
  have hrow := hr.on hB0
  have hpv := hr.ok _ (List.getElem_mem hil)
  have hps : s.polled i = s.ps.set i (settled (l[i].p.gone (add s.clock s.timeout))) := by unfold St.polled; rw [hp]
  have hE : s.pollE i = Ev.el (lateOf s.now (recAt l[i].p)) i (recAt l[i].p).1 (recAt l[i].p).2.1 (recAt l[i].p).2.2 :: (faults (l[i].p.gone (add s.clock s.timeout)) i ++ marksE s.now (s.ps.set i (settled (l[i].p.gone (add s.clock s.timeout))))) := by unfold St.pollE; rw [hps, hp]
  rw [hp] at hrd hpo
  have hin := okR_in (hpo.okr _ (List.getElem_mem hrd))
  have hra : recAt l[i].p = l[i].p.recs[l[i].p.read] := by
    unfold recAt
    rw [List.getD_eq_getElem?_getD, List.getElem?_eq_getElem hrd]; rfl
  rw [hra] at hE
  obtain ⟨b, off, hab, hbl, -⟩ := hrow.row.at_ i hil
  subst hab
  have hcell := fun (wx : World) (h : RowP wx (some ⟨b, off, none⟩) l) => h.cell i hil
  have hres := hpv.row.at_ _ hrd
  have HPV := Lib.hid (h0 _ (List.getElem_mem hil))
  have HSET := fun (l2 : List Pv) (h : l2 = l.set i { l[i] with p := settled (l[i].p.gone (add s.clock s.timeout)) }) => (show l2.map (·.p) = s.ps.set i (settled (l[i].p.gone (add s.clock s.timeout))) by rw [h, pair_set hl])
  have hfe := hpo.few
  have hrr : ((l[i].p.read : Nat) : Int) < ((l[i].p.recs.length : Nat) : Int) := by omega
  have hii : (i : Int) < (n : Int) := by omega
  have hV := fun wx (h : RowP wx (some ⟨b, off, none⟩) l) => h.ok _ (List.getElem_mem hil)
  have hsl := settled_is (l[i].p.gone (add s.clock s.timeout))
  have HPO : Hid (∀ q ∈ s.polled i, q.Ok) := (hok.poll h2 (by rw [hp]; exact hrd)).pt
  rw [hps] at HPO
  have hck := hok.ck
  have htm := hok.tm
  have hnw := hok.nw
  have hn8 := hok.n
  have HADD := fun wx => Lib.hid (ref_add s.clock s.timeout wx hck ⟨by omega, htm.2⟩)
  have hdo : (St.polled s i).length = s.ps.length := by rw [hps, List.length_set]
  have HDO : Hid (∀ (e : Ending) (w' : World), DoR K (some ⟨b, off, none⟩) ⟨s.ps.set i (settled (l[i].p.gone (add s.clock s.timeout))), s.timeout, s.drift, s.clock, further s.now (s.ps.set i (settled (l[i].p.gone (add s.clock s.timeout))))⟩ (Ev.el (lateOf s.now l[i].p.recs[l[i].p.read]) i l[i].p.recs[l[i].p.read].1 l[i].p.recs[l[i].p.read].2.1 l[i].p.recs[l[i].p.read].2.2 :: (faults (l[i].p.gone (add s.clock s.timeout)) i ++ marksE s.now (s.ps.set i (settled (l[i].p.gone (add s.clock s.timeout)))))) w e w' → DoR K (some ⟨b, off, none⟩) (s.pollS i) (s.pollE i) w e w') := fun e w' h => by
    unfold St.pollS
    rw [hE, hps]; exact h
  refine Calls.mono ?_ (fun e w' h => HDO.out e w' h)
  clear HDO hE hdo hps hp hra
  obtain ⟨ps, tm, dr, ck, nw⟩ := s
  simp only at *
  generalize hv0 : l[i] = v at *
  obtain ⟨⟨⟨kd, bd, pc, wn, sg⟩, recs, er, rd, is, tl⟩, av, cv⟩ := v
  simp only [Pt.gone] at *
  obtain ⟨rb, ro, rfl, hrb, -⟩ := hres
  have hrc := fun (wx : World) (h : RowP wx (some ⟨b, off, none⟩) l) => (hV wx h).row.cell rd hrd
  simp only at hrc
  have HRD := Lib.hid hrd
  generalize hr0 : recs[rd] = r0 at *
  obtain ⟨rt, rk, rx⟩ := r0
  simp only at *
  have hla := Lib.hid (rfl : lateOf nw (rt, rk, rx) = lateOf nw (rt, rk, rx))
  have HSE := fun w => Lib.hid (ref_settle ⟨⟨⟨kd, bd, pc, wn, sg⟩, recs, er, rd + 1, 0, add ck tm⟩, some ⟨rb, ro, none⟩, cv⟩ i w)
  unfold SetPost at HSE
  rw [hsl] at HSE HPO HSET ⊢
  simp only [Pv.val] at HSE hcell
  rw [show ((rd + 1 : Nat) : Int) = (rd : Int) + 1 by omega] at HSE
  generalize (settled ⟨⟨kd, bd, pc, wn, sg⟩, recs, er, rd + 1, 0, add ck tm⟩).is = is2 at *
  have HFL : Hid ((faults ⟨⟨kd, bd, pc, wn, sg⟩, recs, er, rd + 1, 0, add ck tm⟩ i).length ≤ 1) := faults_len _ _
  generalize faults ⟨⟨kd, bd, pc, wn, sg⟩, recs, er, rd + 1, 0, add ck tm⟩ i = fs at *
  generalize add ck tm = til at *
  have HN := Lib.hid hn
  have HL := Lib.hid hl
  have HLE := Lib.hid hlen
  have HVOK : Hid (∀ v' ∈ l, K v'.a v'.c v'.p.recs) := h0
  clear h0 hn hl hlen hok ho h2 h3 h4 hrd hr0 hpo hsl hr hpv hV
  have hsz := hA1.1
  go_enter Tryz.func59, Tryz.ntmps59
  go_wp2_with fail
  generalize (w.alloc (.cells #[.slice (some ⟨b, off, none⟩) n c, .int .i64 tm, .int .i64 dr, .int .i64 ck, .int .i64 nw] 37)).alloc (.cells #[.slice none 0 0, .int .i64 0, .int .i64 0, .int .i64 0, .int .i64 0] 37) = w2 at *
  by_cases hne : nw = -9223372036854775808
  · have HLT : Hid (lateOf nw (rt, rk, rx) = false) := decide_eq_false (fun h => h.1 hne)
    have hne2 : (nw != -9223372036854775808) = false := by rw [hne]; rfl
    clear hla hne
    go_upto_region 7 with (first | (go_at_call 30; (with_reducible refine HR.out.mono ?_); rintro e w3 ⟨rfl, hb3⟩; obtain ⟨hw3, b0, y0, b1, y1, b2, y2, b3, y3, b4, y4⟩ := (hA0'.on hb3).five; obtain ⟨hbb, p0, p1, p2, p3, p4, p5, p6, p7, p8, p9⟩ := hcell _ (hrow.on hb3); obtain ⟨hrb3, q0, q1, q2⟩ := hrc _ (hrow.on hb3)))
    clear b0 y0 b1 y1 b2 y2 b3 y3 b4 y4 p0 p1 p2 p3 p4 p5 p6 p7 p8 p9 q0 q1 q2
    have hP : At (((w3.alloc (.cells #[.int .i64 kd, .int .i64 bd, .int .i64 pc, .int .i64 wn, .int .i64 sg, .slice (some ⟨rb, ro, none⟩) recs.length cv, .int .i64 er, .int .i64 (rd + 1), .int .i64 is, .int .i64 tl] 58)).alloc (.cells #[.int .i64 rt, .int .i64 rk, .string (bstr rx)] 117)).alloc (.cells #[.int .i64 0, .int .i64 i, .int .i64 rt, .int .i64 rk, .string (bstr rx), .bool false, .int .i64 0, .int .i64 0] 119)) w3.heap.size [.int .i64 kd, .int .i64 bd, .int .i64 pc, .int .i64 wn, .int .i64 sg, .slice (some ⟨rb, ro, none⟩) recs.length cv, .int .i64 er, .int .i64 (rd + 1), .int .i64 is, .int .i64 tl] := ((At.alloc w3 _ _).on (e _ _)).on (e _ _)
    have hEv : Sl w3.heap.size (((w3.alloc (.cells #[.int .i64 kd, .int .i64 bd, .int .i64 pc, .int .i64 wn, .int .i64 sg, .slice (some ⟨rb, ro, none⟩) recs.length cv, .int .i64 er, .int .i64 (rd + 1), .int .i64 is, .int .i64 tl] 58)).alloc (.cells #[.int .i64 rt, .int .i64 rk, .string (bstr rx)] 117)).alloc (.cells #[.int .i64 0, .int .i64 i, .int .i64 rt, .int .i64 rk, .string (bstr rx), .bool false, .int .i64 0, .int .i64 0] 119)) 8 (.slice (some ⟨w3.heap.size + 1 + 1, 0, none⟩) 1 1) 1 (evcs [.el false i rt rk rx]) := ev_row (.el false i rt rk rx) (by simp) (by simp; omega)
    have hB4 : Below w3.heap.size w3 (((w3.alloc (.cells #[.int .i64 kd, .int .i64 bd, .int .i64 pc, .int .i64 wn, .int .i64 sg, .slice (some ⟨rb, ro, none⟩) recs.length cv, .int .i64 er, .int .i64 (rd + 1), .int .i64 is, .int .i64 tl] 58)).alloc (.cells #[.int .i64 rt, .int .i64 rk, .string (bstr rx)] 117)).alloc (.cells #[.int .i64 0, .int .i64 i, .int .i64 rt, .int .i64 rk, .string (bstr rx), .bool false, .int .i64 0, .int .i64 0] 119)) := on_below (on_below (e _ _) (e _ _)) (e _ _)
    generalize (((w3.alloc (.cells #[.int .i64 kd, .int .i64 bd, .int .i64 pc, .int .i64 wn, .int .i64 sg, .slice (some ⟨rb, ro, none⟩) recs.length cv, .int .i64 er, .int .i64 (rd + 1), .int .i64 is, .int .i64 tl] 58)).alloc (.cells #[.int .i64 rt, .int .i64 rk, .string (bstr rx)] 117)).alloc (.cells #[.int .i64 0, .int .i64 i, .int .i64 rt, .int .i64 rk, .string (bstr rx), .bool false, .int .i64 0, .int .i64 0] 119)) = w4 at *
    have hP5 := (hP.set 8 (by simp) (.int .i64 0)).set 9 (by simp) (.int .i64 til)
    simp only [List.set] at hP5
    have hB5 := (hB4.setCell (p := ⟨w3.heap.size, 8, none⟩) (Nat.le_refl _) (.int .i64 0)).setCell (p := ⟨w3.heap.size, 9, none⟩) (Nat.le_refl _) (.int .i64 til)
    have hu5 : Upd (fun k => k = w3.heap.size) w4 ((w4.setCell ⟨w3.heap.size, 8, none⟩ (.int .i64 0)).setCell ⟨w3.heap.size, 9, none⟩ (.int .i64 til)) := ((Upd.refl (fun k => k = w3.heap.size) w4).setCell (p := ⟨w3.heap.size, 8, none⟩) (fun _ => rfl) (.int .i64 0)).setCell (p := ⟨w3.heap.size, 9, none⟩) (fun _ => rfl) (.int .i64 til)
    have hEv5 := hEv.upd hu5 (fun k hk h => by cases hk; have h' : w3.heap.size + 1 + 1 = w3.heap.size := h; omega)
    have hA4 := (hA0'.on hb3).on hB4
    have hAz4 := (hA1.on hb3).on hB4
    have hA5 := hA4.upd hu5 (fun h => by have h' : w.heap.size = w3.heap.size := h; omega)
    have hAz5 := hAz4.upd hu5 (fun h => by have h' : w.heap.size + 1 = w3.heap.size := h; have := (hA1.on hb3).1; omega)
    have hnz : w.heap.size + 1 < w3.heap.size := (hA1.on hb3).1
    obtain ⟨hw4, b0, y0, b1, y1, b2, y2, b3, y3, b4, y4⟩ := hA4.five
    obtain ⟨hn3, p0, x0, p1, x1, p2, x2, p3, x3, p4, x4, p5, x5, p6, x6, p7, x7, p8, x8, p9, x9⟩ := hP.ten
    have hNN : w.heap.size < w3.heap.size := hw3
    go_upto_region 9 with (first | (go_at_call 60; (with_reducible refine (HADD _).out.mono ?_); rintro e w3 ⟨rfl, rfl⟩))
    clear b0 y0 b1 y1 b2 y2 b3 y3 b4 y4 p0 x0 p1 x1 p2 x2 p3 x3 p4 x4 p5 x5 p6 x6 p7 x7 p8 x8 p9 x9 hw4 hn3 hA4 hAz4 hEv hP hu5 hB4
    generalize (w4.setCell ⟨w3.heap.size, 8, none⟩ (.int .i64 0)).setCell ⟨w3.heap.size, 9, none⟩ (.int .i64 til) = w5 at *
    have hW5 := on_below (on_below hB0 hb3) hB5
    have hR5 := (hrow.on hb3).on hB5
    obtain ⟨hn3, p0, x0, p1, x1, p2, x2, p3, x3, p4, x4, p5, x5, p6, x6, p7, x7, p8, x8, p9, x9⟩ := hP5.ten
    go_upto_region 10 with (first | (go_at_call 56; (with_reducible refine (HSE _).out.mono ?_); intro e w6 hF; obtain ⟨r, rfl, hf, hb6⟩ := hF; obtain ⟨-, p0, x0, p1, x1, p2, x2, p3, x3, p4, x4, p5, x5, p6, x6, p7, x7, p8, x8, p9, x9⟩ := (hP5.on hb6).ten))
    clear p0 x0 p1 x1 p2 x2 p3 x3 p4 x4 p5 x5 p6 x6 p7 x7 p8 x8 p9 x9
    have hu7 := upd_all10 w6 w3.heap.size (.int .i64 kd) (.int .i64 bd) (.int .i64 pc) (.int .i64 wn) (.int .i64 sg) (.slice (some ⟨rb, ro, none⟩) recs.length cv) (.int .i64 er) (.int .i64 (rd + 1)) (.int .i64 is2) (.int .i64 til)
    have hP7 := At.all10 (hP5.on hb6) (.int .i64 kd) (.int .i64 bd) (.int .i64 pc) (.int .i64 wn) (.int .i64 sg) (.slice (some ⟨rb, ro, none⟩) recs.length cv) (.int .i64 er) (.int .i64 (rd + 1)) (.int .i64 is2) (.int .i64 til)
    have hA7 := (hA5.on hb6).upd hu7 (fun h => by have h' : w.heap.size = w3.heap.size := h; omega)
    have hAz7 := (hAz5.on hb6).upd hu7 (fun h => by have h' : w.heap.size + 1 = w3.heap.size := h; omega)
    have hEv7 := (hEv5.on hb6).upd hu7 (fun k hk h => by cases hk; have h' : w3.heap.size + 1 + 1 = w3.heap.size := h; omega)
    have hf7 := hf.upd hu7 (fun k hk h => by have := (hf.lt k hk).1; have h' : k = w3.heap.size := h; omega)
    have hW7 := (on_below hW5 hb6).upd hu7 (on_below hW5 hb6).size (fun k _ h => by have h' : k = w3.heap.size := h; omega)
    have hR7 := hrow.on (((on_below (on_below hb3 hB5) hb6).upd hu7 (on_below (on_below hb3 hB5) hb6).size (fun k _ h => by have h' : k = w3.heap.size := h; have := hb3.size; omega)))
    generalize ((((((((((w6.setCell ⟨w3.heap.size, 0, none⟩ (.int .i64 kd)).setCell ⟨w3.heap.size, 1, none⟩ (.int .i64 bd)).setCell ⟨w3.heap.size, 2, none⟩ (.int .i64 pc)).setCell ⟨w3.heap.size, 3, none⟩ (.int .i64 wn)).setCell ⟨w3.heap.size, 4, none⟩ (.int .i64 sg)).setCell ⟨w3.heap.size, 5, none⟩ (.slice (some ⟨rb, ro, none⟩) recs.length cv)).setCell ⟨w3.heap.size, 6, none⟩ (.int .i64 er)).setCell ⟨w3.heap.size, 7, none⟩ (.int .i64 (rd + 1))).setCell ⟨w3.heap.size, 8, none⟩ (.int .i64 is2)).setCell ⟨w3.heap.size, 9, none⟩ (.int .i64 til)) = w7 at *
    obtain ⟨-, b0, y0, b1, y1, b2, y2, b3, y3, b4, y4⟩ := hA7.five
    obtain ⟨-, p0, x0, p1, x1, p2, x2, p3, x3, p4, x4, p5, x5, p6, x6, p7, x7, p8, x8, p9, x9⟩ := hP7.ten
    have hw7 : w.heap.size < w7.heap.size := hA7.1
    have hz7 : w.heap.size + 1 < w7.heap.size := hAz7.1
    have hV7 : PvOk w7 ⟨⟨⟨kd, bd, pc, wn, sg⟩, recs, er, rd + 1, is2, til⟩, some ⟨rb, ro, none⟩, cv⟩ := by
      have h := hR7.ok _ (List.getElem_mem hil)
      rw [hv0] at h
      exact ⟨h.row, h.le, h.cap⟩
    have HW := Lib.hid (ref_with (some ⟨b, off, none⟩) n c l tm dr ck nw i ⟨⟨⟨kd, bd, pc, wn, sg⟩, recs, er, rd + 1, is2, til⟩, some ⟨rb, ro, none⟩, cv⟩ w7 hR7 HN.out hil hV7 (by have := HLE.out; omega))
    simp only [Pv.val] at HW
    rw [show ((rd + 1 : Nat) : Int) = (rd : Int) + 1 by omega] at HW
    have HADV := fun (a' : Option Addr) (c' : Nat) (wx : World) (h : RowP wx a' (l.set i ⟨⟨⟨kd, bd, pc, wn, sg⟩, recs, er, rd + 1, is2, til⟩, some ⟨rb, ro, none⟩, cv⟩)) => Lib.hid (ref_advance a' n c' (l.set i ⟨⟨⟨kd, bd, pc, wn, sg⟩, recs, er, rd + 1, is2, til⟩, some ⟨rb, ro, none⟩, cv⟩) (ps.set i ⟨⟨kd, bd, pc, wn, sg⟩, recs, er, rd + 1, is2, til⟩) tm dr ck nw wx h (by rw [List.length_set]; exact HN.out) (HSET _ rfl) HPO.out (by have := HLE.out; have := HN.out; omega))
    have hu7s := hu7.size
    clear hP7 hV7 hu7
    go_upto_region 11 with (first | (go_at_call 61; (with_reducible refine HW.out.mono ?_); intro e w8 hY; obtain ⟨a8, c8, rfl, hR8, hb8, hG8⟩ := hY; have HAD := HADV a8 c8 _ hR8) | (go_at_call 57; (with_reducible refine HAD.out.mono ?_); intro e w9 hY; obtain ⟨r9, rfl, hm9, hb9⟩ := hY; obtain ⟨-, d0, g0, d1, g1, d2, g2, d3, g3, d4, g4⟩ := ((hA7.on hb8).on hb9).five))
    clear b0 y0 b1 y1 b2 y2 b3 y3 b4 y4 p0 x0 p1 x1 p2 x2 p3 x3 p4 x4 p5 x5 p6 x6 p7 x7 p8 x8 p9 x9 d0 g0 d1 g1 d2 g2 d3 g3 d4 g4
    have hu10 := upd_all5 w9 w.heap.size (.slice a8 n c8) (.int .i64 tm) (.int .i64 dr) (.int .i64 ck) (.int .i64 (further nw (ps.set i ⟨⟨kd, bd, pc, wn, sg⟩, recs, er, rd + 1, is2, til⟩)))
    have hA10 := At.all5 ((hA7.on hb8).on hb9) (.slice a8 n c8) (.int .i64 tm) (.int .i64 dr) (.int .i64 ck) (.int .i64 (further nw (ps.set i ⟨⟨kd, bd, pc, wn, sg⟩, recs, er, rd + 1, is2, til⟩)))
    have hAz10 := ((hAz7.on hb8).on hb9).upd hu10 (fun h => by have h' : w.heap.size + 1 = w.heap.size := h; omega)
    have hEv10 := ((hEv7.on hb8).on hb9).upd hu10 (fun k hk h => by cases hk; have h' : w3.heap.size + 1 + 1 = w.heap.size := h; omega)
    have hf10 := ((hf7.on hb8).on hb9).upd hu10 (fun k hk h => by have := (hf.lt k hk).1; have h' : k = w.heap.size := h; have := hB5.size; omega)
    have hm10 := hm9.upd hu10 (fun k hk h => by have := (hm9.lt k hk).1; have h' : k = w.heap.size := h; have := hb8.size; omega)
    have hW10 := (on_below (on_below hW7 hb8) hb9).upd hu10 (on_below (on_below hW7 hb8) hb9).size (fun k _ h => by have h' : k = w.heap.size := h; omega)
    have hlf : fs.length ≤ 1 := HFL.out
    have hlm : (marksE nw (ps.set i ⟨⟨kd, bd, pc, wn, sg⟩, recs, er, rd + 1, is2, til⟩)).length ≤ 1 := marksE_len _ _
    have hs5 := hB5.size
    have hs6 := hb6.size
    have hs8 := hb8.size
    have hs58 : w5.heap.size ≤ w8.heap.size := Nat.le_trans hb6.size (Nat.le_trans hu7s hb8.size)
    generalize (((((w9.setCell ⟨w.heap.size, 0, none⟩ (.slice a8 n c8)).setCell ⟨w.heap.size, 1, none⟩ (.int .i64 tm)).setCell ⟨w.heap.size, 2, none⟩ (.int .i64 dr)).setCell ⟨w.heap.size, 3, none⟩ (.int .i64 ck)).setCell ⟨w.heap.size, 4, none⟩ (.int .i64 (further nw (ps.set i ⟨⟨kd, bd, pc, wn, sg⟩, recs, er, rd + 1, is2, til⟩)))) = w10 at *
    generalize further nw (ps.set i ⟨⟨kd, bd, pc, wn, sg⟩, recs, er, rd + 1, is2, til⟩) = fu at *
    generalize marksE nw (ps.set i ⟨⟨kd, bd, pc, wn, sg⟩, recs, er, rd + 1, is2, til⟩) = ms at *
    obtain ⟨ar, cr, hre⟩ := hf10.shape
    subst hre
    obtain ⟨a9, c9, hre⟩ := hm10.shape
    subst hre
    obtain ⟨i0, hi0, hz0, hz1, hz2⟩ := info_parts info_evr
    obtain ⟨hgA, d0, g0, d1, g1, d2, g2, d3, g3, d4, g4⟩ := hA10.five
    obtain ⟨hgZ, u0, z0, u1, z1, u2, z2, u3, z3, u4, z4⟩ := hAz10.five
    have hHW := hW10.size
    have hs9 := hb9.size
    have hNE : w3.heap.size + 1 + 1 < w7.heap.size := (hEv7.lt _ rfl).2
    have hs10 := hu10.size
    have h310 : w3.heap.size ≤ w10.heap.size := by omega
    have hX10 : Upd (fun k => w8.heap.size ≤ k ∨ k = w.heap.size ∨ k = w3.heap.size + 1 + 1) w8 w10 := Upd.trans (Upd.of_below hb9 (fun k _ h => .inl h)) hu10 (fun k _ h => .inr (.inl h))
    have HPK : Hid (∀ v' ∈ l.set i ⟨⟨⟨kd, bd, pc, wn, sg⟩, recs, er, rd + 1, is2, til⟩, some ⟨rb, ro, none⟩, cv⟩, K v'.a v'.c v'.p.recs) := fun v' h => by
      rcases List.mem_or_eq_of_mem_set h with h | rfl
      · exact HVOK.out _ h
      · exact HPV.out
    have HNL : Hid (n = (ps.set i ⟨⟨kd, bd, pc, wn, sg⟩, recs, er, rd + 1, is2, til⟩).length) := by
      show n = _
      rw [List.length_set, HN.out, HLE.out]
    have HIL : Hid (i < (l.set i ⟨⟨⟨kd, bd, pc, wn, sg⟩, recs, er, rd + 1, is2, til⟩, some ⟨rb, ro, none⟩, cv⟩).length) := by
      show i < _
      rw [List.length_set]; exact hil
    have HSM : Hid ((l.set i ⟨⟨⟨kd, bd, pc, wn, sg⟩, recs, er, rd + 1, is2, til⟩, some ⟨rb, ro, none⟩, cv⟩).map (·.p) = ps.set i ⟨⟨kd, bd, pc, wn, sg⟩, recs, er, rd + 1, is2, til⟩) := HSET _ rfl
    have HLM : Hid (1 + fs.length + ms.length = (Ev.el false i rt rk rx :: (fs ++ ms)).length) := by
      show _ = _
      simp only [List.length_cons, List.length_append]; omega
    have HCS : Hid (evcs [Ev.el false i rt rk rx] ++ evcs fs ++ evcs ms = evcs (Ev.el false i rt rk rx :: (fs ++ ms))) := by
      show _ = _
      simp [evcs]
    have HR8 := Lib.hid hR8.row
    have HX10 := Lib.hid hX10
    have HW10 := Lib.hid hW10
    have hd7 : w3.heap.size + 1 + 1 ≠ w.heap.size := by omega
    have hd8 : w3.heap.size + 1 + 1 ≠ w.heap.size + 1 := by omega
    have hd9 : w.heap.size < w10.heap.size := by omega
    have hda : w.heap.size + 1 < w10.heap.size := by omega
    have hdm : ∀ q, (Value.slice a9 ms.length c9).ownBlock = some q → w3.heap.size + 1 + 1 ≠ q := fun q hq e => by have := (hm10.lt _ hq).1; omega
    have hs810 : w8.heap.size ≤ w10.heap.size := hX10.size
    clear hX10 hW10 hR8 hA7 hAz7 hEv7 hf7 hR7 hW7 hm9 hu10 hb9
    clear HADV HAD HW HSE HSET HPO HN HL HLE HR HADD HVOK HPV
    go_region_law (first | (refine step_append_mine rfl (.tmp 66) (.tmp 67) 38 38 rfl 119 i0 _ 72 Tryz.underlying38 hi0 hz0 hz1 hz2 rfl (.slice (some ⟨w3.heap.size + 1 + 1, 0, none⟩) 1 1) (.slice ar fs.length cr) fs.length (evcs fs) rfl rfl hEv10.drew (src_sl hf10.drew Tryz.underlying38 (evcs_one _)) (by unfold maxLen; omega) (by omega) h310 ?_; intro a11 c11 w11 k1 k2 k3; have hX11 := Upd.trans HX10.out.drew k2 (fun k _ h => .inr (.inr (Option.some.inj h).symm)); have hA11 := hA10.drew.upd k2 (fun h => hd7 (Option.some.inj h)); have hAz11 := hAz10.drew.upd k2 (fun h => hd8 (Option.some.inj h)); have hm11 := hm10.drew.upd k2 (fun q hq h => hdm q hq (Option.some.inj h)); have hW11 := HW10.out.drew.upd k2 HW10.out.size (fun q _ h => by have h2 : w3.heap.size + 1 + 1 = q := Option.some.inj h; omega); have hs11 : w10.heap.size ≤ w11.heap.size := k2.size; clear hgA d0 g0 d1 g1 d2 g2 d3 g3 d4 g4 hgZ u0 z0 u1 z1 u2 z2 u3 z3 u4 z4; obtain ⟨hgA, d0, g0, d1, g1, d2, g2, d3, g3, d4, g4⟩ := hA11.five; obtain ⟨hgZ, u0, z0, u1, z1, u2, z2, u3, z3, u4, z4⟩ := hAz11.five) | (refine step_append_mine rfl (.tmp 68) (.tmp 69) 38 38 rfl 119 i0 _ 72 Tryz.underlying38 hi0 hz0 hz1 hz2 rfl (.slice a11 (1 + fs.length) c11) (.slice a9 ms.length c9) ms.length (evcs ms) rfl rfl k1 (src_sl hm11 Tryz.underlying38 (evcs_one _)) (by unfold maxLen; omega) (by omega) (Nat.le_trans h310 hs11) ?_; intro a12 c12 w12 l1 l2 l3; have hX12 := Upd.trans hX11 l2 (fun k _ h => (k3 _ h).elim (fun h' => .inr (.inr (Option.some.inj h').symm)) (fun h' => .inl (Nat.le_trans hs810 h'))); have hA12 := hA11.upd l2 (fun h => (k3 _ h).elim (fun h' => hd7 (Option.some.inj h')) (fun h' => Nat.not_le_of_lt hd9 h')); have hAz12 := hAz11.upd l2 (fun h => (k3 _ h).elim (fun h' => hd8 (Option.some.inj h')) (fun h' => Nat.not_le_of_lt hda h')); have hW12 := hW11.upd l2 hW11.size (fun q _ h => by have := (k1.lt q h).1; omega); clear hgA d0 g0 d1 g1 d2 g2 d3 g3 d4 g4 hgZ u0 z0 u1 z1 u2 z2 u3 z3 u4 z4; obtain ⟨hgA, d0, g0, d1, g1, d2, g2, d3, g3, d4, g4⟩ := hA12.five; obtain ⟨hgZ, u0, z0, u1, z1, u2, z2, u3, z3, u4, z4⟩ := hAz12.five) | fail)
    all_goals
      have HDN := Lib.hid (fun (wf : World) (hu : Upd (fun k => k = w.heap.size + 1) w12 wf) => poll_done (a0 := some ⟨b, off, none⟩) (c8 := c8) (tm := tm) (dr := dr) (ck := ck) (fu := fu) HIL.out HR8.out hG8 hX12 hu (by omega) hNE HPK.out HSM.out HNL.out hW12 l1 (by omega) HLM.out HCS.out)
      have hT := Lib.hid (fun x0 x1 x2 x3 x4 => At.all5 hAz12 x0 x1 x2 x3 x4)
      have hBo := Lib.hid (fun x0 x1 x2 x3 x4 => Upd.all5 (g := w.heap.size + 1) (Upd.refl (fun k => k = w.heap.size + 1) w12) (fun _ => rfl) x0 x1 x2 x3 x4)
      clear HIL HR8 hG8 hX12 HPK HSM HNL hW12 l1 l2 l3 k1 k2 k3 HLM HCS hAz12 hA12 hA11 hAz11 hm11 hW11 hX11 hA10 hAz10 hEv10 hf10 hm10
      clear e hil hii hA0 hck htm hnw hn8 hfe hrr hv0 hcell hrb HRD hin hrc HFL hA1 hA0' hB0 hrow hbl hsz hne2 hb3 hw3 hbb hrb3 hnz hNN hP5 hB5 hEv5 hA5 hAz5 hW5 hR5 hn3 p0 x0 p1 x1 p2 x2 p3 x3 p4 x4 p5 x5 p6 x6 p7 x7 p8 x8 p9 x9 hb6 hw7 hz7 hu7s hb8 hlf hs5 hs6 hs8 hs58 hlm hf hi0 hz0 hz1 hz2 hHW hs9 hNE hs10 h310 HX10 HW10 hd7 hd8 hd9 hda hdm hs810 hs11
      (try clear hle)
      (try clear hle2)
      (try clear hle3)
      generalize w.heap.size + 1 = N1 at *
      refine (‹∀ (ax : Act) (wx : World), Code.wp Tryz.prog Code.ret _ ax wx → _›) _ _ ?_
      refine wp_ret ?_
      refine bodyPost_ret (results_at2 (fn := Tryz.f59) rfl _ rfl (hT.out _ _ _ _ _) Tryz.underlying37 rfl (by kernel_rfl)) rfl ?_
      rw [HLT.out]
      exact HDN.out _ (hBo.out _ _ _ _ _)
  · have hne2 : (nw != -9223372036854775808) = true := by rw [bne_iff_ne]; exact hne
    by_cases hle : rk ≤ nw
    · have HLT : Hid (lateOf nw (rt, rk, rx) = true) := decide_eq_true ⟨hne, hle⟩
      clear hla hne
      go_upto_region 7 with (first | (go_at_call 30; (with_reducible refine HR.out.mono ?_); rintro e w3 ⟨rfl, hb3⟩; obtain ⟨hw3, b0, y0, b1, y1, b2, y2, b3, y3, b4, y4⟩ := (hA0'.on hb3).five; obtain ⟨hbb, p0, p1, p2, p3, p4, p5, p6, p7, p8, p9⟩ := hcell _ (hrow.on hb3); obtain ⟨hrb3, q0, q1, q2⟩ := hrc _ (hrow.on hb3)))
      clear b0 y0 b1 y1 b2 y2 b3 y3 b4 y4 p0 p1 p2 p3 p4 p5 p6 p7 p8 p9 q0 q1 q2
      have hP : At (((w3.alloc (.cells #[.int .i64 kd, .int .i64 bd, .int .i64 pc, .int .i64 wn, .int .i64 sg, .slice (some ⟨rb, ro, none⟩) recs.length cv, .int .i64 er, .int .i64 (rd + 1), .int .i64 is, .int .i64 tl] 58)).alloc (.cells #[.int .i64 rt, .int .i64 rk, .string (bstr rx)] 117)).alloc (.cells #[.int .i64 0, .int .i64 i, .int .i64 rt, .int .i64 rk, .string (bstr rx), .bool true, .int .i64 0, .int .i64 0] 119)) w3.heap.size [.int .i64 kd, .int .i64 bd, .int .i64 pc, .int .i64 wn, .int .i64 sg, .slice (some ⟨rb, ro, none⟩) recs.length cv, .int .i64 er, .int .i64 (rd + 1), .int .i64 is, .int .i64 tl] := ((At.alloc w3 _ _).on (e _ _)).on (e _ _)
      have hEv : Sl w3.heap.size (((w3.alloc (.cells #[.int .i64 kd, .int .i64 bd, .int .i64 pc, .int .i64 wn, .int .i64 sg, .slice (some ⟨rb, ro, none⟩) recs.length cv, .int .i64 er, .int .i64 (rd + 1), .int .i64 is, .int .i64 tl] 58)).alloc (.cells #[.int .i64 rt, .int .i64 rk, .string (bstr rx)] 117)).alloc (.cells #[.int .i64 0, .int .i64 i, .int .i64 rt, .int .i64 rk, .string (bstr rx), .bool true, .int .i64 0, .int .i64 0] 119)) 8 (.slice (some ⟨w3.heap.size + 1 + 1, 0, none⟩) 1 1) 1 (evcs [.el true i rt rk rx]) := ev_row (.el true i rt rk rx) (by simp) (by simp; omega)
      have hB4 : Below w3.heap.size w3 (((w3.alloc (.cells #[.int .i64 kd, .int .i64 bd, .int .i64 pc, .int .i64 wn, .int .i64 sg, .slice (some ⟨rb, ro, none⟩) recs.length cv, .int .i64 er, .int .i64 (rd + 1), .int .i64 is, .int .i64 tl] 58)).alloc (.cells #[.int .i64 rt, .int .i64 rk, .string (bstr rx)] 117)).alloc (.cells #[.int .i64 0, .int .i64 i, .int .i64 rt, .int .i64 rk, .string (bstr rx), .bool true, .int .i64 0, .int .i64 0] 119)) := on_below (on_below (e _ _) (e _ _)) (e _ _)
      generalize (((w3.alloc (.cells #[.int .i64 kd, .int .i64 bd, .int .i64 pc, .int .i64 wn, .int .i64 sg, .slice (some ⟨rb, ro, none⟩) recs.length cv, .int .i64 er, .int .i64 (rd + 1), .int .i64 is, .int .i64 tl] 58)).alloc (.cells #[.int .i64 rt, .int .i64 rk, .string (bstr rx)] 117)).alloc (.cells #[.int .i64 0, .int .i64 i, .int .i64 rt, .int .i64 rk, .string (bstr rx), .bool true, .int .i64 0, .int .i64 0] 119)) = w4 at *
      have hP5 := (hP.set 8 (by simp) (.int .i64 0)).set 9 (by simp) (.int .i64 til)
      simp only [List.set] at hP5
      have hB5 := (hB4.setCell (p := ⟨w3.heap.size, 8, none⟩) (Nat.le_refl _) (.int .i64 0)).setCell (p := ⟨w3.heap.size, 9, none⟩) (Nat.le_refl _) (.int .i64 til)
      have hu5 : Upd (fun k => k = w3.heap.size) w4 ((w4.setCell ⟨w3.heap.size, 8, none⟩ (.int .i64 0)).setCell ⟨w3.heap.size, 9, none⟩ (.int .i64 til)) := ((Upd.refl (fun k => k = w3.heap.size) w4).setCell (p := ⟨w3.heap.size, 8, none⟩) (fun _ => rfl) (.int .i64 0)).setCell (p := ⟨w3.heap.size, 9, none⟩) (fun _ => rfl) (.int .i64 til)
      have hEv5 := hEv.upd hu5 (fun k hk h => by cases hk; have h' : w3.heap.size + 1 + 1 = w3.heap.size := h; omega)
      have hA4 := (hA0'.on hb3).on hB4
      have hAz4 := (hA1.on hb3).on hB4
      have hA5 := hA4.upd hu5 (fun h => by have h' : w.heap.size = w3.heap.size := h; omega)
      have hAz5 := hAz4.upd hu5 (fun h => by have h' : w.heap.size + 1 = w3.heap.size := h; have := (hA1.on hb3).1; omega)
      have hnz : w.heap.size + 1 < w3.heap.size := (hA1.on hb3).1
      obtain ⟨hw4, b0, y0, b1, y1, b2, y2, b3, y3, b4, y4⟩ := hA4.five
      obtain ⟨hn3, p0, x0, p1, x1, p2, x2, p3, x3, p4, x4, p5, x5, p6, x6, p7, x7, p8, x8, p9, x9⟩ := hP.ten
      have hNN : w.heap.size < w3.heap.size := hw3
      go_upto_region 9 with (first | (go_at_call 60; (with_reducible refine (HADD _).out.mono ?_); rintro e w3 ⟨rfl, rfl⟩))
      clear b0 y0 b1 y1 b2 y2 b3 y3 b4 y4 p0 x0 p1 x1 p2 x2 p3 x3 p4 x4 p5 x5 p6 x6 p7 x7 p8 x8 p9 x9 hw4 hn3 hA4 hAz4 hEv hP hu5 hB4
      generalize (w4.setCell ⟨w3.heap.size, 8, none⟩ (.int .i64 0)).setCell ⟨w3.heap.size, 9, none⟩ (.int .i64 til) = w5 at *
      have hW5 := on_below (on_below hB0 hb3) hB5
      have hR5 := (hrow.on hb3).on hB5
      obtain ⟨hn3, p0, x0, p1, x1, p2, x2, p3, x3, p4, x4, p5, x5, p6, x6, p7, x7, p8, x8, p9, x9⟩ := hP5.ten
      go_upto_region 10 with (first | (go_at_call 56; (with_reducible refine (HSE _).out.mono ?_); intro e w6 hF; obtain ⟨r, rfl, hf, hb6⟩ := hF; obtain ⟨-, p0, x0, p1, x1, p2, x2, p3, x3, p4, x4, p5, x5, p6, x6, p7, x7, p8, x8, p9, x9⟩ := (hP5.on hb6).ten))
      clear p0 x0 p1 x1 p2 x2 p3 x3 p4 x4 p5 x5 p6 x6 p7 x7 p8 x8 p9 x9
      have hu7 := upd_all10 w6 w3.heap.size (.int .i64 kd) (.int .i64 bd) (.int .i64 pc) (.int .i64 wn) (.int .i64 sg) (.slice (some ⟨rb, ro, none⟩) recs.length cv) (.int .i64 er) (.int .i64 (rd + 1)) (.int .i64 is2) (.int .i64 til)
      have hP7 := At.all10 (hP5.on hb6) (.int .i64 kd) (.int .i64 bd) (.int .i64 pc) (.int .i64 wn) (.int .i64 sg) (.slice (some ⟨rb, ro, none⟩) recs.length cv) (.int .i64 er) (.int .i64 (rd + 1)) (.int .i64 is2) (.int .i64 til)
      have hA7 := (hA5.on hb6).upd hu7 (fun h => by have h' : w.heap.size = w3.heap.size := h; omega)
      have hAz7 := (hAz5.on hb6).upd hu7 (fun h => by have h' : w.heap.size + 1 = w3.heap.size := h; omega)
      have hEv7 := (hEv5.on hb6).upd hu7 (fun k hk h => by cases hk; have h' : w3.heap.size + 1 + 1 = w3.heap.size := h; omega)
      have hf7 := hf.upd hu7 (fun k hk h => by have := (hf.lt k hk).1; have h' : k = w3.heap.size := h; omega)
      have hW7 := (on_below hW5 hb6).upd hu7 (on_below hW5 hb6).size (fun k _ h => by have h' : k = w3.heap.size := h; omega)
      have hR7 := hrow.on (((on_below (on_below hb3 hB5) hb6).upd hu7 (on_below (on_below hb3 hB5) hb6).size (fun k _ h => by have h' : k = w3.heap.size := h; have := hb3.size; omega)))
      generalize ((((((((((w6.setCell ⟨w3.heap.size, 0, none⟩ (.int .i64 kd)).setCell ⟨w3.heap.size, 1, none⟩ (.int .i64 bd)).setCell ⟨w3.heap.size, 2, none⟩ (.int .i64 pc)).setCell ⟨w3.heap.size, 3, none⟩ (.int .i64 wn)).setCell ⟨w3.heap.size, 4, none⟩ (.int .i64 sg)).setCell ⟨w3.heap.size, 5, none⟩ (.slice (some ⟨rb, ro, none⟩) recs.length cv)).setCell ⟨w3.heap.size, 6, none⟩ (.int .i64 er)).setCell ⟨w3.heap.size, 7, none⟩ (.int .i64 (rd + 1))).setCell ⟨w3.heap.size, 8, none⟩ (.int .i64 is2)).setCell ⟨w3.heap.size, 9, none⟩ (.int .i64 til)) = w7 at *
      obtain ⟨-, b0, y0, b1, y1, b2, y2, b3, y3, b4, y4⟩ := hA7.five
      obtain ⟨-, p0, x0, p1, x1, p2, x2, p3, x3, p4, x4, p5, x5, p6, x6, p7, x7, p8, x8, p9, x9⟩ := hP7.ten
      have hw7 : w.heap.size < w7.heap.size := hA7.1
      have hz7 : w.heap.size + 1 < w7.heap.size := hAz7.1
      have hV7 : PvOk w7 ⟨⟨⟨kd, bd, pc, wn, sg⟩, recs, er, rd + 1, is2, til⟩, some ⟨rb, ro, none⟩, cv⟩ := by
        have h := hR7.ok _ (List.getElem_mem hil)
        rw [hv0] at h
        exact ⟨h.row, h.le, h.cap⟩
      have HW := Lib.hid (ref_with (some ⟨b, off, none⟩) n c l tm dr ck nw i ⟨⟨⟨kd, bd, pc, wn, sg⟩, recs, er, rd + 1, is2, til⟩, some ⟨rb, ro, none⟩, cv⟩ w7 hR7 HN.out hil hV7 (by have := HLE.out; omega))
      simp only [Pv.val] at HW
      rw [show ((rd + 1 : Nat) : Int) = (rd : Int) + 1 by omega] at HW
      have HADV := fun (a' : Option Addr) (c' : Nat) (wx : World) (h : RowP wx a' (l.set i ⟨⟨⟨kd, bd, pc, wn, sg⟩, recs, er, rd + 1, is2, til⟩, some ⟨rb, ro, none⟩, cv⟩)) => Lib.hid (ref_advance a' n c' (l.set i ⟨⟨⟨kd, bd, pc, wn, sg⟩, recs, er, rd + 1, is2, til⟩, some ⟨rb, ro, none⟩, cv⟩) (ps.set i ⟨⟨kd, bd, pc, wn, sg⟩, recs, er, rd + 1, is2, til⟩) tm dr ck nw wx h (by rw [List.length_set]; exact HN.out) (HSET _ rfl) HPO.out (by have := HLE.out; have := HN.out; omega))
      have hu7s := hu7.size
      clear hP7 hV7 hu7
      go_upto_region 11 with (first | (go_at_call 61; (with_reducible refine HW.out.mono ?_); intro e w8 hY; obtain ⟨a8, c8, rfl, hR8, hb8, hG8⟩ := hY; have HAD := HADV a8 c8 _ hR8) | (go_at_call 57; (with_reducible refine HAD.out.mono ?_); intro e w9 hY; obtain ⟨r9, rfl, hm9, hb9⟩ := hY; obtain ⟨-, d0, g0, d1, g1, d2, g2, d3, g3, d4, g4⟩ := ((hA7.on hb8).on hb9).five))
      clear b0 y0 b1 y1 b2 y2 b3 y3 b4 y4 p0 x0 p1 x1 p2 x2 p3 x3 p4 x4 p5 x5 p6 x6 p7 x7 p8 x8 p9 x9 d0 g0 d1 g1 d2 g2 d3 g3 d4 g4
      have hu10 := upd_all5 w9 w.heap.size (.slice a8 n c8) (.int .i64 tm) (.int .i64 dr) (.int .i64 ck) (.int .i64 (further nw (ps.set i ⟨⟨kd, bd, pc, wn, sg⟩, recs, er, rd + 1, is2, til⟩)))
      have hA10 := At.all5 ((hA7.on hb8).on hb9) (.slice a8 n c8) (.int .i64 tm) (.int .i64 dr) (.int .i64 ck) (.int .i64 (further nw (ps.set i ⟨⟨kd, bd, pc, wn, sg⟩, recs, er, rd + 1, is2, til⟩)))
      have hAz10 := ((hAz7.on hb8).on hb9).upd hu10 (fun h => by have h' : w.heap.size + 1 = w.heap.size := h; omega)
      have hEv10 := ((hEv7.on hb8).on hb9).upd hu10 (fun k hk h => by cases hk; have h' : w3.heap.size + 1 + 1 = w.heap.size := h; omega)
      have hf10 := ((hf7.on hb8).on hb9).upd hu10 (fun k hk h => by have := (hf.lt k hk).1; have h' : k = w.heap.size := h; have := hB5.size; omega)
      have hm10 := hm9.upd hu10 (fun k hk h => by have := (hm9.lt k hk).1; have h' : k = w.heap.size := h; have := hb8.size; omega)
      have hW10 := (on_below (on_below hW7 hb8) hb9).upd hu10 (on_below (on_below hW7 hb8) hb9).size (fun k _ h => by have h' : k = w.heap.size := h; omega)
      have hlf : fs.length ≤ 1 := HFL.out
      have hlm : (marksE nw (ps.set i ⟨⟨kd, bd, pc, wn, sg⟩, recs, er, rd + 1, is2, til⟩)).length ≤ 1 := marksE_len _ _
      have hs5 := hB5.size
      have hs6 := hb6.size
      have hs8 := hb8.size
      have hs58 : w5.heap.size ≤ w8.heap.size := Nat.le_trans hb6.size (Nat.le_trans hu7s hb8.size)
      generalize (((((w9.setCell ⟨w.heap.size, 0, none⟩ (.slice a8 n c8)).setCell ⟨w.heap.size, 1, none⟩ (.int .i64 tm)).setCell ⟨w.heap.size, 2, none⟩ (.int .i64 dr)).setCell ⟨w.heap.size, 3, none⟩ (.int .i64 ck)).setCell ⟨w.heap.size, 4, none⟩ (.int .i64 (further nw (ps.set i ⟨⟨kd, bd, pc, wn, sg⟩, recs, er, rd + 1, is2, til⟩)))) = w10 at *
      generalize further nw (ps.set i ⟨⟨kd, bd, pc, wn, sg⟩, recs, er, rd + 1, is2, til⟩) = fu at *
      generalize marksE nw (ps.set i ⟨⟨kd, bd, pc, wn, sg⟩, recs, er, rd + 1, is2, til⟩) = ms at *
      obtain ⟨ar, cr, hre⟩ := hf10.shape
      subst hre
      obtain ⟨a9, c9, hre⟩ := hm10.shape
      subst hre
      obtain ⟨i0, hi0, hz0, hz1, hz2⟩ := info_parts info_evr
      obtain ⟨hgA, d0, g0, d1, g1, d2, g2, d3, g3, d4, g4⟩ := hA10.five
      obtain ⟨hgZ, u0, z0, u1, z1, u2, z2, u3, z3, u4, z4⟩ := hAz10.five
      have hHW := hW10.size
      have hs9 := hb9.size
      have hNE : w3.heap.size + 1 + 1 < w7.heap.size := (hEv7.lt _ rfl).2
      have hs10 := hu10.size
      have h310 : w3.heap.size ≤ w10.heap.size := by omega
      have hX10 : Upd (fun k => w8.heap.size ≤ k ∨ k = w.heap.size ∨ k = w3.heap.size + 1 + 1) w8 w10 := Upd.trans (Upd.of_below hb9 (fun k _ h => .inl h)) hu10 (fun k _ h => .inr (.inl h))
      have HPK : Hid (∀ v' ∈ l.set i ⟨⟨⟨kd, bd, pc, wn, sg⟩, recs, er, rd + 1, is2, til⟩, some ⟨rb, ro, none⟩, cv⟩, K v'.a v'.c v'.p.recs) := fun v' h => by
        rcases List.mem_or_eq_of_mem_set h with h | rfl
        · exact HVOK.out _ h
        · exact HPV.out
      have HNL : Hid (n = (ps.set i ⟨⟨kd, bd, pc, wn, sg⟩, recs, er, rd + 1, is2, til⟩).length) := by
        show n = _
        rw [List.length_set, HN.out, HLE.out]
      have HIL : Hid (i < (l.set i ⟨⟨⟨kd, bd, pc, wn, sg⟩, recs, er, rd + 1, is2, til⟩, some ⟨rb, ro, none⟩, cv⟩).length) := by
        show i < _
        rw [List.length_set]; exact hil
      have HSM : Hid ((l.set i ⟨⟨⟨kd, bd, pc, wn, sg⟩, recs, er, rd + 1, is2, til⟩, some ⟨rb, ro, none⟩, cv⟩).map (·.p) = ps.set i ⟨⟨kd, bd, pc, wn, sg⟩, recs, er, rd + 1, is2, til⟩) := HSET _ rfl
      have HLM : Hid (1 + fs.length + ms.length = (Ev.el true i rt rk rx :: (fs ++ ms)).length) := by
        show _ = _
        simp only [List.length_cons, List.length_append]; omega
      have HCS : Hid (evcs [Ev.el true i rt rk rx] ++ evcs fs ++ evcs ms = evcs (Ev.el true i rt rk rx :: (fs ++ ms))) := by
        show _ = _
        simp [evcs]
      have HR8 := Lib.hid hR8.row
      have HX10 := Lib.hid hX10
      have HW10 := Lib.hid hW10
      have hd7 : w3.heap.size + 1 + 1 ≠ w.heap.size := by omega
      have hd8 : w3.heap.size + 1 + 1 ≠ w.heap.size + 1 := by omega
      have hd9 : w.heap.size < w10.heap.size := by omega
      have hda : w.heap.size + 1 < w10.heap.size := by omega
      have hdm : ∀ q, (Value.slice a9 ms.length c9).ownBlock = some q → w3.heap.size + 1 + 1 ≠ q := fun q hq e => by have := (hm10.lt _ hq).1; omega
      have hs810 : w8.heap.size ≤ w10.heap.size := hX10.size
      clear hX10 hW10 hR8 hA7 hAz7 hEv7 hf7 hR7 hW7 hm9 hu10 hb9
      clear HADV HAD HW HSE HSET HPO HN HL HLE HR HADD HVOK HPV
      go_region_law (first | (refine step_append_mine rfl (.tmp 66) (.tmp 67) 38 38 rfl 119 i0 _ 72 Tryz.underlying38 hi0 hz0 hz1 hz2 rfl (.slice (some ⟨w3.heap.size + 1 + 1, 0, none⟩) 1 1) (.slice ar fs.length cr) fs.length (evcs fs) rfl rfl hEv10.drew (src_sl hf10.drew Tryz.underlying38 (evcs_one _)) (by unfold maxLen; omega) (by omega) h310 ?_; intro a11 c11 w11 k1 k2 k3; have hX11 := Upd.trans HX10.out.drew k2 (fun k _ h => .inr (.inr (Option.some.inj h).symm)); have hA11 := hA10.drew.upd k2 (fun h => hd7 (Option.some.inj h)); have hAz11 := hAz10.drew.upd k2 (fun h => hd8 (Option.some.inj h)); have hm11 := hm10.drew.upd k2 (fun q hq h => hdm q hq (Option.some.inj h)); have hW11 := HW10.out.drew.upd k2 HW10.out.size (fun q _ h => by have h2 : w3.heap.size + 1 + 1 = q := Option.some.inj h; omega); have hs11 : w10.heap.size ≤ w11.heap.size := k2.size; clear hgA d0 g0 d1 g1 d2 g2 d3 g3 d4 g4 hgZ u0 z0 u1 z1 u2 z2 u3 z3 u4 z4; obtain ⟨hgA, d0, g0, d1, g1, d2, g2, d3, g3, d4, g4⟩ := hA11.five; obtain ⟨hgZ, u0, z0, u1, z1, u2, z2, u3, z3, u4, z4⟩ := hAz11.five) | (refine step_append_mine rfl (.tmp 68) (.tmp 69) 38 38 rfl 119 i0 _ 72 Tryz.underlying38 hi0 hz0 hz1 hz2 rfl (.slice a11 (1 + fs.length) c11) (.slice a9 ms.length c9) ms.length (evcs ms) rfl rfl k1 (src_sl hm11 Tryz.underlying38 (evcs_one _)) (by unfold maxLen; omega) (by omega) (Nat.le_trans h310 hs11) ?_; intro a12 c12 w12 l1 l2 l3; have hX12 := Upd.trans hX11 l2 (fun k _ h => (k3 _ h).elim (fun h' => .inr (.inr (Option.some.inj h').symm)) (fun h' => .inl (Nat.le_trans hs810 h'))); have hA12 := hA11.upd l2 (fun h => (k3 _ h).elim (fun h' => hd7 (Option.some.inj h')) (fun h' => Nat.not_le_of_lt hd9 h')); have hAz12 := hAz11.upd l2 (fun h => (k3 _ h).elim (fun h' => hd8 (Option.some.inj h')) (fun h' => Nat.not_le_of_lt hda h')); have hW12 := hW11.upd l2 hW11.size (fun q _ h => by have := (k1.lt q h).1; omega); clear hgA d0 g0 d1 g1 d2 g2 d3 g3 d4 g4 hgZ u0 z0 u1 z1 u2 z2 u3 z3 u4 z4; obtain ⟨hgA, d0, g0, d1, g1, d2, g2, d3, g3, d4, g4⟩ := hA12.five; obtain ⟨hgZ, u0, z0, u1, z1, u2, z2, u3, z3, u4, z4⟩ := hAz12.five) | fail)
      all_goals
        have HDN := Lib.hid (fun (wf : World) (hu : Upd (fun k => k = w.heap.size + 1) w12 wf) => poll_done (a0 := some ⟨b, off, none⟩) (c8 := c8) (tm := tm) (dr := dr) (ck := ck) (fu := fu) HIL.out HR8.out hG8 hX12 hu (by omega) hNE HPK.out HSM.out HNL.out hW12 l1 (by omega) HLM.out HCS.out)
        have hT := Lib.hid (fun x0 x1 x2 x3 x4 => At.all5 hAz12 x0 x1 x2 x3 x4)
        have hBo := Lib.hid (fun x0 x1 x2 x3 x4 => Upd.all5 (g := w.heap.size + 1) (Upd.refl (fun k => k = w.heap.size + 1) w12) (fun _ => rfl) x0 x1 x2 x3 x4)
        clear HIL HR8 hG8 hX12 HPK HSM HNL hW12 l1 l2 l3 k1 k2 k3 HLM HCS hAz12 hA12 hA11 hAz11 hm11 hW11 hX11 hA10 hAz10 hEv10 hf10 hm10
        clear e hil hii hA0 hck htm hnw hn8 hfe hrr hv0 hcell hrb HRD hin hrc HFL hA1 hA0' hB0 hrow hbl hsz hne2 hb3 hw3 hbb hrb3 hnz hNN hP5 hB5 hEv5 hA5 hAz5 hW5 hR5 hn3 p0 x0 p1 x1 p2 x2 p3 x3 p4 x4 p5 x5 p6 x6 p7 x7 p8 x8 p9 x9 hb6 hw7 hz7 hu7s hb8 hlf hs5 hs6 hs8 hs58 hlm hf hi0 hz0 hz1 hz2 hHW hs9 hNE hs10 h310 HX10 HW10 hd7 hd8 hd9 hda hdm hs810 hs11
        (try clear hle)
        (try clear hle2)
        (try clear hle3)
        generalize w.heap.size + 1 = N1 at *
        refine (‹∀ (ax : Act) (wx : World), Code.wp Tryz.prog Code.ret _ ax wx → _›) _ _ ?_
        refine wp_ret ?_
        refine bodyPost_ret (results_at2 (fn := Tryz.f59) rfl _ rfl (hT.out _ _ _ _ _) Tryz.underlying37 rfl (by kernel_rfl)) rfl ?_
        rw [HLT.out]
        exact HDN.out _ (hBo.out _ _ _ _ _)
    · have HLT : Hid (lateOf nw (rt, rk, rx) = false) := decide_eq_false (fun h => hle h.2)
      have hle2 : nw < rk := by omega
      have hle3 : (decide (rk ≤ nw)) = false := decide_eq_false hle
      clear hla hne
      go_upto_region 7 with (first | (go_at_call 30; (with_reducible refine HR.out.mono ?_); rintro e w3 ⟨rfl, hb3⟩; obtain ⟨hw3, b0, y0, b1, y1, b2, y2, b3, y3, b4, y4⟩ := (hA0'.on hb3).five; obtain ⟨hbb, p0, p1, p2, p3, p4, p5, p6, p7, p8, p9⟩ := hcell _ (hrow.on hb3); obtain ⟨hrb3, q0, q1, q2⟩ := hrc _ (hrow.on hb3)))
      clear b0 y0 b1 y1 b2 y2 b3 y3 b4 y4 p0 p1 p2 p3 p4 p5 p6 p7 p8 p9 q0 q1 q2
      have hP : At (((w3.alloc (.cells #[.int .i64 kd, .int .i64 bd, .int .i64 pc, .int .i64 wn, .int .i64 sg, .slice (some ⟨rb, ro, none⟩) recs.length cv, .int .i64 er, .int .i64 (rd + 1), .int .i64 is, .int .i64 tl] 58)).alloc (.cells #[.int .i64 rt, .int .i64 rk, .string (bstr rx)] 117)).alloc (.cells #[.int .i64 0, .int .i64 i, .int .i64 rt, .int .i64 rk, .string (bstr rx), .bool false, .int .i64 0, .int .i64 0] 119)) w3.heap.size [.int .i64 kd, .int .i64 bd, .int .i64 pc, .int .i64 wn, .int .i64 sg, .slice (some ⟨rb, ro, none⟩) recs.length cv, .int .i64 er, .int .i64 (rd + 1), .int .i64 is, .int .i64 tl] := ((At.alloc w3 _ _).on (e _ _)).on (e _ _)
      have hEv : Sl w3.heap.size (((w3.alloc (.cells #[.int .i64 kd, .int .i64 bd, .int .i64 pc, .int .i64 wn, .int .i64 sg, .slice (some ⟨rb, ro, none⟩) recs.length cv, .int .i64 er, .int .i64 (rd + 1), .int .i64 is, .int .i64 tl] 58)).alloc (.cells #[.int .i64 rt, .int .i64 rk, .string (bstr rx)] 117)).alloc (.cells #[.int .i64 0, .int .i64 i, .int .i64 rt, .int .i64 rk, .string (bstr rx), .bool false, .int .i64 0, .int .i64 0] 119)) 8 (.slice (some ⟨w3.heap.size + 1 + 1, 0, none⟩) 1 1) 1 (evcs [.el false i rt rk rx]) := ev_row (.el false i rt rk rx) (by simp) (by simp; omega)
      have hB4 : Below w3.heap.size w3 (((w3.alloc (.cells #[.int .i64 kd, .int .i64 bd, .int .i64 pc, .int .i64 wn, .int .i64 sg, .slice (some ⟨rb, ro, none⟩) recs.length cv, .int .i64 er, .int .i64 (rd + 1), .int .i64 is, .int .i64 tl] 58)).alloc (.cells #[.int .i64 rt, .int .i64 rk, .string (bstr rx)] 117)).alloc (.cells #[.int .i64 0, .int .i64 i, .int .i64 rt, .int .i64 rk, .string (bstr rx), .bool false, .int .i64 0, .int .i64 0] 119)) := on_below (on_below (e _ _) (e _ _)) (e _ _)
      generalize (((w3.alloc (.cells #[.int .i64 kd, .int .i64 bd, .int .i64 pc, .int .i64 wn, .int .i64 sg, .slice (some ⟨rb, ro, none⟩) recs.length cv, .int .i64 er, .int .i64 (rd + 1), .int .i64 is, .int .i64 tl] 58)).alloc (.cells #[.int .i64 rt, .int .i64 rk, .string (bstr rx)] 117)).alloc (.cells #[.int .i64 0, .int .i64 i, .int .i64 rt, .int .i64 rk, .string (bstr rx), .bool false, .int .i64 0, .int .i64 0] 119)) = w4 at *
      have hP5 := (hP.set 8 (by simp) (.int .i64 0)).set 9 (by simp) (.int .i64 til)
      simp only [List.set] at hP5
      have hB5 := (hB4.setCell (p := ⟨w3.heap.size, 8, none⟩) (Nat.le_refl _) (.int .i64 0)).setCell (p := ⟨w3.heap.size, 9, none⟩) (Nat.le_refl _) (.int .i64 til)
      have hu5 : Upd (fun k => k = w3.heap.size) w4 ((w4.setCell ⟨w3.heap.size, 8, none⟩ (.int .i64 0)).setCell ⟨w3.heap.size, 9, none⟩ (.int .i64 til)) := ((Upd.refl (fun k => k = w3.heap.size) w4).setCell (p := ⟨w3.heap.size, 8, none⟩) (fun _ => rfl) (.int .i64 0)).setCell (p := ⟨w3.heap.size, 9, none⟩) (fun _ => rfl) (.int .i64 til)
      have hEv5 := hEv.upd hu5 (fun k hk h => by cases hk; have h' : w3.heap.size + 1 + 1 = w3.heap.size := h; omega)
      have hA4 := (hA0'.on hb3).on hB4
      have hAz4 := (hA1.on hb3).on hB4
      have hA5 := hA4.upd hu5 (fun h => by have h' : w.heap.size = w3.heap.size := h; omega)
      have hAz5 := hAz4.upd hu5 (fun h => by have h' : w.heap.size + 1 = w3.heap.size := h; have := (hA1.on hb3).1; omega)
      have hnz : w.heap.size + 1 < w3.heap.size := (hA1.on hb3).1
      obtain ⟨hw4, b0, y0, b1, y1, b2, y2, b3, y3, b4, y4⟩ := hA4.five
      obtain ⟨hn3, p0, x0, p1, x1, p2, x2, p3, x3, p4, x4, p5, x5, p6, x6, p7, x7, p8, x8, p9, x9⟩ := hP.ten
      have hNN : w.heap.size < w3.heap.size := hw3
      go_upto_region 9 with (first | (go_at_call 60; (with_reducible refine (HADD _).out.mono ?_); rintro e w3 ⟨rfl, rfl⟩))
      clear b0 y0 b1 y1 b2 y2 b3 y3 b4 y4 p0 x0 p1 x1 p2 x2 p3 x3 p4 x4 p5 x5 p6 x6 p7 x7 p8 x8 p9 x9 hw4 hn3 hA4 hAz4 hEv hP hu5 hB4
      generalize (w4.setCell ⟨w3.heap.size, 8, none⟩ (.int .i64 0)).setCell ⟨w3.heap.size, 9, none⟩ (.int .i64 til) = w5 at *
      have hW5 := on_below (on_below hB0 hb3) hB5
      have hR5 := (hrow.on hb3).on hB5
      obtain ⟨hn3, p0, x0, p1, x1, p2, x2, p3, x3, p4, x4, p5, x5, p6, x6, p7, x7, p8, x8, p9, x9⟩ := hP5.ten
      go_upto_region 10 with (first | (go_at_call 56; (with_reducible refine (HSE _).out.mono ?_); intro e w6 hF; obtain ⟨r, rfl, hf, hb6⟩ := hF; obtain ⟨-, p0, x0, p1, x1, p2, x2, p3, x3, p4, x4, p5, x5, p6, x6, p7, x7, p8, x8, p9, x9⟩ := (hP5.on hb6).ten))
      clear p0 x0 p1 x1 p2 x2 p3 x3 p4 x4 p5 x5 p6 x6 p7 x7 p8 x8 p9 x9
      have hu7 := upd_all10 w6 w3.heap.size (.int .i64 kd) (.int .i64 bd) (.int .i64 pc) (.int .i64 wn) (.int .i64 sg) (.slice (some ⟨rb, ro, none⟩) recs.length cv) (.int .i64 er) (.int .i64 (rd + 1)) (.int .i64 is2) (.int .i64 til)
      have hP7 := At.all10 (hP5.on hb6) (.int .i64 kd) (.int .i64 bd) (.int .i64 pc) (.int .i64 wn) (.int .i64 sg) (.slice (some ⟨rb, ro, none⟩) recs.length cv) (.int .i64 er) (.int .i64 (rd + 1)) (.int .i64 is2) (.int .i64 til)
      have hA7 := (hA5.on hb6).upd hu7 (fun h => by have h' : w.heap.size = w3.heap.size := h; omega)
      have hAz7 := (hAz5.on hb6).upd hu7 (fun h => by have h' : w.heap.size + 1 = w3.heap.size := h; omega)
      have hEv7 := (hEv5.on hb6).upd hu7 (fun k hk h => by cases hk; have h' : w3.heap.size + 1 + 1 = w3.heap.size := h; omega)
      have hf7 := hf.upd hu7 (fun k hk h => by have := (hf.lt k hk).1; have h' : k = w3.heap.size := h; omega)
      have hW7 := (on_below hW5 hb6).upd hu7 (on_below hW5 hb6).size (fun k _ h => by have h' : k = w3.heap.size := h; omega)
      have hR7 := hrow.on (((on_below (on_below hb3 hB5) hb6).upd hu7 (on_below (on_below hb3 hB5) hb6).size (fun k _ h => by have h' : k = w3.heap.size := h; have := hb3.size; omega)))
      generalize ((((((((((w6.setCell ⟨w3.heap.size, 0, none⟩ (.int .i64 kd)).setCell ⟨w3.heap.size, 1, none⟩ (.int .i64 bd)).setCell ⟨w3.heap.size, 2, none⟩ (.int .i64 pc)).setCell ⟨w3.heap.size, 3, none⟩ (.int .i64 wn)).setCell ⟨w3.heap.size, 4, none⟩ (.int .i64 sg)).setCell ⟨w3.heap.size, 5, none⟩ (.slice (some ⟨rb, ro, none⟩) recs.length cv)).setCell ⟨w3.heap.size, 6, none⟩ (.int .i64 er)).setCell ⟨w3.heap.size, 7, none⟩ (.int .i64 (rd + 1))).setCell ⟨w3.heap.size, 8, none⟩ (.int .i64 is2)).setCell ⟨w3.heap.size, 9, none⟩ (.int .i64 til)) = w7 at *
      obtain ⟨-, b0, y0, b1, y1, b2, y2, b3, y3, b4, y4⟩ := hA7.five
      obtain ⟨-, p0, x0, p1, x1, p2, x2, p3, x3, p4, x4, p5, x5, p6, x6, p7, x7, p8, x8, p9, x9⟩ := hP7.ten
      have hw7 : w.heap.size < w7.heap.size := hA7.1
      have hz7 : w.heap.size + 1 < w7.heap.size := hAz7.1
      have hV7 : PvOk w7 ⟨⟨⟨kd, bd, pc, wn, sg⟩, recs, er, rd + 1, is2, til⟩, some ⟨rb, ro, none⟩, cv⟩ := by
        have h := hR7.ok _ (List.getElem_mem hil)
        rw [hv0] at h
        exact ⟨h.row, h.le, h.cap⟩
      have HW := Lib.hid (ref_with (some ⟨b, off, none⟩) n c l tm dr ck nw i ⟨⟨⟨kd, bd, pc, wn, sg⟩, recs, er, rd + 1, is2, til⟩, some ⟨rb, ro, none⟩, cv⟩ w7 hR7 HN.out hil hV7 (by have := HLE.out; omega))
      simp only [Pv.val] at HW
      rw [show ((rd + 1 : Nat) : Int) = (rd : Int) + 1 by omega] at HW
      have HADV := fun (a' : Option Addr) (c' : Nat) (wx : World) (h : RowP wx a' (l.set i ⟨⟨⟨kd, bd, pc, wn, sg⟩, recs, er, rd + 1, is2, til⟩, some ⟨rb, ro, none⟩, cv⟩)) => Lib.hid (ref_advance a' n c' (l.set i ⟨⟨⟨kd, bd, pc, wn, sg⟩, recs, er, rd + 1, is2, til⟩, some ⟨rb, ro, none⟩, cv⟩) (ps.set i ⟨⟨kd, bd, pc, wn, sg⟩, recs, er, rd + 1, is2, til⟩) tm dr ck nw wx h (by rw [List.length_set]; exact HN.out) (HSET _ rfl) HPO.out (by have := HLE.out; have := HN.out; omega))
      have hu7s := hu7.size
      clear hP7 hV7 hu7
      go_upto_region 11 with (first | (go_at_call 61; (with_reducible refine HW.out.mono ?_); intro e w8 hY; obtain ⟨a8, c8, rfl, hR8, hb8, hG8⟩ := hY; have HAD := HADV a8 c8 _ hR8) | (go_at_call 57; (with_reducible refine HAD.out.mono ?_); intro e w9 hY; obtain ⟨r9, rfl, hm9, hb9⟩ := hY; obtain ⟨-, d0, g0, d1, g1, d2, g2, d3, g3, d4, g4⟩ := ((hA7.on hb8).on hb9).five))
      clear b0 y0 b1 y1 b2 y2 b3 y3 b4 y4 p0 x0 p1 x1 p2 x2 p3 x3 p4 x4 p5 x5 p6 x6 p7 x7 p8 x8 p9 x9 d0 g0 d1 g1 d2 g2 d3 g3 d4 g4
      have hu10 := upd_all5 w9 w.heap.size (.slice a8 n c8) (.int .i64 tm) (.int .i64 dr) (.int .i64 ck) (.int .i64 (further nw (ps.set i ⟨⟨kd, bd, pc, wn, sg⟩, recs, er, rd + 1, is2, til⟩)))
      have hA10 := At.all5 ((hA7.on hb8).on hb9) (.slice a8 n c8) (.int .i64 tm) (.int .i64 dr) (.int .i64 ck) (.int .i64 (further nw (ps.set i ⟨⟨kd, bd, pc, wn, sg⟩, recs, er, rd + 1, is2, til⟩)))
      have hAz10 := ((hAz7.on hb8).on hb9).upd hu10 (fun h => by have h' : w.heap.size + 1 = w.heap.size := h; omega)
      have hEv10 := ((hEv7.on hb8).on hb9).upd hu10 (fun k hk h => by cases hk; have h' : w3.heap.size + 1 + 1 = w.heap.size := h; omega)
      have hf10 := ((hf7.on hb8).on hb9).upd hu10 (fun k hk h => by have := (hf.lt k hk).1; have h' : k = w.heap.size := h; have := hB5.size; omega)
      have hm10 := hm9.upd hu10 (fun k hk h => by have := (hm9.lt k hk).1; have h' : k = w.heap.size := h; have := hb8.size; omega)
      have hW10 := (on_below (on_below hW7 hb8) hb9).upd hu10 (on_below (on_below hW7 hb8) hb9).size (fun k _ h => by have h' : k = w.heap.size := h; omega)
      have hlf : fs.length ≤ 1 := HFL.out
      have hlm : (marksE nw (ps.set i ⟨⟨kd, bd, pc, wn, sg⟩, recs, er, rd + 1, is2, til⟩)).length ≤ 1 := marksE_len _ _
      have hs5 := hB5.size
      have hs6 := hb6.size
      have hs8 := hb8.size
      have hs58 : w5.heap.size ≤ w8.heap.size := Nat.le_trans hb6.size (Nat.le_trans hu7s hb8.size)
      generalize (((((w9.setCell ⟨w.heap.size, 0, none⟩ (.slice a8 n c8)).setCell ⟨w.heap.size, 1, none⟩ (.int .i64 tm)).setCell ⟨w.heap.size, 2, none⟩ (.int .i64 dr)).setCell ⟨w.heap.size, 3, none⟩ (.int .i64 ck)).setCell ⟨w.heap.size, 4, none⟩ (.int .i64 (further nw (ps.set i ⟨⟨kd, bd, pc, wn, sg⟩, recs, er, rd + 1, is2, til⟩)))) = w10 at *
      generalize further nw (ps.set i ⟨⟨kd, bd, pc, wn, sg⟩, recs, er, rd + 1, is2, til⟩) = fu at *
      generalize marksE nw (ps.set i ⟨⟨kd, bd, pc, wn, sg⟩, recs, er, rd + 1, is2, til⟩) = ms at *
      obtain ⟨ar, cr, hre⟩ := hf10.shape
      subst hre
      obtain ⟨a9, c9, hre⟩ := hm10.shape
      subst hre
      obtain ⟨i0, hi0, hz0, hz1, hz2⟩ := info_parts info_evr
      obtain ⟨hgA, d0, g0, d1, g1, d2, g2, d3, g3, d4, g4⟩ := hA10.five
      obtain ⟨hgZ, u0, z0, u1, z1, u2, z2, u3, z3, u4, z4⟩ := hAz10.five
      have hHW := hW10.size
      have hs9 := hb9.size
      have hNE : w3.heap.size + 1 + 1 < w7.heap.size := (hEv7.lt _ rfl).2
      have hs10 := hu10.size
      have h310 : w3.heap.size ≤ w10.heap.size := by omega
      have hX10 : Upd (fun k => w8.heap.size ≤ k ∨ k = w.heap.size ∨ k = w3.heap.size + 1 + 1) w8 w10 := Upd.trans (Upd.of_below hb9 (fun k _ h => .inl h)) hu10 (fun k _ h => .inr (.inl h))
      have HPK : Hid (∀ v' ∈ l.set i ⟨⟨⟨kd, bd, pc, wn, sg⟩, recs, er, rd + 1, is2, til⟩, some ⟨rb, ro, none⟩, cv⟩, K v'.a v'.c v'.p.recs) := fun v' h => by
        rcases List.mem_or_eq_of_mem_set h with h | rfl
        · exact HVOK.out _ h
        · exact HPV.out
      have HNL : Hid (n = (ps.set i ⟨⟨kd, bd, pc, wn, sg⟩, recs, er, rd + 1, is2, til⟩).length) := by
        show n = _
        rw [List.length_set, HN.out, HLE.out]
      have HIL : Hid (i < (l.set i ⟨⟨⟨kd, bd, pc, wn, sg⟩, recs, er, rd + 1, is2, til⟩, some ⟨rb, ro, none⟩, cv⟩).length) := by
        show i < _
        rw [List.length_set]; exact hil
      have HSM : Hid ((l.set i ⟨⟨⟨kd, bd, pc, wn, sg⟩, recs, er, rd + 1, is2, til⟩, some ⟨rb, ro, none⟩, cv⟩).map (·.p) = ps.set i ⟨⟨kd, bd, pc, wn, sg⟩, recs, er, rd + 1, is2, til⟩) := HSET _ rfl
      have HLM : Hid (1 + fs.length + ms.length = (Ev.el false i rt rk rx :: (fs ++ ms)).length) := by
        show _ = _
        simp only [List.length_cons, List.length_append]; omega
      have HCS : Hid (evcs [Ev.el false i rt rk rx] ++ evcs fs ++ evcs ms = evcs (Ev.el false i rt rk rx :: (fs ++ ms))) := by
        show _ = _
        simp [evcs]
      have HR8 := Lib.hid hR8.row
      have HX10 := Lib.hid hX10
      have HW10 := Lib.hid hW10
      have hd7 : w3.heap.size + 1 + 1 ≠ w.heap.size := by omega
      have hd8 : w3.heap.size + 1 + 1 ≠ w.heap.size + 1 := by omega
      have hd9 : w.heap.size < w10.heap.size := by omega
      have hda : w.heap.size + 1 < w10.heap.size := by omega
      have hdm : ∀ q, (Value.slice a9 ms.length c9).ownBlock = some q → w3.heap.size + 1 + 1 ≠ q := fun q hq e => by have := (hm10.lt _ hq).1; omega
      have hs810 : w8.heap.size ≤ w10.heap.size := hX10.size
      clear hX10 hW10 hR8 hA7 hAz7 hEv7 hf7 hR7 hW7 hm9 hu10 hb9
      clear HADV HAD HW HSE HSET HPO HN HL HLE HR HADD HVOK HPV
      go_region_law (first | (refine step_append_mine rfl (.tmp 66) (.tmp 67) 38 38 rfl 119 i0 _ 72 Tryz.underlying38 hi0 hz0 hz1 hz2 rfl (.slice (some ⟨w3.heap.size + 1 + 1, 0, none⟩) 1 1) (.slice ar fs.length cr) fs.length (evcs fs) rfl rfl hEv10.drew (src_sl hf10.drew Tryz.underlying38 (evcs_one _)) (by unfold maxLen; omega) (by omega) h310 ?_; intro a11 c11 w11 k1 k2 k3; have hX11 := Upd.trans HX10.out.drew k2 (fun k _ h => .inr (.inr (Option.some.inj h).symm)); have hA11 := hA10.drew.upd k2 (fun h => hd7 (Option.some.inj h)); have hAz11 := hAz10.drew.upd k2 (fun h => hd8 (Option.some.inj h)); have hm11 := hm10.drew.upd k2 (fun q hq h => hdm q hq (Option.some.inj h)); have hW11 := HW10.out.drew.upd k2 HW10.out.size (fun q _ h => by have h2 : w3.heap.size + 1 + 1 = q := Option.some.inj h; omega); have hs11 : w10.heap.size ≤ w11.heap.size := k2.size; clear hgA d0 g0 d1 g1 d2 g2 d3 g3 d4 g4 hgZ u0 z0 u1 z1 u2 z2 u3 z3 u4 z4; obtain ⟨hgA, d0, g0, d1, g1, d2, g2, d3, g3, d4, g4⟩ := hA11.five; obtain ⟨hgZ, u0, z0, u1, z1, u2, z2, u3, z3, u4, z4⟩ := hAz11.five) | (refine step_append_mine rfl (.tmp 68) (.tmp 69) 38 38 rfl 119 i0 _ 72 Tryz.underlying38 hi0 hz0 hz1 hz2 rfl (.slice a11 (1 + fs.length) c11) (.slice a9 ms.length c9) ms.length (evcs ms) rfl rfl k1 (src_sl hm11 Tryz.underlying38 (evcs_one _)) (by unfold maxLen; omega) (by omega) (Nat.le_trans h310 hs11) ?_; intro a12 c12 w12 l1 l2 l3; have hX12 := Upd.trans hX11 l2 (fun k _ h => (k3 _ h).elim (fun h' => .inr (.inr (Option.some.inj h').symm)) (fun h' => .inl (Nat.le_trans hs810 h'))); have hA12 := hA11.upd l2 (fun h => (k3 _ h).elim (fun h' => hd7 (Option.some.inj h')) (fun h' => Nat.not_le_of_lt hd9 h')); have hAz12 := hAz11.upd l2 (fun h => (k3 _ h).elim (fun h' => hd8 (Option.some.inj h')) (fun h' => Nat.not_le_of_lt hda h')); have hW12 := hW11.upd l2 hW11.size (fun q _ h => by have := (k1.lt q h).1; omega); clear hgA d0 g0 d1 g1 d2 g2 d3 g3 d4 g4 hgZ u0 z0 u1 z1 u2 z2 u3 z3 u4 z4; obtain ⟨hgA, d0, g0, d1, g1, d2, g2, d3, g3, d4, g4⟩ := hA12.five; obtain ⟨hgZ, u0, z0, u1, z1, u2, z2, u3, z3, u4, z4⟩ := hAz12.five) | fail)
      all_goals
        have HDN := Lib.hid (fun (wf : World) (hu : Upd (fun k => k = w.heap.size + 1) w12 wf) => poll_done (a0 := some ⟨b, off, none⟩) (c8 := c8) (tm := tm) (dr := dr) (ck := ck) (fu := fu) HIL.out HR8.out hG8 hX12 hu (by omega) hNE HPK.out HSM.out HNL.out hW12 l1 (by omega) HLM.out HCS.out)
        have hT := Lib.hid (fun x0 x1 x2 x3 x4 => At.all5 hAz12 x0 x1 x2 x3 x4)
        have hBo := Lib.hid (fun x0 x1 x2 x3 x4 => Upd.all5 (g := w.heap.size + 1) (Upd.refl (fun k => k = w.heap.size + 1) w12) (fun _ => rfl) x0 x1 x2 x3 x4)
        clear HIL HR8 hG8 hX12 HPK HSM HNL hW12 l1 l2 l3 k1 k2 k3 HLM HCS hAz12 hA12 hA11 hAz11 hm11 hW11 hX11 hA10 hAz10 hEv10 hf10 hm10
        clear e hil hii hA0 hck htm hnw hn8 hfe hrr hv0 hcell hrb HRD hin hrc HFL hA1 hA0' hB0 hrow hbl hsz hne2 hb3 hw3 hbb hrb3 hnz hNN hP5 hB5 hEv5 hA5 hAz5 hW5 hR5 hn3 p0 x0 p1 x1 p2 x2 p3 x3 p4 x4 p5 x5 p6 x6 p7 x7 p8 x8 p9 x9 hb6 hw7 hz7 hu7s hb8 hlf hs5 hs6 hs8 hs58 hlm hf hi0 hz0 hz1 hz2 hHW hs9 hNE hs10 h310 HX10 HW10 hd7 hd8 hd9 hda hdm hs810 hs11
        (try clear hle)
        (try clear hle2)
        (try clear hle3)
        generalize w.heap.size + 1 = N1 at *
        refine (‹∀ (ax : Act) (wx : World), Code.wp Tryz.prog Code.ret _ ax wx → _›) _ _ ?_
        refine wp_ret ?_
        refine bodyPost_ret (results_at2 (fn := Tryz.f59) rfl _ rfl (hT.out _ _ _ _ _) Tryz.underlying37 rfl (by kernel_rfl)) rfl ?_
        rw [HLT.out]
        exact HDN.out _ (hBo.out _ _ _ _ _)
end Go.Proofs.YtoecikeleoaecaaGreat
