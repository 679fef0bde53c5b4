/- The document's own answers of layer 23: New. -/
import Derived.Test.YtoecikeleoaecaaGreatRefSt9
import Derived.Test.YtoecikeleoaecaaGreatStoreMid
import Derived.Deep.RegionHeld3
namespace Go.Proofs.YtoecikeleoaecaaGreat
set_option maxRecDepth 4000
open Go.ChangeShapes Go.WideShapes Go.ChangeAt Go.RowKit
open PHist PRing PSat PClamp PBound PFrame PSign PTree PEv
set_option linter.unusedVariables false
set_option linter.unusedSimpArgs false

/-- What lies behind r is neither the row's nor one of its records'. -/
def Apart (r : Value) (a : Option Addr) (l : List Pv) : Prop :=
  ∀ q, r.ownBlock = some q → (∀ p, a = some p → 0 < l.length → q ≠ p.block) ∧ ∀ v ∈ l, ∀ p, v.a = some p → 0 < v.p.recs.length → q ≠ p.block
/-- The beginning, and its events. -/
def NewR (s : St) (es : List Ev) (w : World) (e : Ending) (w' : World) : Prop :=
  ∃ (a : Option Addr) (c : Nat) (l : List Pv) (r : Value), e = .returned (.tuple #[.agg #[.slice a s.ps.length c, .int .i64 s.timeout, .int .i64 s.drift, .int .i64 s.clock, .int .i64 s.now], r, .int .i64 0]) ∧ RowP w' a l ∧ l.map (·.p) = s.ps ∧ Sl w.heap.size w' 8 r es.length (evcs es) ∧ Below w.heap.size w w' ∧ (∀ p, a = some p → 0 < l.length → w.heap.size ≤ p.block) ∧ Apart r a l ∧ ∀ v ∈ l, ∀ p, v.a = some p → 0 < v.p.recs.length → w.heap.size ≤ p.block
theorem ref_new_done {w wr w12 wf : World} {g8 k n12 c12 : Nat} {t d fu : Int} {rs : List Rul} {ls : List (List UInt8)} {a a12 : Option Addr} {c : Nat} {out : Value} {l : List Pv} {F : Nat → Prop} {ps : List Pt} {es : List Ev} {xs : List Value}
    (h : RefN w wr g8 k t d rs ls a c out l F) (hps : l.map (·.p) = ps) (hk : k = ps.length) (hX : Upd (fun q => wr.heap.size ≤ q ∨ q = g8 ∨ out.ownBlock = some q) wr w12) (hU : Upd (fun q => q = w.heap.size + 1) w12 wf)
    (hsl : Sl (g8 + 1) w12 8 (.slice a12 n12 c12) n12 xs) (l3 : ∀ q, (Value.slice a12 n12 c12).ownBlock = some q → out.ownBlock = some q ∨ wr.heap.size ≤ q) (hn : n12 = es.length) (hxs : xs = evcs es) :
    NewR ⟨ps, t, d, 0, fu⟩ es w (.returned (.tuple #[.agg #[.slice a k c, .int .i64 t, .int .i64 d, .int .i64 0, .int .i64 fu], .slice a12 n12 c12, .int .i64 0])) wf := by
  have hll : l.length = k := by rw [hk, ← hps, List.length_map]
  have hlt := h.lt
  have hsz := h.new.size
  have hgl := h.st.1
  have hrow := RowP.of_sl h.row hll.symm (fun v hv => (h.ok v hv).1)
  have hab : ∀ p, a = some p → (Value.slice a k c).ownBlock = some p.block := fun p hp => by rw [hp]; rfl
  have hw12 : Below w.heap.size w w12 := h.new.upd hX hsz (fun q hq hs => by
    rcases hs with hs | hs | hs
    · omega
    · omega
    · have := (h.evr.lt q hs).1; omega)
  subst hn hxs hk
  refine ⟨a, c, l, _, rfl, ⟨(RowG.keep hrow.row hX (fun p hp h0 hs => ?_)).keep hU (fun p hp h0 hs => ?_), fun v hv => ((h.ok v hv).1.upd hX (fun p hp h0 hs => ?_)).upd hU (fun p hp h0 hs => ?_)⟩, hps, (hsl.base (by omega)).upd hU (fun q hq hs => ?_), hw12.upd hU hw12.size (fun q _ hs => by have hs : q = w.heap.size + 1 := hs; omega), fun p hp h0 => ?_, fun q hq => ⟨fun p hp h0 e => ?_, fun v hv p hp h0 e => ?_⟩, fun v hv p hp h0 => ?_⟩
  · have h1 := h.row.lt _ (hab p hp)
    have h2 := h.fa _ (hab p hp)
    rcases hs with hs | hs | hs
    · omega
    · omega
    · exact h2.2 hs
  · have h1 := h.row.lt _ (hab p hp)
    have hs : p.block = w.heap.size + 1 := hs
    omega
  · have h1 := (h.ok v hv).2 p hp h0
    have h2 := h.f _ h1
    rcases hs with hs | hs | hs
    · omega
    · omega
    · exact h.fo _ hs h1
  · have h1 := h.f _ ((h.ok v hv).2 p hp h0)
    have hs : p.block = w.heap.size + 1 := hs
    omega
  · have h1 := (hsl.lt q hq).1
    have hs : q = w.heap.size + 1 := hs
    omega
  · have h1 := h.row.lt _ (hab p hp)
    omega
  · subst e
    rcases l3 _ hq with h1 | h1
    · exact (h.fa _ (hab p hp)).2 h1
    · have := h.row.lt _ (hab p hp); omega
  · subst e
    have h2 := (h.ok v hv).2 p hp h0
    rcases l3 _ hq with h1 | h1
    · exact h.fo _ h1 h2
    · have := h.f _ h2; omega
  · have := h.f _ ((h.ok v hv).2 p hp h0)
    omega
set_option maxHeartbeats 4000000 in
theorem ref_new_none (rs : List Rul) (t d : Int) (a : Option Addr) (n c : Nat) (b : Option Addr) (m c2 : Nat) (w : World) (h1 : RowU w a rs) (hn : n = rs.length) (hl : n ≤ 10000) (z : Int) (hz : nerr rs t d m = z) (h0 : z ≠ 0) :
    Calls Tryz.prog 15 #[.agg #[.slice a n c, .int .i64 t, .int .i64 d], .slice b m c2] w fun e w' => e = .returned (.tuple #[.agg #[.slice none 0 0, .int .i64 0, .int .i64 0, .int .i64 0, .int .i64 0], .slice none 0 0, .int .i64 z]) ∧ Below w.heap.size w w' := by
  have e := fun (w : World) (o : Obj) => (Below.refl w.heap.size w).alloc (Nat.le_refl _) o
  have hA0 := (At.alloc w [.slice a n c, .int .i64 t, .int .i64 d] 24).on (e _ (.cells #[.slice none 0 0, .int .i64 0, .int .i64 0, .int .i64 0, .int .i64 0] 37))
  have hA1 := At.alloc (w.alloc (.cells #[.slice a n c, .int .i64 t, .int .i64 d] 24)) [.slice none 0 0, .int .i64 0, .int .i64 0, .int .i64 0, .int .i64 0] 37
  rw [World.size_alloc] at hA1
  have hb0 : Below w.heap.size w ((w.alloc (.cells #[.slice a n c, .int .i64 t, .int .i64 d] 24)).alloc (.cells #[.slice none 0 0, .int .i64 0, .int .i64 0, .int .i64 0, .int .i64 0] 37)) := on_below (e _ _) (e _ _)
  have HC := fun y hy => Lib.hid (ref_check19 rs t d a n c _ (h1.below hb0) hn hl y hy)
  unfold nerr at hz
  by_cases hc : ccheck rs t d = 0
  · rw [if_neg (by omega)] at hz
    have hmn : m ≠ rs.length := by intro e; rw [if_neg (by omega)] at hz; omega
    rw [if_pos hmn] at hz
    subst hz
    have HC0 := HC 0 hc
    have hne : ((m : Int) != (n : Int)) = true := by rw [bne_iff_ne]; omega
    clear HC hc h1 hmn h0 hn e
    go_enter Tryz.func15, Tryz.ntmps15
    go_upto_region 1 with fail
    generalize (w.alloc (.cells #[.slice a n c, .int .i64 t, .int .i64 d] 24)).alloc (.cells #[.slice none 0 0, .int .i64 0, .int .i64 0, .int .i64 0, .int .i64 0] 37) = w1 at *
    obtain ⟨hg0, p0, x0, p1, x1, p2, x2⟩ := hA0.three
    go_wp2_with (first | (go_at_call 54; (with_reducible refine HC0.out.mono ?_); rintro e w2 ⟨rfl, hb2⟩; obtain ⟨hg, c0, z0, c1, z1, c2, z2⟩ := (hA0.on hb2).three; have hAz := hA1.on hb2; obtain ⟨hg2, e0, f0, e1, f1, e2, f2, e3, f3, e4, f4⟩ := hAz.five; have hT := Lib.hid (fun x0 x1 x2 x3 x4 => At.all5 hAz x0 x1 x2 x3 x4); have hBo := Lib.hid (fun x0 x1 x2 x3 x4 => Below.all5 (on_below hb0 hb2) (g := w.heap.size + 1) (by omega) x0 x1 x2 x3 x4); clear hAz))
    refine bodyPost_ret (results_at3 (fn := Tryz.f15) rfl _ rfl (hT.out _ _ _ _ _) Tryz.underlying37 rfl (by kernel_rfl)) rfl ?_
    exact ⟨rfl, hBo.out _ _ _ _ _⟩
  · rw [if_pos hc] at hz
    have HC0 := HC z hz
    have hz0 : (z != 0) = true := by rw [bne_iff_ne]; exact h0
    clear HC hc hz h1 hn h0 e
    go_enter Tryz.func15, Tryz.ntmps15
    go_upto_region 1 with fail
    generalize (w.alloc (.cells #[.slice a n c, .int .i64 t, .int .i64 d] 24)).alloc (.cells #[.slice none 0 0, .int .i64 0, .int .i64 0, .int .i64 0, .int .i64 0] 37) = w1 at *
    obtain ⟨hg0, p0, x0, p1, x1, p2, x2⟩ := hA0.three
    go_wp2_with (first | (go_at_call 54; (with_reducible refine HC0.out.mono ?_); rintro e w2 ⟨rfl, hb2⟩; have hAz := hA1.on hb2; obtain ⟨hg2, e0, f0, e1, f1, e2, f2, e3, f3, e4, f4⟩ := hAz.five; have hT := Lib.hid (fun x0 x1 x2 x3 x4 => At.all5 hAz x0 x1 x2 x3 x4); have hBo := Lib.hid (fun x0 x1 x2 x3 x4 => Below.all5 (on_below hb0 hb2) (g := w.heap.size + 1) (by omega) x0 x1 x2 x3 x4); clear hAz))
    refine bodyPost_ret (results_at3 (fn := Tryz.f15) rfl _ rfl (hT.out _ _ _ _ _) Tryz.underlying37 rfl (by kernel_rfl)) rfl ?_
    exact ⟨rfl, hBo.out _ _ _ _ _⟩

set_option maxHeartbeats 8000000 in
theorem ref_new (rs : List Rul) (t d : Int) (ls : List ByteArray) (a : Option Addr) (n c : Nat) (b : Option Addr) (m c2 : Nat) (w : World) (h1 : RowU w a rs) (h2 : RowS w b ls) (hn : n = rs.length) (hm : m = ls.length) (hz : nerr rs t d m = 0) (h8 : m ≤ 8) (hf : ∀ r ∈ rs, r.Fits) (ht : in64 t) (hd : in64 d) (hs : ∀ s ∈ ls, s.size ≤ 400) :
    Calls Tryz.prog 15 #[.agg #[.slice a n c, .int .i64 t, .int .i64 d], .slice b m c2] w (NewR (St.new t d rs (ls.map fun s => s.data.toList)) (St.newE t rs (ls.map fun s => s.data.toList)) w) := by
  have e := fun (w : World) (o : Obj) => (Below.refl w.heap.size w).alloc (Nat.le_refl _) o
  have hA0 := (At.alloc w [.slice a n c, .int .i64 t, .int .i64 d] 24).on (e _ (.cells #[.slice none 0 0, .int .i64 0, .int .i64 0, .int .i64 0, .int .i64 0] 37))
  have hA1 := At.alloc (w.alloc (.cells #[.slice a n c, .int .i64 t, .int .i64 d] 24)) [.slice none 0 0, .int .i64 0, .int .i64 0, .int .i64 0, .int .i64 0] 37
  rw [World.size_alloc] at hA1
  have hb0 : Below w.heap.size w ((w.alloc (.cells #[.slice a n c, .int .i64 t, .int .i64 d] 24)).alloc (.cells #[.slice none 0 0, .int .i64 0, .int .i64 0, .int .i64 0, .int .i64 0] 37)) := on_below (e _ _) (e _ _)
  obtain ⟨hc0, hmn⟩ := nerr_zero hz
  have HC := Lib.hid (ref_check19 rs t d a n c _ (h1.below hb0) hn (by omega) 0 hc0)
  have ht1 := ccheck_t hc0
  have HOK : Hid (∀ p ∈ begun t rs (ls.map fun s => s.data.toList), p.Ok) := (new_ok (d := d) (by rw [List.length_map]; omega) (by omega) (fun r hr => ⟨ccheck_ok hc0 r hr, hf r hr⟩) (fun l hl => by
    obtain ⟨s, hs', rfl⟩ := List.mem_map.1 hl
    exact hs s hs') ⟨ht1.2.1, ht.2⟩ ⟨ht1.2.2, hd.2⟩).pt
  have HB1 : Hid (∀ p, a = some p → 0 < rs.length → p.block < w.heap.size) := fun p hp h0 => by
    obtain ⟨b', off, hab, hb, -⟩ := h1.at_ 0 h0
    rw [hab] at hp; cases hp
    exact hb
  have HB2 : Hid (∀ p, b = some p → 0 < ls.length → p.block < w.heap.size) := fun p hp h0 => by
    obtain ⟨b', off, hab, hb, -⟩ := h2.at_ 0 h0
    rw [hab] at hp; cases hp
    exact hb
  have H1 := Lib.hid (h1.below hb0)
  have H2 := Lib.hid (h2.below hb0)
  have HS := Lib.hid hs
  have HRL := Lib.hid (raws_len (t := t) (rs := rs) (ls := ls.map fun s => s.data.toList) (by rw [List.length_map]; omega))
  have HLL : Hid ((ls.map fun s => s.data.toList).length = rs.length) := by show _ = _; rw [List.length_map]; omega
  obtain rfl : m = n := by omega
  have HN := Lib.hid hn
  have HM := Lib.hid hm
  clear h1 h2 hn hm hz hs hc0 hmn ht1 hd
  have hne : ((m : Int) != (m : Int)) = false := by simp
  go_enter Tryz.func15, Tryz.ntmps15
  go_upto_region 1 with fail
  generalize (w.alloc (.cells #[.slice a m c, .int .i64 t, .int .i64 d] 24)).alloc (.cells #[.slice none 0 0, .int .i64 0, .int .i64 0, .int .i64 0, .int .i64 0] 37) = w1 at *
  obtain ⟨hg0, p0, x0, p1, x1, p2, x2⟩ := hA0.three
  go_upto_region 6 with (first | (go_at_call 54; (with_reducible refine HC.out.mono ?_); rintro e w2 ⟨rfl, hb2⟩; obtain ⟨hgc, c0, z0, c1, z1, c2, z2⟩ := (hA0.on hb2).three))
  have hA0b := hA0.on hb2
  have hA1b := hA1.on hb2
  have hbw2 := on_below hb0 hb2
  have H1b := Lib.hid (H1.out.below hb2)
  have H2b := Lib.hid (H2.out.below hb2)
  have hlt2 : w.heap.size + 1 < w2.heap.size := hA1b.1
  clear hA0 hA1 hb0 p0 x0 p1 x1 p2 x2 hg0 hb2 H1 H2
  have hS8 := (At.alloc w2 [.slice none 0 0, .int .i64 t, .int .i64 d, .int .i64 0, .int .i64 (-9223372036854775808)] 37).on (e _ (.cells #[] 119))
  have hB8 : Below w2.heap.size w2 ((w2.alloc (.cells #[.slice none 0 0, .int .i64 t, .int .i64 d, .int .i64 0, .int .i64 (-9223372036854775808)] 37)).alloc (.cells #[] 119)) := on_below (e _ _) (e _ _)
  have hO8 : Sl (w2.heap.size + 1) ((w2.alloc (.cells #[.slice none 0 0, .int .i64 t, .int .i64 d, .int .i64 0, .int .i64 (-9223372036854775808)] 37)).alloc (.cells #[] 119)) 8 (.slice (some ⟨w2.heap.size + 1, 0, none⟩) 0 0) 0 [] := by
    have h := Sl.made (B := w2.heap.size + 1) (w2.alloc (.cells #[.slice none 0 0, .int .i64 t, .int .i64 d, .int .i64 0, .int .i64 (-9223372036854775808)] 37)) #[] 119 8 0 0 (by simp) (Nat.le_refl _) (Nat.zero_le _) (by simp)
    simpa using h
  have HR0 : RefN w ((w2.alloc (.cells #[.slice none 0 0, .int .i64 t, .int .i64 d, .int .i64 0, .int .i64 (-9223372036854775808)] 37)).alloc (.cells #[] 119)) w2.heap.size 0 t d rs (ls.map fun s => s.data.toList) none 0 (.slice (some ⟨w2.heap.size + 1, 0, none⟩) 0 0) [] (fun _ => False) :=
    ⟨hS8, Sl.nil _ _ _, rfl, hO8, fun v hv => (by cases hv), fun _ h => h.elim, fun b hb => (by simp [Value.ownBlock] at hb), fun _ _ h => h, on_below hbw2 hB8, hlt2⟩
  go_upto_region 8 with fail
  have hA0c := hA0b.on hB8
  have hA1c := hA1b.on hB8
  have H1c := Lib.hid (H1b.out.below hB8)
  have H2c := Lib.hid (H2b.out.below hB8)
  have hsz8 := hB8.size
  clear hS8 hO8 hA0b hA1b H1b H2b hB8 hbw2 hgc c0 z0 c1 z1 c2 z2
  generalize (w2.alloc (.cells #[.slice none 0 0, .int .i64 t, .int .i64 d, .int .i64 0, .int .i64 (-9223372036854775808)] 37)).alloc (.cells #[] 119) = w8 at *
  generalize w2.heap.size = g8 at *
  go_wp2_with fail
  go_loopw [9, 10] (fun vo vi wr => ∃ (k : Nat) (a' : Option Addr) (c' : Nat) (l : List Pv) (F : Nat → Prop), k ≤ m ∧ vi = .int .i64 k ∧ RefN w wr g8 k t d rs (ls.map fun s => s.data.toList) a' c' vo l F ∧ At wr w.heap.size [.slice a m c, .int .i64 t, .int .i64 d] ∧ At wr (w.heap.size + 1) [.slice none 0 0, .int .i64 0, .int .i64 0, .int .i64 0, .int .i64 0] ∧ Upd (fun b => g8 ≤ b) w8 wr) (fun _ i _ => m - (intOf i).toNat)
  case atStart => exact ⟨0, none, 0, [], _, Nat.zero_le _, rfl, HR0, hA0c, hA1c, Upd.refl _ _⟩
  case round =>
    clear HR0 hA0c hA1c
    obtain ⟨k, a', c', l, F, hk, rfl, hR, hA, hAz, hup⟩ := hrel
    by_cases hlt : k < m
    · have hkr : k < rs.length := by rw [← HN.out]; exact hlt
      have hkl : k < ls.length := by rw [← HM.out]; exact hlt
      have hrow := RowG.upd H1c.out hup (fun p hp h => by have h1 := HB1.out p hp (by omega); have h2 : g8 ≤ p.block := h; omega)
      have hstr := RowS.upd H2c.out hup (fun p hp h => by have h1 := HB2.out p hp (by omega); have h2 : g8 ≤ p.block := h; omega)
      obtain ⟨bb, offb, rfl, -, -⟩ := hrow.at_ k hkr
      obtain ⟨bs, offs, rfl, -, -⟩ := hstr.at_ k hkl
      obtain ⟨hbs, s0⟩ := hstr.cell k hkl
      have hrc := fun wx (h : RowU wx (some ⟨bb, offb, none⟩) rs) => RowU.cells h k hkr
      have hraw := raws_at (t := t) HLL.out k hkr
      rw [List.getElem_map] at hraw
      have HPA := fun wx => Lib.hid (ref_parse2 ls[k] wx (by have := HS.out _ (List.getElem_mem hkl); omega))
      unfold Pt.raw at hraw
      generalize rs[k] = ru at *
      obtain ⟨kd, bd, pc, wn, sg⟩ := ru
      generalize parse ls[k].data.toList = pp at *
      obtain ⟨recs, ln, er⟩ := pp
      simp only at hraw hrc
      generalize ls[k] = sk at *
      have HSE := fun (ar : Option Addr) (cr : Nat) w => (ref_settle ⟨⟨⟨kd, bd, pc, wn, sg⟩, recs, er, 0, 0, t⟩, ar, cr⟩ k w)
      have hsl := settled_is ⟨⟨kd, bd, pc, wn, sg⟩, recs, er, 0, 0, t⟩
      have HFL : Hid ((faults (pat (raws t rs (ls.map fun s => s.data.toList)) k) k).length ≤ 1) := faults_len _ _
      have HFK : Hid ((faultsTo (raws t rs (ls.map fun s => s.data.toList)) k).length ≤ k) := faultsTo_len _ _
      unfold SetPost at HSE
      simp only at HSE
      rw [hsl] at HSE
      have HSR : Hid (settled (pat (raws t rs (ls.map fun s => s.data.toList)) k) = ⟨⟨kd, bd, pc, wn, sg⟩, recs, er, 0, (settled ⟨⟨kd, bd, pc, wn, sg⟩, recs, er, 0, 0, t⟩).is, t⟩) := by show _ = _; rw [hraw]; exact hsl
      simp only [Pv.val] at HSE
      generalize (settled ⟨⟨kd, bd, pc, wn, sg⟩, recs, er, 0, 0, t⟩).is = is2 at *
      rw [← hraw] at HSE
      rw [show ((0 : Nat) : Int) = 0 from rfl] at HSE
      clear hsl hraw
      obtain ⟨hg0, p0, x0, p1, x1, p2, x2⟩ := hA.three
      go_upto_region 12 with (first | (go_at_call 55; (with_reducible refine (HPA _).out.mono ?_); intro e w5 hG; obtain ⟨ar, cr, rfl, hRR, hb5, hnr, hle, hcap⟩ := hG))
      have hGt := At.alloc w5 [.slice ar recs.length cr, .int .i64 ln, .int .i64 er] 111
      have hB6 : Below wr.heap.size wr (w5.alloc (.cells #[.slice ar recs.length cr, .int .i64 ln, .int .i64 er] 111)) := on_below hb5 (e _ _)
      have hRR6 := hRR.on (e w5 (.cells #[.slice ar recs.length cr, .int .i64 ln, .int .i64 er] 111))
      have hN6 : ∀ q, ar = some q → wr.heap.size ≤ q.block := hnr
      clear p0 x0 p1 x1 p2 x2 hg0 hRR hb5 hnr
      generalize w5.alloc (.cells #[.slice ar recs.length cr, .int .i64 ln, .int .i64 er] 111) = w6 at *
      generalize w5.heap.size = gt at *
      have hA6 := hA.on hB6
      obtain ⟨hg0, p0, x0, p1, x1, p2, x2⟩ := hA6.three
      obtain ⟨hg1, q0, y0, q1, y1, q2, y2⟩ := hGt.three
      obtain ⟨hbb, r0, r1, r2, r3, r4⟩ := hrc _ (hrow.below hB6)
      have HS2 := fun w' => Lib.hid (HSE ar cr w')
      have hsb6 := hB6.size
      clear HSE HPA hrc
      go_cut [12, 13] (fun v12 v13 wx => ∃ g12 : Nat, v12 = .pointer (some ⟨g12, 0, none⟩) ∧ At wx g12 [.int .i64 kd, .int .i64 bd, .int .i64 pc, .int .i64 wn, .int .i64 sg, .slice ar recs.length cr, .int .i64 er, .int .i64 0, .int .i64 is2, .int .i64 t] ∧ Sl w6.heap.size wx 8 v13 (faults (pat (raws t rs (ls.map fun s => s.data.toList)) k) k).length (evcs (faults (pat (raws t rs (ls.map fun s => s.data.toList)) k) k)) ∧ Below w6.heap.size w6 wx)
      case first =>
        rename_i z1 z2 z3 z4 z5 z6 z7 z8 z9 z10 z11
        clear z2 z5 z7
        clear hR hA hAz hrow hstr hup H1c H2c HB1 HB2 hA6 hGt hRR6 HOK HS HRL HLL HN HM HFL HFK HSR hf h8 hsz8 hlt2 hne hk hbs s0 hkr hkl hle hcap hN6 ht
        have HF : ∀ wx, Below w6.heap.size w6 wx → wx.cell? ⟨w.heap.size, 0, none⟩ = some (.slice (some ⟨bb, offb, none⟩) m c) ∧ wx.cell? ⟨w.heap.size, 1, none⟩ = some (.int .i64 t) ∧ wx.cell? ⟨gt, 0, none⟩ = some (.slice ar recs.length cr) ∧ wx.cell? ⟨gt, 2, none⟩ = some (.int .i64 er) ∧ wx.cell? ⟨bb, offb + k * 5, none⟩ = some (.int .i64 kd) ∧ wx.cell? ⟨bb, offb + k * 5 + 1, none⟩ = some (.int .i64 bd) ∧ wx.cell? ⟨bb, offb + k * 5 + 2, none⟩ = some (.int .i64 pc) ∧ wx.cell? ⟨bb, offb + k * 5 + 3, none⟩ = some (.int .i64 wn) ∧ wx.cell? ⟨bb, offb + k * 5 + 4, none⟩ = some (.int .i64 sg) := fun wx h => by
          refine ⟨?_, ?_, ?_, ?_, ?_, ?_, ?_, ?_, ?_⟩ <;> (first | exact cell_kept h p0 | exact cell_kept h p1 | exact cell_kept h q0 | exact cell_kept h q2 | exact cell_kept h r0 | exact cell_kept h r1 | exact cell_kept h r2 | exact cell_kept h r3 | exact cell_kept h r4)
        have HZ := fun wx (h : Below (w6.alloc (.cells #[.int .i64 0, .int .i64 0, .int .i64 0, .int .i64 0, .int .i64 0, .slice none 0 0, .int .i64 0, .int .i64 0, .int .i64 0, .int .i64 0] 58)).drew.heap.size (w6.alloc (.cells #[.int .i64 0, .int .i64 0, .int .i64 0, .int .i64 0, .int .i64 0, .slice none 0 0, .int .i64 0, .int .i64 0, .int .i64 0, .int .i64 0] 58)).drew wx) => (show At wx w6.heap.size [.int .i64 0, .int .i64 0, .int .i64 0, .int .i64 0, .int .i64 0, .slice none 0 0, .int .i64 0, .int .i64 0, .int .i64 0, .int .i64 0] from (At.alloc w6 [.int .i64 0, .int .i64 0, .int .i64 0, .int .i64 0, .int .i64 0, .slice none 0 0, .int .i64 0, .int .i64 0, .int .i64 0, .int .i64 0] 58).drew.on h)
        obtain ⟨C, hC⟩ : ∃ C : Array Value, C = #[.int .i64 kd, .int .i64 bd, .int .i64 pc, .int .i64 wn, .int .i64 sg, .slice ar recs.length cr, .int .i64 er, .int .i64 0, .int .i64 is2, .int .i64 t] := ⟨_, rfl⟩
        rw [← hC] at HS2
        have HC10 : C.size = 10 := by rw [hC]; rfl
        have HC1' : Hid (C.all (·.oneCell') = true) := by show _ = true; rw [hC]; simp [Value.oneCell']
        have HCC := Lib.hid hC
        clear hC
        have HI10' : Hid ((Tryz.prog.info? 58).map (·.size) = some C.size) := by show _ = _; rw [HC10]; kernel_rfl
        have HTH := fun wx (h : Below (w6.alloc (.cells #[.int .i64 0, .int .i64 0, .int .i64 0, .int .i64 0, .int .i64 0, .slice none 0 0, .int .i64 0, .int .i64 0, .int .i64 0, .int .i64 0] 58)).drew.heap.size (w6.alloc (.cells #[.int .i64 0, .int .i64 0, .int .i64 0, .int .i64 0, .int .i64 0, .slice none 0 0, .int .i64 0, .int .i64 0, .int .i64 0, .int .i64 0] 58)).drew wx) => Lib.hid (show wx.there w6.heap.size 0 C.size by rw [HC10]; exact (HZ wx h).there)
        have HBA : ∀ o, Below w6.heap.size w6 (w6.alloc o).drew := fun o => ((Below.refl w6.heap.size w6).alloc (Nat.le_refl _) o).drew
        go_region_held3 (fun wx => wx.cell? ⟨w.heap.size, 0, none⟩ = some (.slice (some ⟨bb, offb, none⟩) m c) ∧ wx.cell? ⟨w.heap.size, 1, none⟩ = some (.int .i64 t) ∧ wx.cell? ⟨gt, 0, none⟩ = some (.slice ar recs.length cr) ∧ wx.cell? ⟨gt, 2, none⟩ = some (.int .i64 er) ∧ wx.cell? ⟨bb, offb + k * 5, none⟩ = some (.int .i64 kd) ∧ wx.cell? ⟨bb, offb + k * 5 + 1, none⟩ = some (.int .i64 bd) ∧ wx.cell? ⟨bb, offb + k * 5 + 2, none⟩ = some (.int .i64 pc) ∧ wx.cell? ⟨bb, offb + k * 5 + 3, none⟩ = some (.int .i64 wn) ∧ wx.cell? ⟨bb, offb + k * 5 + 4, none⟩ = some (.int .i64 sg))
          (first | (with_reducible exact HF _ (Below.refl _ _)) | (with_reducible exact HF _ (Below.refl _ _).drew) | (with_reducible exact HF _ hbx) | (with_reducible exact HF _ (HBA _)) | (with_reducible exact HF _ (hbx2 _)) | (with_reducible exact HF _ hbx3) | fail)
          (first | (go_at_call 56; (with_reducible refine (HS2 _).out.mono ?_); intro e w7 hF; obtain ⟨r, rfl, hf, hb7⟩ := hF; have hbx : Below w6.heap.size w6 w7 := (by first | (with_reducible exact on_below (Below.refl w6.heap.size w6).drew hb7) | (with_reducible exact on_below (HBA _) hb7)); have hbx2 : ∀ o, Below w6.heap.size w6 (w7.alloc o) := (fun o => hbx.alloc hbx.size o); have hbx3 : Below w6.heap.size w6 (w7.setCells w6.heap.size 0 C.toList) := (hbx.upd (upd_setCells w6.heap.size 0 C.toList w7) hbx.size (fun q _ h => by have h' : q = w6.heap.size := h; omega)); have hSB := run_storeAt_new (P := Tryz.prog) w7 58 #[.int .i64 0, .int .i64 0, .int .i64 0, .int .i64 0, .int .i64 0, .slice none 0 0, .int .i64 0, .int .i64 0, .int .i64 0, .int .i64 0] C HI10'.out HC10.symm HC1'.out; have hSD := run_storeCells_new (P := Tryz.prog) w7 58 #[.int .i64 0, .int .i64 0, .int .i64 0, .int .i64 0, .int .i64 0, .slice none 0 0, .int .i64 0, .int .i64 0, .int .i64 0, .int .i64 0] C HI10'.out HC10.symm HC1'.out; first | (with_reducible have hTH := HTH _ hb7; have hSA := run_storeAt_mid (P := Tryz.prog) w7 w6.heap.size 0 58 C hTH.out HI10'.out HC1'.out; have hSC := run_store_there (P := Tryz.prog) w7 w6.heap.size C hTH.out HC1'.out) | skip))
        all_goals (go_wp2_with fail; go_meet)
        all_goals first
          | exact ⟨_, rfl, by rw [HCC.out]; exact (HZ _ hb7).row [.int .i64 kd, .int .i64 bd, .int .i64 pc, .int .i64 wn, .int .i64 sg, .slice ar recs.length cr, .int .i64 er, .int .i64 0, .int .i64 is2, .int .i64 t] rfl, (hf.upd (upd_setCells w6.heap.size 0 C.toList w7) (fun q hq h => by have h' : q = w6.heap.size := h; have := (hf.lt q hq).1; simp at this; omega)).base (by simp), hbx3⟩
          | exact ⟨_, rfl, by rw [HCC.out]; exact At.alloc w7 [.int .i64 kd, .int .i64 bd, .int .i64 pc, .int .i64 wn, .int .i64 sg, .slice ar recs.length cr, .int .i64 er, .int .i64 0, .int .i64 is2, .int .i64 t] 58, (hf.alloc _).base (by simp), hbx2 _⟩
      case rest =>
        obtain ⟨g12, rfl, hP12, hf, hbc⟩ := hcut
        have hBc := on_below hB6 hbc
        have hRc := hR.on hBc
        have hvok : PvOk wc ⟨⟨⟨kd, bd, pc, wn, sg⟩, recs, er, 0, is2, t⟩, ar, cr⟩ := ⟨hRR6.on hbc, hle, hcap⟩
        have hgl := hR.st.1
        obtain ⟨hgs, s0, y0, s1, y1, s2, y2, s3, y3, s4, y4⟩ := hRc.st.five
        obtain ⟨hgp, e0, f0, e1, f1, e2, f2, e3, f3, e4, f4, e5, f5, e6, f6, e7, f7, e8, f8, e9, f9⟩ := hP12.ten
        obtain ⟨i0, hi0, hz0, hz1, hz2⟩ := info_parts info_pv
        obtain ⟨j0, hj0, hy0, hy1, hy2⟩ := info_parts info_evr
        obtain ⟨av, cv, hre⟩ := hf.shape
        subst hre
        have hf1 := HFL.out
        have hf2 := HFK.out
        have hszc := hBc.size
        have hsz7 := hbc.size
        have hm1 : k + 1 ≤ maxLen := by unfold maxLen; omega
        have hone := Pv.cells_one ⟨⟨⟨kd, bd, pc, wn, sg⟩, recs, er, 0, is2, t⟩, ar, cr⟩
        clear p0 x0 p1 x1 p2 x2 q0 q1 q2 r0 r1 r2 r3 r4 HS2
        go_upto_region 14 with (at_builtin; refine wpList_append_sl _ rfl (.tmp 63) (.tmp 65) 35 35 rfl 58 i0 _ 96 Tryz.underlying35 hi0 hz0 hz1 hz2 rfl rfl (hRc.row.alloc _) _ 1 [.int .i64 kd, .int .i64 bd, .int .i64 pc, .int .i64 wn, .int .i64 sg, .slice ar recs.length cr, .int .i64 er, .int .i64 0, .int .i64 is2, .int .i64 t] rfl (src_cells Tryz.underlying35 wc _ 58 _ rfl 10 rfl hone) hm1 (by omega) (by simp; omega) ?_; intro v1 w7 q1 q2 q3; obtain ⟨a1, c1, rfl⟩ := q1.shape; have hst7 := (hRc.st.on (e wc (.cells #[.int .i64 kd, .int .i64 bd, .int .i64 pc, .int .i64 wn, .int .i64 sg, .slice ar recs.length cr, .int .i64 er, .int .i64 0, .int .i64 is2, .int .i64 t] 58))).upd q2 (fun h => by have := (hRc.row.lt _ h).1; omega); obtain ⟨hg7, t0, o0, t1, o1, t2, o2, t3, o3, t4, o4⟩ := hst7.five)
        clear s0 y0 s1 y1 s2 y2 s3 y3 s4 y4 e0 f0 e1 f1 e2 f2 e3 f3 e4 f4 e5 f5 e6 f6 e7 f7 e8 f8 e9 f9 t0 o0 t1 o1 t2 o2 t3 o3 t4 o4
        have hu8 : Upd (fun q => q = g8) w7 (w7.setCell ⟨g8, 0, none⟩ (.slice a1 (k + 1) c1)) := (Upd.refl (fun q => q = g8) w7).setCell (p := ⟨g8, 0, none⟩) (fun _ => rfl) _
        have hwc7 : wc.heap.size ≤ w7.heap.size := Nat.le_trans (by simp) q2.size
        have hag : ∀ q, (Value.slice a' k c').ownBlock = some q → q < wc.heap.size := fun q h => (hRc.row.lt q h).2
        have hE8 := (((hRc.evr.on (e wc (.cells #[.int .i64 kd, .int .i64 bd, .int .i64 pc, .int .i64 wn, .int .i64 sg, .slice ar recs.length cr, .int .i64 er, .int .i64 0, .int .i64 is2, .int .i64 t] 58))).upd q2 (fun q hq h => (hRc.fa q h).2 hq)).upd hu8 (fun q hq h => by have h' : q = g8 := h; have := (hRc.evr.lt q hq).1; omega))
        have hf8 := ((hf.on (e wc (.cells #[.int .i64 kd, .int .i64 bd, .int .i64 pc, .int .i64 wn, .int .i64 sg, .slice ar recs.length cr, .int .i64 er, .int .i64 0, .int .i64 is2, .int .i64 t] 58))).upd q2 (fun q hq h => by have h1 := (hf.lt q hq).1; have h2 := (hR.row.lt q h).2; omega)).upd hu8 (fun q hq h => by have h' : q = g8 := h; have := (hf.lt q hq).1; omega)
        have hU9 : Upd (fun q => g8 ≤ q) wr (w7.setCell ⟨g8, 0, none⟩ (.slice a1 (k + 1) c1)) := Upd.trans (Upd.trans (Upd.of_below (on_below hBc (e wc (.cells #[.int .i64 kd, .int .i64 bd, .int .i64 pc, .int .i64 wn, .int .i64 sg, .slice ar recs.length cr, .int .i64 er, .int .i64 0, .int .i64 is2, .int .i64 t] 58))) (fun q h1 h2 => by omega)) q2 (fun q _ h => by have := (hRc.row.lt q h).1; show g8 ≤ q; omega)) hu8 (fun q _ h => by have h' : q = g8 := h; show g8 ≤ q; omega)
        have hsm8 : (w7.setCell ⟨g8, 0, none⟩ (.slice a1 (k + 1) c1)).heap.size = w7.heap.size := by simp [World.setCell]
        have hG8 : g8 + 1 ≤ (w7.setCell ⟨g8, 0, none⟩ (.slice a1 (k + 1) c1)).heap.size := by rw [hsm8]; omega
        have HVA : Hid (∀ q, ar = some q → 0 < recs.length → wr.heap.size ≤ q.block ∧ q.block < (wc.alloc (.cells #[.int .i64 kd, .int .i64 bd, .int .i64 pc, .int .i64 wn, .int .i64 sg, .slice ar recs.length cr, .int .i64 er, .int .i64 0, .int .i64 is2, .int .i64 t] 58)).heap.size) := fun q hq h0 => by
          obtain ⟨b', off, hab, hb, -⟩ := hRR6.at_ 0 h0
          have h3 := hN6 q hq
          rw [hab] at hq; cases hq
          have h1 : b' < w6.heap.size := hb
          exact ⟨h3, by show b' < _; rw [World.size_alloc]; omega⟩
        have hSTEP := Lib.hid (fun (w9 : World) (a2 : Option Addr) (c2' : Nat) (l1 : Sl (g8 + 1) w9 8 (.slice a2 ((faultsTo (raws t rs (ls.map fun s => s.data.toList)) k).length + (faults (pat (raws t rs (ls.map fun s => s.data.toList)) k) k).length) c2') _ _) (l2 : Upd (fun q => Value.ownBlock _ = some q) (w7.setCell ⟨g8, 0, none⟩ (.slice a1 (k + 1) c1)) w9) l3 => RefN.step (w6 := wc.alloc (.cells #[.int .i64 kd, .int .i64 bd, .int .i64 pc, .int .i64 wn, .int .i64 sg, .slice ar recs.length cr, .int .i64 er, .int .i64 0, .int .i64 is2, .int .i64 t] 58)) (r := .slice av (faults (pat (raws t rs (ls.map fun s => s.data.toList)) k) k).length cv) (v := ⟨⟨⟨kd, bd, pc, wn, sg⟩, recs, er, 0, is2, t⟩, ar, cr⟩) hR (by rw [HRL.out]; exact hkr) HSR.out.symm (hvok.on (e wc _)) HVA.out (on_below hBc (e wc _)) q1 q2 q3 (fun q hq => ⟨by have := (hf.lt q hq).1; omega, by have := (hf.lt q hq).2; simp; omega⟩) l1 l2 l3)
        go_wp2_with (at_builtin; refine wpList_append_sl _ rfl (.tmp 68) (.tmp 69) 38 38 rfl 119 j0 _ 72 Tryz.underlying38 hj0 hy0 hy1 hy2 rfl rfl hE8 (.slice av (faults (pat (raws t rs (ls.map fun s => s.data.toList)) k) k).length cv) (faults (pat (raws t rs (ls.map fun s => s.data.toList)) k) k).length (evcs (faults (pat (raws t rs (ls.map fun s => s.data.toList)) k) k)) rfl (src_sl hf8 Tryz.underlying38 (evcs_one _)) (by unfold maxLen; omega) (by omega) hG8 ?_; intro v2 w9 l1 l2 l3; obtain ⟨a2, c2', rfl⟩ := l1.shape)
        go_roundw
        case rel =>
          have hU := Upd.trans hU9 l2 (fun q _ h => by have := (hR.evr.lt q h).1; show g8 ≤ q; omega)
          have hl2 := hR.lt
          exact ⟨k + 1, a1, c1, _, _, by omega, by go_num, hSTEP.out _ _ _ l1 l2 (fun q hq => (l3 q hq).imp id (fun h => by rw [hsm8] at h; exact h)), hA.upd hU (fun h => by have h' : g8 ≤ w.heap.size := h; omega), hAz.upd hU (fun h => by have h' : g8 ≤ w.heap.size + 1 := h; omega), hup.trans hU (fun _ _ h => h)⟩
        case measure => simp [intOf] <;> omega
    · obtain rfl : k = m := by omega
      have hbl : (begun t rs (ls.map fun s => s.data.toList)).length = k := by unfold begun; rw [List.length_map, HRL.out, HN.out]
      have hps : l.map (·.p) = begun t rs (ls.map fun s => s.data.toList) := by rw [hR.ps, List.take_of_length_le (by omega)]
      have hll : l.length = k := by rw [← hbl, ← hps, List.length_map]
      have hRP : RowP wr a' l := RowP.of_sl hR.row hll.symm (fun v hv => (hR.ok v hv).1)
      have HADV := Lib.hid (ref_advance a' k c' l (begun t rs (ls.map fun s => s.data.toList)) t d 0 (-9223372036854775808) wr hRP hll.symm hps HOK.out (by omega))
      have hel : (faultsTo (raws t rs (ls.map fun s => s.data.toList)) k).length ≤ k := faultsTo_len _ _
      have hml : (marksE (-9223372036854775808) (begun t rs (ls.map fun s => s.data.toList))).length ≤ 1 := marksE_len _ _
      have HES : Hid (St.newE t rs (ls.map fun s => s.data.toList) = faultsTo (raws t rs (ls.map fun s => s.data.toList)) k ++ marksE (-9223372036854775808) (begun t rs (ls.map fun s => s.data.toList))) := by
        show _ ++ _ = _
        rw [← HN.out]
      have HSNx : St.new t d rs (ls.map fun s => s.data.toList) = ⟨begun t rs (ls.map fun s => s.data.toList), t, d, 0, further (-9223372036854775808) (begun t rs (ls.map fun s => s.data.toList))⟩ := rfl
      have HBL := Lib.hid hbl
      have HPS := Lib.hid hps
      have HRR := Lib.hid hR
      have hst := hR.st
      have hev := hR.evr
      have hnw := hR.new
      have hlt1 := hR.lt
      obtain ⟨hgs, s0, y0, s1, y1, s2, y2, s3, y3, s4, y4⟩ := hst.five
      clear hps hll hRP hR HS HRL HLL hup H1c H2c HB1 HB2 hf
      generalize further (-9223372036854775808) (begun t rs (ls.map fun s => s.data.toList)) = fu at *
      generalize marksE (-9223372036854775808) (begun t rs (ls.map fun s => s.data.toList)) = ms at *
      generalize faultsTo (raws t rs (ls.map fun s => s.data.toList)) k = es at *
      have HSN := Lib.hid HSNx
      clear HSNx
      go_upto_region 16 with (first | (go_at_call 57; (with_reducible refine HADV.out.mono ?_); intro e w9 hY; obtain ⟨r9, rfl, hm9, hb9⟩ := hY; have hst9 := hst.on hb9; obtain ⟨hg9, c0, z0, c1, z1, c2', z2, c3, z3, c4, z4⟩ := hst9.five))
      clear s0 y0 s1 y1 s2 y2 s3 y3 s4 y4 c0 z0 c1 z1 c2' z2 c3 z3 c4 z4 hgs hg9
      have hu10 := upd_all5 w9 g8 (.slice a' k c') (.int .i64 t) (.int .i64 d) (.int .i64 0) (.int .i64 fu)
      have hA10 := At.all5 hst9 (.slice a' k c') (.int .i64 t) (.int .i64 d) (.int .i64 0) (.int .i64 fu)
      have hAz10 := (hAz.on hb9).upd hu10 (fun h => by have h' : w.heap.size + 1 = g8 := h; omega)
      have hev10 := (hev.on hb9).upd hu10 (fun q hq h => by have h' : q = g8 := h; have := (hev.lt q hq).1; omega)
      have hgl := hst.1
      have hm10 := hm9.upd hu10 (fun q hq h => by have h' : q = g8 := h; have := (hm9.lt q hq).1; omega)
      have hX10 := Upd.trans (Upd.of_below (S := fun q => wr.heap.size ≤ q ∨ q = g8 ∨ u9.ownBlock = some q) hb9 (fun q _ h => .inl h)) hu10 (fun q _ h => .inr (.inl h))
      generalize (((((w9.setCell ⟨g8, 0, none⟩ (.slice a' k c')).setCell ⟨g8, 1, none⟩ (.int .i64 t)).setCell ⟨g8, 2, none⟩ (.int .i64 d)).setCell ⟨g8, 3, none⟩ (.int .i64 0)).setCell ⟨g8, 4, none⟩ (.int .i64 fu)) = w10 at *
      obtain ⟨a9, c9, hre⟩ := hm10.shape
      subst hre
      have hrv := hev.shape
      obtain ⟨ao, co, hre⟩ := hev10.shape
      subst hre
      obtain ⟨i0, hi0, hz0, hz1, hz2⟩ := info_parts info_evr
      obtain ⟨hgA, d0, g0, d1, g1, d2, g2, d3, g3, d4, g4⟩ := hA10.five
      obtain ⟨hgZ, v0, z0, v1, z1, v2, z2, v3, z3, v4, z4⟩ := hAz10.five
      have hs10 : wr.heap.size ≤ w10.heap.size := hX10.size
      have hog : ∀ q, (Value.slice ao es.length co).ownBlock = some q → g8 < q ∧ q < wr.heap.size := fun q hq => by have := hev.lt q hq; omega
      have hdm : ∀ q, (Value.slice a9 ms.length c9).ownBlock = some q → ¬ (Value.slice ao es.length co).ownBlock = some q := fun q hq h => by have := (hm9.lt q hq).1; have := hog q h; omega
      have HDW := Lib.hid (fun w12 (hX : Upd _ wr w12) wf hU a12 n12 c12 xs hsl l3 hn hxs => ref_new_done (w12 := w12) (wf := wf) (a12 := a12) (n12 := n12) (c12 := c12) (xs := xs) (fu := fu) (es := es ++ ms) HRR.out HPS.out HBL.out.symm hX hU hsl l3 hn hxs)
      have HX10 := Lib.hid hX10
      clear hX10 hst9 hb9 hm9 hst hev hnw HADV HRR HPS hrv hAz hA HOK HC HN HM hne hk hlt hbl hu10
      go_region_law (first | (refine step_append_mine rfl (.tmp 77) (.tmp 78) 38 38 rfl 119 i0 _ 72 Tryz.underlying38 hi0 hz0 hz1 hz2 rfl (.slice ao es.length co) (.slice a9 ms.length c9) ms.length (evcs ms) rfl rfl hev10.drew (src_sl hm10.drew Tryz.underlying38 (evcs_one _)) (by unfold maxLen; omega) (by omega) (by show g8 + 1 ≤ w10.heap.size; omega) ?_; intro a12 c12 w12 l1 l2 l3; have hX12 := Upd.trans HX10.out.drew l2 (fun q _ h => .inr (.inr h)); have hA12 := hA10.drew.upd l2 (fun h => by have := hog _ h; omega); have hAz12 := hAz10.drew.upd l2 (fun h => by have := hog _ h; omega); clear hgA d0 g0 d1 g1 d2 g2 d3 g3 d4 g4 hgZ v0 z0 v1 z1 v2 z2 v3 z3 v4 z4; obtain ⟨hgA, d0, g0, d1, g1, d2, g2, d3, g3, d4, g4⟩ := hA12.five; obtain ⟨hgZ, v0, z0, v1, z1, v2, z2, v3, z3, v4, z4⟩ := hAz12.five) | fail)
      all_goals
        have hT := Lib.hid (fun x0 x1 x2 x3 x4 => At.all5 hAz12 x0 x1 x2 x3 x4)
        have hBo := Lib.hid (fun x0 x1 x2 x3 x4 => Upd.all5 (g := w.heap.size + 1) (Upd.refl (fun k => k = w.heap.size + 1) w12) (fun _ => rfl) x0 x1 x2 x3 x4)
        refine (‹∀ (ax : Act) (wx : World), Code.wp Tryz.prog Code.ret _ ax wx → _›) _ _ ?_
        refine wp_ret ?_
        refine bodyPost_ret (results_at3 (fn := Tryz.f15) rfl _ rfl (hT.out _ _ _ _ _) Tryz.underlying37 rfl (by kernel_rfl)) rfl ?_
        rw [HSN.out, HES.out]
        exact HDW.out _ hX12 _ (hBo.out _ _ _ _ _) _ _ _ _ l1 (fun q hq => (l3 q hq).imp id (fun h => Nat.le_trans hs10 h)) (by rw [List.length_append]) (by simp [evcs])
end Go.Proofs.YtoecikeleoaecaaGreat
