/- Contracts of the model's calls: to settle a partition; who is refused. -/
import Derived.Test.YtoecikeleoaecaaGreatMod4
import Derived.Test.YtoecikeleoaecaaGreatKSrcA
import Derived.Deep.RegionHeld3
namespace Go.Proofs.YtoecikeleoaecaaGreat
set_option maxRecDepth 4000
open Go.ChangeShapes Go.WideShapes Go.ChangeAt Go.RowKit
open PHist PRing PSat PClamp PBound PFrame PSign PTree PEv
set_option linter.unusedVariables false
set_option linter.unusedSimpArgs false

theorem set_pat {ps : List Pt} {i : Nat} (h : i < ps.length) : ps.set i (pat ps i) = ps := by
  rw [pat_lt h, List.set_getElem_self]
theorem rec_alloc (w : World) (x y z : Value) : Below w.heap.size w (w.alloc (.cells #[x, y, z] 117)) := (Below.refl w.heap.size w).alloc (Nat.le_refl _) _
set_option maxHeartbeats 4000000 in
theorem mo_settle (K : Option Addr → Nat → List R → Prop) (B g : Nat) (ru : Value) (a : Option Addr) (n c : Nat) (l : List Pv) (ps : List Pt) (t d k m : Int) (i : Nat) (w : World) (h : MoS K B w g ru a n c l ps t d k m) (hi : i < n) (h400 : ∀ p ∈ ps, p.recs.length ≤ 400) (hn8 : n ≤ 1000) :
    Calls Tryz.prog 79 #[.pointer (some ⟨g, 0, none⟩), .int .i64 i] w (MoPost K B g ru a n c (ps.set i (settled (pat ps i))) t d k m (fun b => (Value.slice a n c).ownBlock = some b) (faults (pat ps i) i) w) := by
  have hil : i < l.length := by rw [← h.len]; exact hi
  obtain ⟨b, off, rfl, hBb, hbl, hbg, hfr⟩ := h.at_ i hil
  have hpi := h.pat i hil
  have hip : i < ps.length := by rw [← h.plen]; exact hi
  have h4 := h400 _ (pat_mem hip)
  have hSP := set_pat hip
  have hvo := h.ok _ (List.getElem_mem hil)
  have HPK := fun w' (h' : MoS K B w' g ru (some ⟨b, off, none⟩) n c l ps t d k m) (v : Pv) (hv : l[i] = v) (x : Int) => h'.poke i 8 hil (by omega) v hv { v.p with is := x } (.int .i64 x) rfl rfl
  rw [← hpi] at h4 hSP ⊢
  have hcell := fun w' (h' : MoS K B w' g ru (some ⟨b, off, none⟩) n c l ps t d k m) => h'.rowp.cell i hil
  obtain ⟨hgl, -, -, -, -, -, -, p3, -, -, -, -, -⟩ := h.blk.cells6
  have HH := Lib.hid h
  clear hpi h400 h
  generalize hv : l[i] = v at *
  have HV := Lib.hid hv
  clear hv
  have HNX1 := fun h => Lib.hid (mo_next_one v w hvo h4 h)
  have HNX0 := fun h => Lib.hid (mo_next_none v w h4 h)
  have f8 := hfr 8 (by omega)
  have hil2 : (i : Int) < (n : Int) := by omega
  obtain ⟨hbb, r0, r1, r2, r3, r4, r5, r6, r7, r8, r9⟩ := hcell w HH.out
  obtain ⟨⟨⟨kd, bd, pc, wn, sg⟩, recs, er, rd, is, tl⟩, av, cv⟩ := v
  simp only [Pv.val] at HNX1 HNX0 hcell r0 r1 r2 r3 r4 r5 r6 r7 r8 r9 hSP h4 HPK ⊢
  clear hvo hfr
  by_cases hrd : rd < recs.length
  · have HN1 := HNX1 hrd
    have e1 : settled ⟨⟨kd, bd, pc, wn, sg⟩, recs, er, rd, is, tl⟩ = ⟨⟨kd, bd, pc, wn, sg⟩, recs, er, rd, is, tl⟩ := if_pos hrd
    have e2 : faults ⟨⟨kd, bd, pc, wn, sg⟩, recs, er, rd, is, tl⟩ i = [] := if_pos hrd
    rw [e1, e2, hSP]
    clear e1 e2 HNX0 HNX1 hcell HPK f8 hrd
    go_enter Tryz.func79, Tryz.ntmps79
    go_wp2_with (first | (go_at_call 125; (with_reducible refine HN1.out.mono ?_); rintro e9 w1 ⟨rfl, hb1⟩) | fail)
    go_ret
    exact ⟨l, .slice none 0 0, rfl, Sl.nil _ _ _, HH.out.on (on_below hb1 ((Below.refl _ _).alloc (Nat.le_refl _) _)), Upd.of_below (on_below hb1 ((Below.refl _ _).alloc (Nat.le_refl _) _)) (fun q h1 h2 => by omega)⟩
  · have HN1 := HNX0 (by omega)
    have HR : Hid (∀ w1, Below w.heap.size w w1 → MoS K B (w1.alloc (.cells #[.int .i64 0, .int .i64 0, .string ⟨#[]⟩] 117)) g ru (some ⟨b, off, none⟩) n c l ps t d k m ∧ Below w.heap.size w (w1.alloc (.cells #[.int .i64 0, .int .i64 0, .string ⟨#[]⟩] 117))) := fun w1 hb1 => ⟨HH.out.on (on_below hb1 (rec_alloc w1 _ _ _)), on_below hb1 (rec_alloc w1 _ _ _)⟩
    by_cases her : er = 0
    · have e1 : settled ⟨⟨kd, bd, pc, wn, sg⟩, recs, er, rd, is, tl⟩ = ⟨⟨kd, bd, pc, wn, sg⟩, recs, er, rd, 2, tl⟩ := by unfold settled; rw [if_neg hrd, if_pos her]
      have e2 : faults ⟨⟨kd, bd, pc, wn, sg⟩, recs, er, rd, is, tl⟩ i = [] := by unfold faults; rw [if_neg hrd, if_pos her]
      rw [e1, e2]
      clear e1 e2 hrd HNX0 HNX1
      have her' : ((er : Int) == 0) = true := by rw [her]; rfl
      clear her
      go_enter Tryz.func79, Tryz.ntmps79
      go_upto_region 5 with (first | (go_at_call 125; (with_reducible refine HN1.out.mono ?_); rintro e9 w1 ⟨rfl, hb1⟩) | fail)
      obtain ⟨h2, hb2⟩ := HR.out w1 hb1
      clear r0 r1 r2 r3 r4 r5 r6 r7 r8 r9 p3 hbb f8
      generalize w1.alloc (.cells #[.int .i64 0, .int .i64 0, .string ⟨#[]⟩] 117) = w2 at *
      obtain ⟨hbb, r0, r1, r2, r3, r4, r5, r6, r7, r8, r9⟩ := hcell w2 h2
      have f8 := (sl_free h2.row i hi).2.2 8 (by omega)
      obtain ⟨h3, hu3⟩ := HPK w2 h2 _ rfl 2
      have H3 := Lib.hid h3
      clear h2 h3 HPK hcell
      go_wp2_with fail
      go_ret
      exact ⟨_, .slice none 0 0, rfl, Sl.nil _ _ _, H3.out, (Upd.of_below hb2 (fun q h1 h2 => by omega)).trans hu3 (fun q _ h => by rw [h]; rfl)⟩
    · have e1 : settled ⟨⟨kd, bd, pc, wn, sg⟩, recs, er, rd, is, tl⟩ = ⟨⟨kd, bd, pc, wn, sg⟩, recs, er, rd, 3, tl⟩ := by unfold settled; rw [if_neg hrd, if_neg her]
      have e2 : faults ⟨⟨kd, bd, pc, wn, sg⟩, recs, er, rd, is, tl⟩ i = [.fault i er] := by unfold faults; rw [if_neg hrd, if_neg her]
      rw [e1, e2]
      clear e1 e2 hrd HNX0 HNX1
      have her' : ((er : Int) == 0) = false := by rw [beq_eq_false_iff_ne]; omega
      clear her
      go_enter Tryz.func79, Tryz.ntmps79
      go_upto_region 5 with (first | (go_at_call 125; (with_reducible refine HN1.out.mono ?_); rintro e9 w1 ⟨rfl, hb1⟩) | fail)
      obtain ⟨h2, hb2⟩ := HR.out w1 hb1
      clear r0 r1 r2 r3 r4 r5 r6 r7 r8 r9 p3 hbb f8
      generalize w1.alloc (.cells #[.int .i64 0, .int .i64 0, .string ⟨#[]⟩] 117) = w2 at *
      obtain ⟨hbb, r0, r1, r2, r3, r4, r5, r6, r7, r8, r9⟩ := hcell w2 h2
      have f8 := (sl_free h2.row i hi).2.2 8 (by omega)
      obtain ⟨h3, hu3⟩ := HPK w2 h2 _ rfl 3
      have H3 := Lib.hid h3
      have hc3 := (h3.rowp.cell i (by rw [List.length_set]; exact hil)).2.2.2.2.2.2.2.1
      rw [List.getElem_set_self] at hc3
      simp only at hc3
      clear h2 h3 HPK hcell
      go_wp2_with fail
      go_ret
      have hu4 : Upd (fun q => (Value.slice (some ⟨b, off, none⟩) n c).ownBlock = some q) w _ := (Upd.of_below hb2 (fun q h1 h2 => by omega)).trans hu3 (fun q _ h => by rw [h]; rfl)
      exact ⟨_, _, rfl, evi_row (.fault i er) _ rfl (by simp [World.setCell]) hu4.size, H3.out.on ((Below.refl _ _).alloc (Nat.le_refl _) _), hu4.alloc _⟩

set_option maxHeartbeats 4000000 in
theorem mo_refused (ra : Option Addr) (rn rc : Nat) (a : Option Addr) (n c : Nat) (l : List Pv) (s : St) (i : Int) (w : World) (hr : RowP w a l) (hn : n = l.length) (hl : l.map (·.p) = s.ps) (hok : s.Ok) (o : Bool) (ho : s.refused i = o) :
    Calls Tryz.prog 85 #[.agg #[.slice ra rn rc, .int .i64 s.timeout, .int .i64 s.drift, .slice a n c, .int .i64 s.clock, .int .i64 s.now], .int .i64 i] w fun e w' => e = .returned (.bool o) ∧ Below w.heap.size w w' := by
  have hlen : n = s.ps.length := by rw [hn, ← hl, List.length_map]
  have hn8 := hok.n
  have hb0 : Below w.heap.size w (w.alloc (.cells #[.slice ra rn rc, .int .i64 s.timeout, .int .i64 s.drift, .slice a n c, .int .i64 s.clock, .int .i64 s.now] 70)) := (Below.refl w.heap.size w).alloc (Nat.le_refl _) _
  have HB := Lib.hid hb0
  have hA := At.alloc w [.slice ra rn rc, .int .i64 s.timeout, .int .i64 s.drift, .slice a n c, .int .i64 s.clock, .int .i64 s.now] 70
  by_cases h0 : 0 ≤ i ∧ i < s.ps.length
  · obtain ⟨k, rfl⟩ : ∃ k : Nat, i = k := ⟨i.toNat, by omega⟩
    have hk : k < l.length := by omega
    have hlk : (l[k]).p = pat s.ps k := by
      rw [pat_lt (by omega)]
      simp only [← hl, List.getElem_map]
    have hpk := hok.pt _ (pat_mem (show k < s.ps.length by omega))
    obtain ⟨b, off, rfl, -, -⟩ := hr.row.at_ k hk
    have hr0 := hr.on hb0
    have hcell := hr0.cell k hk
    have hvo := hr0.ok _ (List.getElem_mem hk)
    have hmk : (l[k]).p.mark = kk s.ps k := by rw [hlk]; rfl
    have his : (l[k]).p.is = ss s.ps k := by rw [hlk]; rfl
    rw [← hlk] at hpk
    have hro : s.refused (k : Nat) = (decide (1 < ss s.ps k) || decide (add s.now s.drift < kk s.ps k)) := by
      unfold St.refused
      rw [decide_eq_false (show ¬ ¬ (0 ≤ (k : Int) ∧ (k : Int) < s.ps.length) by omega), Bool.false_or, Int.toNat_natCast]
    rw [hro, ← hmk, ← his] at ho
    have HAD := fun w' => Lib.hid (sat_add s.now s.drift w' hok.nw (by have h1 : 0 ≤ s.drift ∧ s.drift ≤ 9223372036854775807 := hok.dr; omega))
    have HOV := fun (o : Bool) (ho : decide (1 < (l[k]).p.is) = o) w' => Lib.hid (ho ▸ mo_over l[k] w' hpk.lo hpk.hi)
    have HMK := fun w' (h : PvOk w' l[k]) => Lib.hid (mo_mark l[k] w' h hpk _ rfl)
    have hkl : (k : Int) < (n : Int) := by omega
    clear hr hok hro hlk hmk his hpk hl hn hlen h0
    generalize l[k] = v at *
    obtain ⟨⟨⟨kd, bd, pc, wn, sg⟩, recs, er, rd, is, tl⟩, av, cv⟩ := v
    simp only [Pv.val] at HOV HMK hcell ho
    obtain ⟨hbb, r0, r1, r2, r3, r4, r5, r6, r7, r8, r9⟩ := hcell
    generalize (Pt.mark ⟨⟨kd, bd, pc, wn, sg⟩, recs, er, rd, is, tl⟩) = mk at *
    generalize add s.now s.drift = lim at *
    go_enter Tryz.func85, Tryz.ntmps85
    go_upto_region 1 with fail
    generalize w.alloc (.cells #[.slice ra rn rc, .int .i64 s.timeout, .int .i64 s.drift, .slice (some ⟨b, off, none⟩) n c, .int .i64 s.clock, .int .i64 s.now] 70) = w1 at *
    have hP := At.alloc w1 [.int .i64 kd, .int .i64 bd, .int .i64 pc, .int .i64 wn, .int .i64 sg, .slice av recs.length cv, .int .i64 er, .int .i64 rd, .int .i64 is, .int .i64 tl] 141
    have hbP := (Below.refl w1.heap.size w1).alloc (Nat.le_refl _) (.cells #[.int .i64 kd, .int .i64 bd, .int .i64 pc, .int .i64 wn, .int .i64 sg, .slice av recs.length cv, .int .i64 er, .int .i64 rd, .int .i64 is, .int .i64 tl] 141)
    have hvo2 := (hvo.on hbP).on (Below.refl _ _).drew
    have hA2 := (hA.on hbP).drew
    obtain ⟨-, s0, -, s1, -, s2, -, s3, -, s4, -, s5, -⟩ := hA.cells6
    go_upto_region 4 with fail
    have hP2 := hP.drew
    have hB2 := Lib.hid (on_below HB.out (on_below hbP (Below.refl _ _).drew))
    clear s0 s1 s2 s3 s4 s5 r0 r1 r2 r3 r4 r5 r6 r7 r8 r9 hbb hA hP hr0 hvo
    generalize w1.alloc (.cells #[.int .i64 kd, .int .i64 bd, .int .i64 pc, .int .i64 wn, .int .i64 sg, .slice av recs.length cv, .int .i64 er, .int .i64 rd, .int .i64 is, .int .i64 tl] 141) = w2 at *
    obtain ⟨-, q0, -, q1, -, q2, -, q3, -, q4, -, q5, -, q6, -, q7, -, q8, -, q9, -⟩ := hP2.ten
    by_cases h1 : 1 < is
    · rw [decide_eq_true h1, Bool.true_or] at ho
      subst ho
      have HOV1 := HOV true (decide_eq_true h1)
      clear HOV HMK HAD hkl hA2 hP2
      refine wp_region_any (by kernel_rfl) ?_
      change wpAny _ _ _ _ _ _ _ (World.drew _)
      refine wpAny_ready (rs := [0]) (by kernel_rfl) (by simp) ?_
      refine AllReady.cons rfl (fun K hK => ?_) AllReady.nil
      go_simp
      refine hK _ _ ?_
      clear hK K
      refine wpAny_ready (rs := [1]) (by kernel_rfl) (by simp) ?_
      refine AllReady.cons rfl (fun K hK => ?_) AllReady.nil
      go_simp
      go_wp2_with (first | (go_at_call 128; (with_reducible refine (HOV1 _).out.mono ?_); rintro e3 w3 ⟨rfl, hb3⟩) | fail)
      refine wpAny_ready (rs := [2]) (by kernel_rfl) (by simp) ?_
      refine AllReady.cons rfl (fun K hK => ?_) AllReady.nil
      go_simp
      refine hK _ _ ?_
      clear hK K
      refine wpAny_take (i := 3) (v := undef) rfl (by kernel_rfl) (by kernel_rfl) (by kernel_rfl) (fun _ _ _ h => h) (Or.inr ⟨by kernel_rfl, rfl⟩) ?_
      refine wpAny_take (i := 4) (v := undef) rfl (by kernel_rfl) (by kernel_rfl) (by kernel_rfl) (fun _ _ _ h => h) (Or.inr ⟨by kernel_rfl, rfl⟩) ?_
      refine wpAny_take (i := 5) (v := undef) rfl (by kernel_rfl) (by kernel_rfl) (by kernel_rfl) (fun _ _ _ h => h) (Or.inr ⟨by kernel_rfl, rfl⟩) ?_
      refine wpAny_take (i := 6) (v := undef) rfl (by kernel_rfl) (by kernel_rfl) (by kernel_rfl) (fun _ _ _ h => h) (Or.inr ⟨by kernel_rfl, rfl⟩) ?_
      refine wpAny_take (i := 7) (v := undef) rfl (by kernel_rfl) (by kernel_rfl) (by kernel_rfl) (fun _ _ _ h => h) (Or.inr ⟨by kernel_rfl, rfl⟩) ?_
      refine wpAny_take (i := 8) (v := undef) rfl (by kernel_rfl) (by kernel_rfl) (by kernel_rfl) (fun _ _ _ h => h) (Or.inr ⟨by kernel_rfl, rfl⟩) ?_
      refine wpAny_take (i := 9) (v := undef) rfl (by kernel_rfl) (by kernel_rfl) (by kernel_rfl) (fun _ _ _ h => h) (Or.inr ⟨by kernel_rfl, rfl⟩) ?_
      refine wpAny_take (i := 10) (v := undef) rfl (by kernel_rfl) (by kernel_rfl) (by kernel_rfl) (fun _ _ _ h => h) (Or.inr ⟨by kernel_rfl, rfl⟩) ?_
      refine wpAny_take (i := 11) (v := undef) rfl (by kernel_rfl) (by kernel_rfl) (by kernel_rfl) (fun _ _ _ h => h) (Or.inr ⟨by kernel_rfl, rfl⟩) ?_
      refine wpAny_ready (rs := [12]) (by kernel_rfl) (by simp) ?_
      refine AllReady.cons rfl (fun K hK => ?_) AllReady.nil
      go_simp
      refine hK _ _ ?_
      clear hK K
      refine wpAny_ready (rs := [13]) (by kernel_rfl) (by simp) ?_
      refine AllReady.cons rfl (fun K hK => ?_) AllReady.nil
      go_simp
      refine hK _ _ ?_
      clear hK K
      refine wpAny_done (by kernel_rfl) ?_ _
      go_wp2_with fail
      go_ret
      exact ⟨rfl, on_below hB2.out hb3⟩
    · have HOV1 := HOV false (decide_eq_false h1)
      rw [decide_eq_false h1, Bool.false_or] at ho
      clear HOV hkl h1
      have HF : ∀ wx, Below w2.drew.heap.size w2.drew wx → wx.cell? ⟨w1.heap.size, 0, none⟩ = some (.int .i64 kd) ∧ wx.cell? ⟨w1.heap.size, 1, none⟩ = some (.int .i64 bd) ∧ wx.cell? ⟨w1.heap.size, 2, none⟩ = some (.int .i64 pc) ∧ wx.cell? ⟨w1.heap.size, 3, none⟩ = some (.int .i64 wn) ∧ wx.cell? ⟨w1.heap.size, 4, none⟩ = some (.int .i64 sg) ∧ wx.cell? ⟨w1.heap.size, 5, none⟩ = some (.slice av recs.length cv) ∧ wx.cell? ⟨w1.heap.size, 6, none⟩ = some (.int .i64 er) ∧ wx.cell? ⟨w1.heap.size, 7, none⟩ = some (.int .i64 rd) ∧ wx.cell? ⟨w1.heap.size, 8, none⟩ = some (.int .i64 is) ∧ wx.cell? ⟨w1.heap.size, 9, none⟩ = some (.int .i64 tl) ∧ wx.cell? ⟨w.heap.size, 2, none⟩ = some (.int .i64 s.drift) ∧ wx.cell? ⟨w.heap.size, 5, none⟩ = some (.int .i64 s.now) := fun wx hx => by
        obtain ⟨-, t0, -, t1, -, t2, -, t3, -, t4, -, t5, -, t6, -, t7, -, t8, -, t9, -⟩ := (hP2.on hx).ten
        obtain ⟨-, s0, -, s1, -, s2, -, s3, -, s4, -, s5, -⟩ := (hA2.on hx).cells6
        exact ⟨t0, t1, t2, t3, t4, t5, t6, t7, t8, t9, s2, s5⟩
      have HMK1 := fun wx (hx : Below w2.drew.heap.size w2.drew wx) => HMK wx (hvo2.on hx)
      clear HMK hvo2 hA2 hP2
      go_region_held3 (fun wx => wx.cell? ⟨w1.heap.size, 0, none⟩ = some (.int .i64 kd) ∧ wx.cell? ⟨w1.heap.size, 1, none⟩ = some (.int .i64 bd) ∧ wx.cell? ⟨w1.heap.size, 2, none⟩ = some (.int .i64 pc) ∧ wx.cell? ⟨w1.heap.size, 3, none⟩ = some (.int .i64 wn) ∧ wx.cell? ⟨w1.heap.size, 4, none⟩ = some (.int .i64 sg) ∧ wx.cell? ⟨w1.heap.size, 5, none⟩ = some (.slice av recs.length cv) ∧ wx.cell? ⟨w1.heap.size, 6, none⟩ = some (.int .i64 er) ∧ wx.cell? ⟨w1.heap.size, 7, none⟩ = some (.int .i64 rd) ∧ wx.cell? ⟨w1.heap.size, 8, none⟩ = some (.int .i64 is) ∧ wx.cell? ⟨w1.heap.size, 9, none⟩ = some (.int .i64 tl) ∧ wx.cell? ⟨w.heap.size, 2, none⟩ = some (.int .i64 s.drift) ∧ wx.cell? ⟨w.heap.size, 5, none⟩ = some (.int .i64 s.now))
        (first | (with_reducible exact HF _ (Below.refl _ _)) | (with_reducible exact HF _ hb3) | (with_reducible exact HF _ hb34) | fail)
        (first | (go_at_call 128; (with_reducible refine (HOV1 _).out.mono ?_); rintro e3 w3 ⟨rfl, hb3⟩) | (go_at_call 84; (with_reducible refine (HMK1 _ hb3).out.mono ?_); rintro e4 w4 ⟨rfl, hb4⟩; have hb34 := on_below hb3 hb4) | (go_at_call 124; (with_reducible refine (HAD _).out.mono ?_); rintro e5 w5 ⟨rfl, rfl⟩) | fail)
      all_goals (go_wp2_with fail; go_ret)
      all_goals exact ⟨rfl, on_below hB2.out hb34⟩
  · have hro : s.refused i = true := by unfold St.refused; rw [decide_eq_true h0, Bool.true_or, Bool.true_or]
    rw [hro] at ho
    subst ho
    rw [← hlen] at h0
    clear hr hok hlen hro hl hn hA
    by_cases h1 : i < 0
    · clear h0
      go_enter Tryz.func85, Tryz.ntmps85
      go_wp2
      go_ret
      exact ⟨rfl, HB.out⟩
    · have h1' : 0 ≤ i := by omega
      have h2 : (n : Int) ≤ i := by omega
      clear h0 h1
      go_enter Tryz.func85, Tryz.ntmps85
      go_wp2
      go_ret
      exact ⟨rfl, HB.out⟩
end Go.Proofs.YtoecikeleoaecaaGreat
