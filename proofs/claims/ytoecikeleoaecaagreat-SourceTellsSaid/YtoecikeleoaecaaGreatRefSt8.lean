/- The document's own answers of layer 23: a choice, and its events. -/
import Derived.Test.YtoecikeleoaecaaGreatRefSt7
namespace Go.Proofs.YtoecikeleoaecaaGreat
set_option maxRecDepth 4000
open Go.ChangeShapes Go.WideShapes Go.ChangeAt Go.RowKit
open PHist PRing PSat PClamp PBound PFrame PSign PTree PEv
set_option linter.unusedVariables false
set_option linter.unusedSimpArgs false

set_option maxHeartbeats 4000000 in
theorem ref_do_poll (K : Option Addr → Nat → List R → Prop) (a : Option Addr) (n c : Nat) (l : List Pv) (s s2 : St) (es : List Ev) (x : Int) (w : World) (hr : RowP w a l) (hl : l.map (·.p) = s.ps) (hs2 : s2.ps.length = s.ps.length)
    (HP : ∀ w1, Below w.heap.size w w1 → Calls Tryz.prog 59 #[.agg #[.slice a n c, .int .i64 s.timeout, .int .i64 s.drift, .int .i64 s.clock, .int .i64 s.now], .int .i64 x] w1 (DoR K a s2 es w1)) :
    Calls Tryz.prog 20 #[.agg #[.slice a n c, .int .i64 s.timeout, .int .i64 s.drift, .int .i64 s.clock, .int .i64 s.now], .agg #[.bool false, .int .i64 x]] w (DoR K a s2 es w) := by
  have hA0 := At.alloc w [.slice a n c, .int .i64 s.timeout, .int .i64 s.drift, .int .i64 s.clock, .int .i64 s.now] 37
  have hA1 := At.alloc (w.alloc (.cells #[.slice a n c, .int .i64 s.timeout, .int .i64 s.drift, .int .i64 s.clock, .int .i64 s.now] 37)) [.bool false, .int .i64 x] 48
  have hA2 := At.alloc ((w.alloc (.cells #[.slice a n c, .int .i64 s.timeout, .int .i64 s.drift, .int .i64 s.clock, .int .i64 s.now] 37)).alloc (.cells #[.bool false, .int .i64 x] 48)) [.slice none 0 0, .int .i64 0, .int .i64 0, .int .i64 0, .int .i64 0] 37
  simp only [World.size_alloc] at hA1 hA2
  have e := fun (w : World) (o : Obj) => (Below.refl w.heap.size w).alloc (Nat.le_refl _) o
  have hA0' := (hA0.on (e _ (.cells #[.bool false, .int .i64 x] 48))).on (e _ (.cells #[.slice none 0 0, .int .i64 0, .int .i64 0, .int .i64 0, .int .i64 0] 37))
  have hA1' := hA1.on (e _ (.cells #[.slice none 0 0, .int .i64 0, .int .i64 0, .int .i64 0, .int .i64 0] 37))
  have hB0 : Below w.heap.size w (((w.alloc (.cells #[.slice a n c, .int .i64 s.timeout, .int .i64 s.drift, .int .i64 s.clock, .int .i64 s.now] 37)).alloc (.cells #[.bool false, .int .i64 x] 48)).alloc (.cells #[.slice none 0 0, .int .i64 0, .int .i64 0, .int .i64 0, .int .i64 0] 37)) := on_below (on_below (e _ _) (e _ _)) (e _ _)
  have HR := Lib.hid (HP _ hB0)
  have HLN : Hid (s2.ps.length = l.length) := by show _ = _; rw [hs2, ← hl, List.length_map]
  have HRB : Hid (∀ p, a = some p → 0 < l.length → p.block < w.heap.size) := fun p hp h0 => by
    obtain ⟨b, off, hab, hb, -⟩ := hr.row.at_ 0 h0
    rw [hab] at hp; cases hp
    exact hb
  clear hr hl hs2 HP hA0 hA1 e
  go_enter Tryz.func20, Tryz.ntmps20
  go_upto_region 1 with fail
  generalize ((w.alloc (.cells #[.slice a n c, .int .i64 s.timeout, .int .i64 s.drift, .int .i64 s.clock, .int .i64 s.now] 37)).alloc (.cells #[.bool false, .int .i64 x] 48)).alloc (.cells #[.slice none 0 0, .int .i64 0, .int .i64 0, .int .i64 0, .int .i64 0] 37) = w1 at *
  obtain ⟨hg0, c0, z0, c1, z1, c2, z2, c3, z3, c4, z4⟩ := hA0'.five
  obtain ⟨hg1, d0, y0, d1, y1⟩ := hA1'.two
  go_wp2_with (first | (go_at_call 59; (with_reducible refine HR.out.mono ?_); intro e w2 hY; obtain ⟨a2, k2, l2, r2, rfl, q1, q2, q3, q4, q5, q6⟩ := hY; have hAz2 := hA2.on q5; obtain ⟨hg2, e0, f0, e1, f1, e2, f2, e3, f3, e4, f4⟩ := hAz2.five; have hT := Lib.hid (fun x0 x1 x2 x3 x4 => At.all5 hAz2 x0 x1 x2 x3 x4); have hBo := Lib.hid (fun x0 x1 x2 x3 x4 => upd_all5 w2 (w.heap.size + 1 + 1) x0 x1 x2 x3 x4); clear hAz2))
  refine bodyPost_ret (results_at2 (fn := Tryz.f20) rfl _ rfl (hT.out _ _ _ _ _) Tryz.underlying37 rfl (by kernel_rfl)) rfl ?_
  have hu := hBo.out (.slice a2 s2.ps.length k2) (.int .i64 s2.timeout) (.int .i64 s2.drift) (.int .i64 s2.clock) (.int .i64 s2.now)
  have hwz := hA2.1
  have hb2 := on_below hB0 q5
  refine ⟨a2, k2, l2, r2, rfl, RowG.keep q1 hu (fun p hp h0 h => ?_), q2, q3, (q4.base hB0.size).upd hu (fun k hk h => ?_), hb2.upd hu hb2.size (fun k _ h => by have h' : k = w.heap.size + 1 + 1 := h; omega), ?_⟩
  · have h' : p.block = w.heap.size + 1 + 1 := h
    have hl2 : l2.length = s2.ps.length := by have := congrArg List.length q3; rw [List.length_map] at this; omega
    rcases q6 with rfl | h6
    · have := HRB.out p hp (by have := HLN.out; omega)
      omega
    · have := h6 p hp
      omega
  · have h' : k = w.heap.size + 1 + 1 := h
    have := (q4.lt k hk).1
    omega
  · exact q6.imp id fun h6 p hp => Nat.le_trans hB0.size (h6 p hp)
set_option maxHeartbeats 4000000 in
theorem ref_do_vain (K : Option Addr → Nat → List R → Prop) (a : Option Addr) (n c : Nat) (l : List Pv) (s : St) (x : Int) (w : World) (hr : RowP w a l) (hn : n = l.length) (hl : l.map (·.p) = s.ps) (h0 : ∀ v ∈ l, K v.a v.c v.p.recs) (hx : x < 0) :
    Calls Tryz.prog 20 #[.agg #[.slice a n c, .int .i64 s.timeout, .int .i64 s.drift, .int .i64 s.clock, .int .i64 s.now], .agg #[.bool true, .int .i64 x]] w (DoR K a s [] w) := by
  have hA0 := At.alloc w [.slice a n c, .int .i64 s.timeout, .int .i64 s.drift, .int .i64 s.clock, .int .i64 s.now] 37
  have hA1 := At.alloc (w.alloc (.cells #[.slice a n c, .int .i64 s.timeout, .int .i64 s.drift, .int .i64 s.clock, .int .i64 s.now] 37)) [.bool true, .int .i64 x] 48
  have hA2 := At.alloc ((w.alloc (.cells #[.slice a n c, .int .i64 s.timeout, .int .i64 s.drift, .int .i64 s.clock, .int .i64 s.now] 37)).alloc (.cells #[.bool true, .int .i64 x] 48)) [.slice none 0 0, .int .i64 0, .int .i64 0, .int .i64 0, .int .i64 0] 37
  simp only [World.size_alloc] at hA1 hA2
  have e := fun (w : World) (o : Obj) => (Below.refl w.heap.size w).alloc (Nat.le_refl _) o
  have hA0' := (hA0.on (e _ (.cells #[.bool true, .int .i64 x] 48))).on (e _ (.cells #[.slice none 0 0, .int .i64 0, .int .i64 0, .int .i64 0, .int .i64 0] 37))
  have hA1' := hA1.on (e _ (.cells #[.slice none 0 0, .int .i64 0, .int .i64 0, .int .i64 0, .int .i64 0] 37))
  have hB0 : Below w.heap.size w (((w.alloc (.cells #[.slice a n c, .int .i64 s.timeout, .int .i64 s.drift, .int .i64 s.clock, .int .i64 s.now] 37)).alloc (.cells #[.bool true, .int .i64 x] 48)).alloc (.cells #[.slice none 0 0, .int .i64 0, .int .i64 0, .int .i64 0, .int .i64 0] 37)) := on_below (on_below (e _ _) (e _ _)) (e _ _)
  have HLE : Hid (n = s.ps.length) := by show _ = _; rw [hn, ← hl, List.length_map]
  have HR := Lib.hid hr
  have HL := Lib.hid hl
  have H0 := Lib.hid h0
  clear hr hl hn h0 hA0 hA1 e
  go_enter Tryz.func20, Tryz.ntmps20
  go_upto_region 1 with fail
  generalize ((w.alloc (.cells #[.slice a n c, .int .i64 s.timeout, .int .i64 s.drift, .int .i64 s.clock, .int .i64 s.now] 37)).alloc (.cells #[.bool true, .int .i64 x] 48)).alloc (.cells #[.slice none 0 0, .int .i64 0, .int .i64 0, .int .i64 0, .int .i64 0] 37) = w1 at *
  obtain ⟨hg0, c0, z0, c1, z1, c2, z2, c3, z3, c4, z4⟩ := hA0'.five
  obtain ⟨hg1, d0, y0, d1, y1⟩ := hA1'.two
  obtain ⟨hg2, e0, f0, e1, f1, e2, f2, e3, f3, e4, f4⟩ := hA2.five
  have hT := Lib.hid (fun x0 x1 x2 x3 x4 => At.all5 hA2 x0 x1 x2 x3 x4)
  have hBo := Lib.hid (fun x0 x1 x2 x3 x4 => Below.all5 hB0 (g := w.heap.size + 1 + 1) (by omega) x0 x1 x2 x3 x4)
  clear hA0' hA1' hA2 hB0
  go_wp2_with fail
  refine bodyPost_ret (results_at2 (fn := Tryz.f20) rfl _ rfl (hT.out _ _ _ _ _) Tryz.underlying37 rfl (by kernel_rfl)) rfl ?_
  rw [HLE.out]
  exact ⟨a, c, l, .slice none 0 0, rfl, HR.out.row.below (hBo.out _ _ _ _ _), H0.out, HL.out, Sl.nil _ _ _, hBo.out _ _ _ _ _, .inl rfl⟩
theorem ref_do (K : Option Addr → Nat → List R → Prop) (a : Option Addr) (n c : Nat) (l : List Pv) (s : St) (t : Bool) (x : Int) (w : World) (hr : RowP w a l) (hn : n = l.length) (hl : l.map (·.p) = s.ps) (h0 : ∀ v ∈ l, K v.a v.c v.p.recs) (hok : s.Ok) (hx : in64 x) :
    Calls Tryz.prog 20 #[.agg #[.slice a n c, .int .i64 s.timeout, .int .i64 s.drift, .int .i64 s.clock, .int .i64 s.now], .agg #[.bool t, .int .i64 x]] w (DoR K a (s.doS (t, x)) (s.doE (t, x)) w) := by
  cases t
  · refine ref_do_poll K a n c l s _ _ x w hr hl (doS_len s (false, x)) fun w1 hb => ?_
    cases hv : s.refused x
    · obtain ⟨k, rfl⟩ : ∃ k : Nat, x = k := ⟨x.toNat, by have := (refused_not hv).1; omega⟩
      rw [show s.doS (false, (k : Int)) = s.pollS k by show (if s.refused k = true then s else s.pollS (k : Int).toNat) = _; rw [if_neg (by rw [hv]; exact Bool.false_ne_true), Int.toNat_natCast], show s.doE (false, (k : Int)) = s.pollE k by show (if s.refused k = true then [] else s.pollE (k : Int).toNat) = _; rw [if_neg (by rw [hv]; exact Bool.false_ne_true), Int.toNat_natCast]]
      exact ref_poll K a n c l s k w1 (hr.on hb) hn hl h0 hok hv
    · rw [show s.doS (false, x) = s from if_pos hv, show s.doE (false, x) = [] from if_pos hv]
      exact ref_poll_no K a n c l s x w1 (hr.on hb) hn hl h0 hok hv
  · by_cases h : x < 0
    · rw [show s.doS (true, x) = s from if_pos h, show s.doE (true, x) = [] from if_pos h]
      exact ref_do_vain K a n c l s x w hr hn hl h0 h
    · rw [show s.doS (true, x) = s.tickS x from if_neg h, show s.doE (true, x) = s.tickE x from if_neg h]
      exact ref_tick K a n c l s x w hr hn hl h0 hok (by omega) hx.2
end Go.Proofs.YtoecikeleoaecaaGreat
