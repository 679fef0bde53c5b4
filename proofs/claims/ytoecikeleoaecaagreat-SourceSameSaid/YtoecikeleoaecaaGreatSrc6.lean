/- Contracts of source's calls: Do. -/
import Derived.Test.YtoecikeleoaecaaGreatSrcSt
namespace Go.Proofs.YtoecikeleoaecaaGreat
set_option maxRecDepth 4000
open Go.ChangeShapes Go.WideShapes Go.ChangeAt Go.RowKit
open PHist PRing PSat PClamp PBound PFrame PVar PCrc PSign PTree PEv
set_option linter.unusedVariables false
set_option linter.unusedSimpArgs false

theorem so_tick_st (tag : Nat → Nat) (W : Nat → Nat → Prop) (ev : Value) (V : SrcV) (g : Nat) (s : St) (evs : List Ev) (beg : Nat) (n : Int) (w : World) (h : SrcC w tag W ev V g (loOf s evs beg)) (hok : s.Ok) (hn : in64 n) (hb : evs.length ≤ 90000) :
    Calls Tryz.prog 62 #[.pointer (some ⟨g, 0, none⟩), .int .i64 n] w fun e w' => e = .returned (.tuple #[]) ∧ SrPost tag V g (loOf (s.doS (true, n)) (evs ++ s.doE (true, n)) beg) w w' := by
  unfold St.doS St.doE
  simp only [if_true]
  by_cases h0 : n < 0
  · rw [if_pos h0, if_pos h0, List.append_nil]
    exact so_tick_none tag W ev V g _ n w h h0
  · rw [if_neg h0, if_neg h0, ← lo_tick]
    refine so_tick tag W ev V g _ n w h (Nat.le_refl _) (by omega) hok.ck hn (fun c => ?_) (by show evs.length ≤ 100000; omega)
    rw [iter_wait]
    exact ml_in fun i hi => mark_in (hok.pt _ (pat_mem hi))
theorem so_poll_st (tag : Nat → Nat) (W : Nat → Nat → Prop) (ev : Value) (V : SrcV) (g : Nat) (s : St) (evs : List Ev) (beg : Nat) (n : Int) (w : World) (h : SrcC w tag W ev V g (loOf s evs beg)) (hok : s.Ok) (hb : evs.length ≤ 90000) :
    Calls Tryz.prog 63 #[.pointer (some ⟨g, 0, none⟩), .int .i64 n] w fun e w' => e = .returned (.tuple #[]) ∧ SrPost tag V g (loOf (s.doS (false, n)) (evs ++ s.doE (false, n)) beg) w w' := by
  have hs : ∀ j, j < (loOf s evs beg).n → 0 ≤ (loOf s evs beg).is j ∧ (loOf s evs beg).is j ≤ 3 := fun j hj => ⟨(hok.pt _ (pat_mem hj)).lo, (hok.pt _ (pat_mem hj)).hi⟩
  unfold St.doS St.doE
  simp only [Bool.false_eq_true, if_false]
  cases hr : s.refused n
  · rw [if_neg (by simp), if_neg (by simp)]
    obtain ⟨h1, h2, h3, h4⟩ := refused_not hr
    have hrd := refused_read hok hr
    obtain ⟨i, rfl⟩ : ∃ i : Nat, n = i := ⟨n.toNat, by omega⟩
    rw [Int.toNat_natCast] at *
    have hp := hok.pt _ (pat_mem h2)
    rw [← lo_poll s evs beg i h2 hrd (by have := hok.tm; omega)]
    have htm : in64 s.timeout := by have := hok.tm; unfold in64; omega
    refine so_poll tag W ev V g _ i w h (Nat.le_refl _) hs hr hrd hp.few hp.chk hp.fit (hp.inr.take _) ?_ ?_ hok.ck htm ?_ hb
    · show ((pat s.ps i).recs.take _).length ≤ 400
      rw [List.length_take]; have := hp.few; omega
    · show in64 ((pat s.ps i).recs.getD (pat s.ps i).read zr).1 ∧ in64 ((pat s.ps i).recs.getD (pat s.ps i).read zr).2.1
      rw [List.getD_eq_getElem?_getD, List.getElem?_eq_getElem hrd]
      exact okR_in (hp.okr _ (List.getElem_mem hrd))
    · rw [lo_settled s evs beg i h2 hrd (by have := hok.tm; omega)]
      have hk := (St.Ok.poll hok h2 hrd).pt
      have hl : s.ps.length = (s.polled i).length := by unfold St.polled; rw [List.length_set]
      show in64 (ml (kk (s.polled i)) (ss (s.polled i)) s.ps.length)
      rw [hl]
      exact least_in hk
  · rw [if_pos rfl, if_pos rfl, List.append_nil]
    exact so_poll_none tag W ev V g _ n w h (Nat.le_refl _) hs hr

/-- What Do answers: what comes out by it, in a row of the caller's own. -/
def DoPost (tag : Nat → Nat) (V : SrcV) (g : Nat) (x : Lo) (l : List Ev) (w : World) (e : Ending) (w' : World) : Prop :=
  ∃ v tag' W' ev', e = .returned v ∧ Sl w.heap.size w' 1 v l.length (l.map evv) ∧ SrcC w' tag' W' ev' V g x ∧ Upd (fun b => tag b ≠ 0) w w' ∧ (∀ b, tag' b ≠ 0 → tag b ≠ 0 ∨ w.heap.size ≤ b) ∧ ∀ b, v.ownBlock = some b → tag' b = 0
theorem DoPost.un {tag : Nat → Nat} {V : SrcV} {g : Nat} {x : Lo} {l : List Ev} {w w' : World} {e : Ending} (h : DoPost (retag tag w.heap.size 0) V g x l w e w') : DoPost tag V g x l w e w' := by
  obtain ⟨v, tag', W', ev', h1, h2, h3, h4, h5, h6⟩ := h
  refine ⟨v, tag', W', ev', h1, h2, h3, h4.mono (fun k hk h => by rw [retag_old hk] at h; exact h), fun k hk => ?_, h6⟩
  rcases h5 k hk with h | h
  · rcases Nat.lt_or_ge k w.heap.size with hlt | hge
    · rw [retag_old hlt] at h; exact .inl h
    · exact .inr hge
  · exact .inr h
/-- A row made behind what a call made. -/
theorem SrPost.row {tag : Nat → Nat} {V : SrcV} {g : Nat} {x : Lo} {w a b : World} {tag' : Nat → Nat} {W' : Nat → Nat → Prop} {ev' v : Value} {l : List Ev} (hS : SrcC a tag' W' ev' V g x) (hu : Upd (fun b => tag b ≠ 0) w a) (ht : ∀ b, tag' b ≠ 0 → tag b ≠ 0 ∨ w.heap.size ≤ b)
    (q1 : Sl a.heap.size b 1 v l.length (l.map evv)) (q2 : Below a.heap.size a b) : DoPost tag V g x l w (.returned v) b := by
  refine ⟨v, Go.Proofs.YtoecikeleoaecaaGreat.retag tag' a.heap.size 0, W', ev', rfl, q1.base hu.size, (hS.retag 0).on q2, hu.trans (Upd.of_below (S := fun k => a.heap.size ≤ k) q2 (fun _ _ h => h)) (fun i hi h => by have := hu.size; omega), fun k hk => ?_, fun k hk => retag_new (q1.lt k hk).1⟩
  rcases Nat.lt_or_ge k a.heap.size with hlt | hge
  · rw [retag_old hlt] at hk; exact ht k hk
  · rw [retag_new hge] at hk; exact absurd rfl hk

set_option maxHeartbeats 2000000 in
theorem so_do0 (tag : Nat → Nat) (W : Nat → Nat → Prop) (ev : Value) (V : SrcV) (g : Nat) (s : St) (evs : List Ev) (beg : Nat) (t : Bool) (n : Int) (w : World) (h : SrcC w tag W ev V g (loOf s evs beg)) (h0 : ∀ b, w.heap.size ≤ b → tag b = 0) (hok : s.Ok) (hn : in64 n) (hb : evs.length ≤ 90000) :
    Calls Tryz.prog 21 #[.pointer (some ⟨g, 0, none⟩), .agg #[.bool t, .int .i64 n]] w (DoPost tag V g (loOf (s.doS (t, n)) (evs ++ s.doE (t, n)) beg) (s.doE (t, n)) w) := by
  have hA := At.alloc w [.bool t, .int .i64 n] 48
  have hb0 : Below w.heap.size w (w.alloc (.cells #[.bool t, .int .i64 n] 48)) := (Below.refl _ _).alloc (Nat.le_refl _) _
  have hS0 := h.on hb0
  have HT := fun w' h => Lib.hid (so_tick_st tag W ev V g s evs beg n w' h hok hn hb)
  have HP := fun w' h => Lib.hid (so_poll_st tag W ev V g s evs beg n w' h hok hb)
  have HH := Lib.hid h
  have HX : Hid (∀ l : List Ev, ((evs ++ l).map evv).drop (evs.length * 1) = l.map evv) := by
    intro l
    rw [Nat.mul_one, List.map_append, List.drop_append_of_le_length (by rw [List.length_map]; exact Nat.le_refl _), List.drop_of_length_le (by rw [List.length_map]; exact Nat.le_refl _), List.nil_append]
  have HML : Hid (∀ (l : List Ev) (m3 : Nat), m3 = (evs ++ l).length - evs.length → m3 = l.length) := by
    intro l m3 h; rw [h, List.length_append]; omega
  have hN := h0 _ (Nat.le_refl w.heap.size)
  have HU0 : Hid (Upd (fun k => tag k ≠ 0) w (w.alloc (.cells #[.bool t, .int .i64 n] 48))) := (Upd.refl _ _).alloc _
  clear h h0 hok hn
  obtain ⟨hg, c0, z0, c1, z1, c2, z2, c3, z3, c4, z4, c5, z5⟩ := HH.out.blk.cells6
  obtain ⟨ae, ce, hev⟩ := HH.out.evr.shape
  rw [hev] at c4
  clear hev
  cases t
  · have hdl := doE_len s (false, n)
    generalize s.doS (false, n) = s' at *
    generalize s.doE (false, n) = l at *
    have hel : (loOf s evs beg).evs.length = evs.length := rfl
    rw [hel] at c4
    clear hel
    go_enter Tryz.func21, Tryz.ntmps21
    go_wp2_with (first | (go_at_call 63; (with_reducible refine (HP _ hS0).out.mono ?_); rintro e w2 ⟨rfl, tag2, W2, ev2, hS2, hu2, ht2⟩; obtain ⟨hg2, f0, x0, f1, x1, f2, x2, f3, x3, f4, x4, f5, x5⟩ := hS2.blk.cells6; have hE2 : Sl 0 w2 1 ev2 (evs ++ l).length ((evs ++ l).map evv) := hS2.evr; obtain ⟨a3, m3, c3', hm3, hrun, hsrc, hnil⟩ := sl_from_n hE2 (P := Tryz.prog) Tryz.underlying41 (by intro w; kernel_rfl) evs.length evs.length rfl (by show evs.length ≤ (evs ++ l).length; rw [List.length_append]; omega) (evv_one _); have hx := HX.out l; have hml := HML.out l m3 hm3; clear hm3; subst hml; rw [hx] at hsrc; have HC := Lib.hid (cl_ev a3 _ c3' (l.map evv) w2 (fun w' hw => hsrc w' (hE2.onW hw)) (fun e => by have h1 := hnil e; refine ⟨h1, ?_⟩; rw [List.eq_nil_of_length_eq_zero h1]; rfl) (by omega))) | (go_at_call 58; (with_reducible refine HC.out.mono ?_); rintro e w3 ⟨v, rfl, q1, q2⟩))
    go_ret
    have hu := HU0.out.trans hu2 (fun _ _ h => h)
    exact SrPost.row hS2 hu (fun b hb => by
      rcases ht2 b hb with h | h
      · exact .inl h
      · right; have : w.heap.size ≤ (w.alloc (.cells #[.bool false, .int .i64 n] 48)).heap.size := by simp
        omega) q1 q2
  · have hdl := doE_len s (true, n)
    generalize s.doS (true, n) = s' at *
    generalize s.doE (true, n) = l at *
    have hel : (loOf s evs beg).evs.length = evs.length := rfl
    rw [hel] at c4
    clear hel
    go_enter Tryz.func21, Tryz.ntmps21
    go_wp2_with (first | (go_at_call 62; (with_reducible refine (HT _ hS0).out.mono ?_); rintro e w2 ⟨rfl, tag2, W2, ev2, hS2, hu2, ht2⟩; obtain ⟨hg2, f0, x0, f1, x1, f2, x2, f3, x3, f4, x4, f5, x5⟩ := hS2.blk.cells6; have hE2 : Sl 0 w2 1 ev2 (evs ++ l).length ((evs ++ l).map evv) := hS2.evr; obtain ⟨a3, m3, c3', hm3, hrun, hsrc, hnil⟩ := sl_from_n hE2 (P := Tryz.prog) Tryz.underlying41 (by intro w; kernel_rfl) evs.length evs.length rfl (by show evs.length ≤ (evs ++ l).length; rw [List.length_append]; omega) (evv_one _); have hx := HX.out l; have hml := HML.out l m3 hm3; clear hm3; subst hml; rw [hx] at hsrc; have HC := Lib.hid (cl_ev a3 _ c3' (l.map evv) w2 (fun w' hw => hsrc w' (hE2.onW hw)) (fun e => by have h1 := hnil e; refine ⟨h1, ?_⟩; rw [List.eq_nil_of_length_eq_zero h1]; rfl) (by omega))) | (go_at_call 58; (with_reducible refine HC.out.mono ?_); rintro e w3 ⟨v, rfl, q1, q2⟩))
    go_ret
    have hu := HU0.out.trans hu2 (fun _ _ h => h)
    exact SrPost.row hS2 hu (fun b hb => by
      rcases ht2 b hb with h | h
      · exact .inl h
      · right; have : w.heap.size ≤ (w.alloc (.cells #[.bool true, .int .i64 n] 48)).heap.size := by simp
        omega) q1 q2
theorem so_do (tag : Nat → Nat) (W : Nat → Nat → Prop) (ev : Value) (V : SrcV) (g : Nat) (s : St) (evs : List Ev) (beg : Nat) (t : Bool) (n : Int) (w : World) (h : SrcC w tag W ev V g (loOf s evs beg)) (hok : s.Ok) (hn : in64 n) (hb : evs.length ≤ 90000) :
    Calls Tryz.prog 21 #[.pointer (some ⟨g, 0, none⟩), .agg #[.bool t, .int .i64 n]] w (DoPost tag V g (loOf (s.doS (t, n)) (evs ++ s.doE (t, n)) beg) (s.doE (t, n)) w) :=
  (so_do0 _ _ _ _ _ _ _ _ _ _ _ (h.retag 0) (fun _ hb => retag_new hb) hok hn hb).mono fun e w' h => h.un
end Go.Proofs.YtoecikeleoaecaaGreat
