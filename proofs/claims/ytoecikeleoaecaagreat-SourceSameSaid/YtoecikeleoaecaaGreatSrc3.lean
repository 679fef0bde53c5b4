/- Contracts of source's calls: to settle a partition. -/
import Derived.Test.YtoecikeleoaecaaGreatSrc2
namespace Go.Proofs.YtoecikeleoaecaaGreat
set_option maxRecDepth 4000
open Go.ChangeShapes Go.WideShapes Go.ChangeAt Go.RowKit
open PHist PRing PSat PClamp PBound PFrame PVar PCrc PSign PTree PEv
set_option linter.unusedVariables false
set_option linter.unusedSimpArgs false

def Lo.fin (x : Lo) (i : Nat) : Int := if x.rd i < (x.re i).length then x.is i else if x.er i = 0 then 2 else 3
def Lo.flt (x : Lo) (i : Nat) : List Ev := if x.rd i < (x.re i).length then [] else if x.er i = 0 then [] else [.fault i (x.er i)]
def Lo.settle (x : Lo) (i : Nat) : Lo := { x with is := put x.is i (x.fin i), S := put x.S i (x.fin i), evs := x.evs ++ x.flt i }
theorem putSelf {α : Type} (f : Nat → α) (i : Nat) : put f i (f i) = f := by
  funext j
  unfold put
  by_cases e : j = i <;> simp [e]
/-- What a cursor says. -/
theorem CurAt.says {w : World} {g : Nat} {s : ByteArray} {recs : List R} {err k : Nat} (h : CurAt w g s recs err k) :
    (k < recs.length ∧ ∃ q n, CurC w g s q k ∧ q ≤ s.size ∧ s.size ≤ 400 ∧ cahead (s.data.toList.drop q) = 0 ∧ fget (s.data.toList.drop q) = (recs.getD k zr, n, 0)) ∨
    (¬ k < recs.length ∧ ∃ q, CurC w g s q k ∧ q ≤ s.size ∧ s.size ≤ 400 ∧ cahead (s.data.toList.drop q) = (if err = 0 then 1 else 2) ∧ cerr (s.data.toList.drop q) = err) := by
  obtain ⟨q, v, h1, h2, h3, h4⟩ := h
  by_cases hk : k < recs.length
  · rw [show recs.drop k = recs[k] :: recs.drop (k + 1) from List.drop_eq_getElem_cons hk] at h4
    obtain ⟨v', e1, e2, e3, e4, e5, e6, e7⟩ := parse_step h4
    exact .inl ⟨hk, q, _, h1, h2, h3, e6, by rw [e1, List.getD_eq_getElem?_getD, List.getElem?_eq_getElem hk]; rfl⟩
  · rw [show recs.drop k = [] from List.drop_eq_nil_of_le (by omega)] at h4
    obtain ⟨e1, e2, e3, e4, e5⟩ := parse_stop h4
    exact .inr ⟨hk, q, h1, h2, h3, e3, e2⟩

section
variable {tag tag' : Nat → Nat} {W W' : Nat → Nat → Prop} {ev ev' : Value} {V : SrcV} {g : Nat} {x y : Lo} {w a b c : World}
theorem SrPost.of {X : Nat → Prop} (h : SrcC b tag W ev V g x) (hu : Upd X a b) (hX : ∀ k, k < a.heap.size → X k → tag k ≠ 0) : SrPost tag V g x a b := ⟨tag, W, ev, h, hu.mono hX, fun _ h => .inl h⟩
theorem SrPost.after (hb : Below a.heap.size a b) (h : SrPost tag V g x b c) : SrPost tag V g x a c := by
  obtain ⟨tag', W', ev', h1, h2, h3⟩ := h
  refine ⟨tag', W', ev', h1, (Upd.of_below (S := fun k => tag k ≠ 0) hb (fun k hk h => by omega)).trans h2 (fun _ _ h => h), fun k hk => ?_⟩
  rcases h3 k hk with h | h
  · exact .inl h
  · exact .inr (Nat.le_trans hb.size h)
theorem SrPost.trans (hu : Upd (fun k => tag k ≠ 0) a b) (ht : ∀ k, tag' k ≠ 0 → tag k ≠ 0 ∨ a.heap.size ≤ k) (h : SrPost tag' V g x b c) : SrPost tag V g x a c := by
  obtain ⟨tag2, W2, ev2, h1, h2, h3⟩ := h
  refine ⟨tag2, W2, ev2, h1, hu.trans h2 (fun k hk h => ?_), fun k hk => ?_⟩
  · rcases ht k h with h | h
    · exact h
    · omega
  · rcases h3 k hk with h | h
    · exact ht k h
    · exact .inr (Nat.le_trans hu.size h)
theorem SrPost.un (h : SrPost (retag tag a.heap.size 0) V g x a b) : SrPost tag V g x a b := by
  obtain ⟨tag2, W2, ev2, h1, h2, h3⟩ := h
  refine ⟨tag2, W2, ev2, h1, h2.mono (fun k hk h => by rw [retag_old hk] at h; exact h), fun k hk => ?_⟩
  rcases h3 k hk with h | h
  · unfold retag at h
    split at h
    · exact .inl h
    · exact absurd rfl h
  · exact .inr h
end

/-- Its own block of cells stays, where its tag is 0. -/
theorem At.tag0 {tag : Nat → Nat} {w w' : World} {N : Nat} {l : List Value} (h : At w N l) (hu : Upd (fun k => tag k ≠ 0) w w') (h0 : tag N = 0) : At w' N l := h.upd hu (fun e => e h0)

set_option maxHeartbeats 4000000 in
theorem so_settle0 (tag : Nat → Nat) (W : Nat → Nat → Prop) (ev : Value) (V : SrcV) (g : Nat) (x : Lo) (i : Nat) (w : World) (h : SrcC w tag W ev V g x) (h0 : ∀ b, w.heap.size ≤ b → tag b = 0) (hi : i < x.n) (hm : x.n ≤ x.m) (hs : 0 ≤ x.is i ∧ x.is i < 2) (hb : x.evs.length ≤ 100000) :
    Calls Tryz.prog 52 #[.pointer (some ⟨g, 0, none⟩), .int .i64 i] w fun e w' => e = .returned (.tuple #[]) ∧ SrPost tag V g (x.settle i) w w' := by
  obtain ⟨hg, c0, z0, c1, z1, c2, z2, c3, z3, c4, z4, c5, z5⟩ := h.blk.cells6
  obtain ⟨gp, off, cap, hpv, hc, hgp, hne, p0, p1, p2⟩ := h.part i hi
  rw [hpv] at c0
  have HH := Lib.hid h
  have hA := At.alloc w [.pointer (some ⟨V.cu i, 0, none⟩), .iface (V.ty i) (.pointer (some ⟨V.wy i, 0, none⟩)), .pointer (some ⟨V.st i, 0, none⟩)] 106
  have HW := Lib.hid ((Below.refl w.heap.size w).alloc (Nat.le_refl _) (.cells #[.pointer (some ⟨V.cu i, 0, none⟩), .iface (V.ty i) (.pointer (some ⟨V.wy i, 0, none⟩)), .pointer (some ⟨V.st i, 0, none⟩)] 106))
  have hin : i < x.n := hi
  have him : i < x.m := by omega
  have HT0 := Lib.hid h0
  have HS0 := Lib.hid hs.1
  have HS2 := Lib.hid hs.2
  have HB := Lib.hid hb
  rcases (h.cur i hi).says with ⟨hk, q, n, hcu, hq, hs4, ha, hf⟩ | ⟨hk, q, hcu, hq, hs4, ha, hf⟩
  · have e1 : x.fin i = x.is i := if_pos hk
    have e2 : x.flt i = [] := if_pos hk
    have hx : x.settle i = { x with S := put x.S i (x.is i) } := by
      unfold Lo.settle
      rw [e1, e2, putSelf, List.append_nil]
    rw [hx]
    have HA := fun w' h => Lib.hid (cu_ahead_is (V.cu i) (V.lg i) q (x.rd i) w' 0 h hq (by omega) (by rw [ha]; rfl))
    have HCU := fun w' (hb : Below w.heap.size w w') => CurC.on hcu hb
    clear h hpv hx ha hf hk h0 hs hb hcu e1 e2
    go_enter Tryz.func52, Tryz.ntmps52
    go_wp2_with (first | (go_at_call 99; (with_reducible refine (HA _ (HCU _ HW.out)).out.mono ?_); rintro e w1 ⟨rfl, hb1⟩; have hB1 := on_below HW.out hb1; have hAt := hA.on hb1; obtain ⟨hN, a0, b0, a1, b1, a2, b2⟩ := hAt.three; have hS1 := HH.out.on hB1; obtain ⟨hg1, d0, y0, d1, y1, d2, y2, d3, y3, d4, y4, d5, y5⟩ := hS1.blk.cells6; have hI := Lib.hid (id_is _ _ _ _ _ (hS1.drew.sta i hin)); have hM := Lib.hid (me_is2 _ _ _ _ _ _ i (x.is i) _ _ _ hS1.drew.mer him rfl rfl)))
    go_region_with (first | (go_at_call 67; (with_reducible refine hI.out.mono ?_); rintro e wi ⟨rfl, rfl⟩) | (go_at_call 90; (with_reducible refine hM.out.mono ?_); rintro e wm ⟨rfl, hP⟩))
    all_goals (go_wp2_with fail; go_end0; exact ⟨rfl, (SrPost.of (hS1.drew.toMer _ _ _ hP) hP.2 (fun k hk e => by rw [HH.out.t3 k e]; omega)).after hB1.drew⟩)
  · have e1 : x.fin i = if x.er i = 0 then 2 else 3 := if_neg hk
    have e2 : x.flt i = if x.er i = 0 then [] else [.fault i (x.er i)] := if_neg hk
    have HCU := fun w' (hb : Below w.heap.size w w') => CurC.on hcu hb
    by_cases he : x.er i = 0
    · rw [if_pos he] at e1 e2 ha
      have hx : x.settle i = { x with is := put x.is i 2, S := put x.S i 2 } := by
        unfold Lo.settle
        rw [e1, e2, List.append_nil]
      rw [hx]
      have HA := fun w' h => Lib.hid (cu_ahead_is (V.cu i) (V.lg i) q (x.rd i) w' 1 h hq (by omega) (by rw [ha]; rfl))
      clear h hpv hx ha hf hk h0 hs hb hcu e1 e2
      go_enter Tryz.func52, Tryz.ntmps52
      go_wp2_with (first | (go_at_call 99; (with_reducible refine (HA _ (HCU _ HW.out)).out.mono ?_); rintro e w1 ⟨rfl, hb1⟩; have hB1 := on_below HW.out hb1; have hAt := hA.on hb1; obtain ⟨hN, a0, b0, a1, b1, a2, b2⟩ := hAt.three; have hS1 := HH.out.on hB1; obtain ⟨hg1, d0, y0, d1, y1, d2, y2, d3, y3, d4, y4, d5, y5⟩ := hS1.blk.cells6; have hE := Lib.hid (id_end _ _ _ _ _ (hS1.sta i hin) HS0.out HS2.out)) | (go_at_call 100; (with_reducible refine hE.out.mono ?_); rintro e w2 ⟨rfl, hP1⟩; have hS2 := hS1.toSta i hin _ _ hP1; rw [putSelf] at hS2; have hAt2 := hAt.upd hP1.2 (fun e => by have h1 := HT0.out _ (Nat.le_refl w.heap.size); rw [e, HH.out.t8 i hin] at h1; omega); obtain ⟨hN2, a0', b0', a1', b1', a2', b2'⟩ := hAt2.three; obtain ⟨hg2, f0, x0, f1, x1, f2, x2, f3, x3, f4, x4, f5, x5⟩ := hS2.blk.cells6; have hQ := hS2.drew.sta i hin; simp only [put_same] at hQ; have hI := Lib.hid (id_is _ _ _ _ _ hQ); have hM := Lib.hid (me_is2 _ _ _ _ _ _ i 2 _ _ _ hS2.drew.mer him rfl rfl)))
      go_region_with (first | (go_at_call 67; (with_reducible refine hI.out.mono ?_); rintro e wi ⟨rfl, rfl⟩) | (go_at_call 90; (with_reducible refine hM.out.mono ?_); rintro e wm ⟨rfl, hP⟩))
      all_goals (go_wp2_with fail; go_end0; refine ⟨rfl, ?_⟩)
      all_goals exact (SrPost.trans ((hP1.2.mono (fun k hk e => by rw [e, HH.out.t8 i hin]; omega)).drew) (fun _ h => .inl h) (SrPost.of (hS2.drew.toMer _ _ _ hP) hP.2 (fun k hk e => by rw [HH.out.t3 k e]; omega))).after hB1
    · rw [if_neg he] at e1 e2 ha
      have hx : x.settle i = { x with is := put x.is i 3, S := put x.S i 3, evs := x.evs ++ [.fault i (x.er i)] } := by
        unfold Lo.settle
        rw [e1, e2]
      rw [hx]
      have HA := fun w' h => Lib.hid (cu_ahead_is (V.cu i) (V.lg i) q (x.rd i) w' 2 h hq (by omega) (by rw [ha]; rfl))
      have HR := fun w' h => Lib.hid (cu_err_is (V.cu i) (V.lg i) q (x.rd i) w' (x.er i) h hq (by omega) (by rw [hf]))
      have HY := fun w' (h : SrcC w' tag W ev V g { x with is := put x.is i 3 }) => Lib.hid (so_tell tag W ev V g { x with is := put x.is i 3 } (.fault i (x.er i)) (.iface 121 (.agg #[.int .i64 i, .int .i64 (x.er i)])) rfl w' h hb)
      clear h hpv hx ha hf hk h0 hs hb e1 e2 he
      go_enter Tryz.func52, Tryz.ntmps52
      go_wp2_with (first | (go_at_call 99; (with_reducible refine (HA _ (HCU _ HW.out)).out.mono ?_); rintro e w1 ⟨rfl, hb1⟩; have hB1 := on_below HW.out hb1; have hAt := hA.on hb1; obtain ⟨hN, a0, b0, a1, b1, a2, b2⟩ := hAt.three; have hS1 := HH.out.on hB1; obtain ⟨hg1, d0, y0, d1, y1, d2, y2, d3, y3, d4, y4, d5, y5⟩ := hS1.blk.cells6; have hE := Lib.hid (id_fail _ _ _ _ _ (hS1.sta i hin) HS0.out HS2.out)) | (go_at_call 101; (with_reducible refine hE.out.mono ?_); rintro e w2 ⟨rfl, hP1⟩; have hS2 := hS1.toSta i hin _ _ hP1; rw [putSelf] at hS2; have hAt2 := hAt.upd hP1.2 (fun e => by have h1 := HT0.out _ (Nat.le_refl w.heap.size); rw [e, HH.out.t8 i hin] at h1; omega); obtain ⟨hN2, a0', b0', a1', b1', a2', b2'⟩ := hAt2.three; have hCU2 := (HCU w1 hB1).upd hP1.2 (fun e => by have h1 := HH.out.t6 i hin; rw [e, HH.out.t8 i hin] at h1; omega)) | (go_at_call 103; (with_reducible refine (HR _ hCU2).out.mono ?_); rintro e w3 ⟨rfl, hb3⟩; have hS3 := hS2.on hb3; have hAt3 := hAt2.on hb3) | (go_at_call 102; (with_reducible refine (HY _ hS3).out.mono ?_); rintro e w4 ⟨rfl, tag4, W4, ev4, hS4, hu4, ht4⟩; have hAt4 := hAt3.tag0 hu4 (HT0.out _ (Nat.le_refl w.heap.size)); obtain ⟨hN4, a0'', b0'', a1'', b1'', a2'', b2''⟩ := hAt4.three; obtain ⟨hg4, f0, x0, f1, x1, f2, x2, f3, x3, f4, x4, f5, x5⟩ := hS4.blk.cells6; have hQ := hS4.drew.sta i hin; simp only [put_same] at hQ; have hI := Lib.hid (id_is _ _ _ _ _ hQ); have hM := Lib.hid (me_is2 _ _ _ _ _ _ i 3 _ _ _ hS4.drew.mer him rfl rfl)))
      go_region_with (first | (go_at_call 67; (with_reducible refine hI.out.mono ?_); rintro e wi ⟨rfl, rfl⟩) | (go_at_call 90; (with_reducible refine hM.out.mono ?_); rintro e wm ⟨rfl, hP⟩))
      all_goals (go_wp2_with fail; go_end0; refine ⟨rfl, ?_⟩)
      all_goals exact (SrPost.trans (hP1.2.mono (fun k hk e => by rw [e, HH.out.t8 i hin]; omega)) (fun _ h => .inl h) (SrPost.after hb3 (SrPost.trans hu4.drew ht4 (SrPost.of (hS4.drew.toMer _ _ _ hP) hP.2 (fun k hk e => by rw [hS4.t3 k e]; omega))))).after hB1
theorem so_settle (tag : Nat → Nat) (W : Nat → Nat → Prop) (ev : Value) (V : SrcV) (g : Nat) (x : Lo) (i : Nat) (w : World) (h : SrcC w tag W ev V g x) (hi : i < x.n) (hm : x.n ≤ x.m) (hs : 0 ≤ x.is i ∧ x.is i < 2) (hb : x.evs.length ≤ 100000) :
    Calls Tryz.prog 52 #[.pointer (some ⟨g, 0, none⟩), .int .i64 i] w fun e w' => e = .returned (.tuple #[]) ∧ SrPost tag V g (x.settle i) w w' :=
  (so_settle0 _ _ _ _ _ _ _ _ (h.retag 0) (fun _ hb => retag_new hb) hi hm hs hb).mono fun e w' ⟨h1, h2⟩ => ⟨h1, h2.un⟩
end Go.Proofs.YtoecikeleoaecaaGreat
