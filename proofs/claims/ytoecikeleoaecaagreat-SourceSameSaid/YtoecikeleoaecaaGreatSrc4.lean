/- Contracts of source's calls: how far time has come is told; who is silent; all partitions, one behind the other; a tick. -/
import Derived.Test.YtoecikeleoaecaaGreatSrc3
namespace Go.Proofs.YtoecikeleoaecaaGreat
set_option maxRecDepth 4000
open Go.ChangeShapes Go.WideShapes Go.ChangeAt Go.RowKit
open PHist PRing PSat PClamp PBound PFrame PVar PCrc PSign PTree PEv
set_option linter.unusedVariables false
set_option linter.unusedSimpArgs false

def Lo.adv (x : Lo) : Lo := if ml x.K x.S x.m ≤ x.now then x else { x with now := ml x.K x.S x.m, G := ml x.K x.S x.m, evs := x.evs ++ [.mark (ml x.K x.S x.m)] }
def Lo.wait (x : Lo) (i : Nat) : Lo := if x.is i = 0 ∧ x.tl i ≤ x.clock then { x with is := put x.is i 1, S := put x.S i 1 } else x
def Lo.iter (x : Lo) (f : Lo → Nat → Lo) : Nat → Lo
  | 0 => x
  | k + 1 => f (x.iter f k) k
theorem adv_n (x : Lo) : x.adv.n = x.n ∧ x.adv.m = x.m := by unfold Lo.adv; split <;> exact ⟨rfl, rfl⟩
theorem wait_n (x : Lo) (i : Nat) : (x.wait i).n = x.n ∧ (x.wait i).m = x.m := by unfold Lo.wait; split <;> exact ⟨rfl, rfl⟩
theorem iter_n (x : Lo) (f : Lo → Nat → Lo) (hf : ∀ x i, (f x i).n = x.n ∧ (f x i).m = x.m) : ∀ k, (x.iter f k).n = x.n ∧ (x.iter f k).m = x.m
  | 0 => ⟨rfl, rfl⟩
  | k + 1 => ⟨(hf _ _).1.trans (iter_n x f hf k).1, (hf _ _).2.trans (iter_n x f hf k).2⟩
theorem settle_n (x : Lo) (i : Nat) : (x.settle i).n = x.n ∧ (x.settle i).m = x.m := ⟨rfl, rfl⟩

set_option maxHeartbeats 2000000 in
theorem so_advance (tag : Nat → Nat) (W : Nat → Nat → Prop) (ev : Value) (V : SrcV) (g : Nat) (x : Lo) (w : World) (h : SrcC w tag W ev V g x) (hr : in64 (ml x.K x.S x.m)) (hb : x.evs.length ≤ 100000) :
    Calls Tryz.prog 53 #[.pointer (some ⟨g, 0, none⟩)] w fun e w' => e = .returned (.tuple #[]) ∧ SrPost tag V g x.adv w w' := by
  obtain ⟨hg, c0, z0, c1, z1, c2, z2, c3, z3, c4, z4, c5, z5⟩ := h.blk.cells6
  have HH := Lib.hid h
  have HR := Lib.hid hr
  by_cases hl : ml x.K x.S x.m ≤ x.now
  · rw [show x.adv = x from if_pos hl]
    have HV := Lib.hid (me_adv_not _ _ _ _ _ _ _ (ml x.K x.S x.m) w h.mer (rfl : mlo x.K (oa x.S 0) (oa x.S 1) x.m = ml x.K x.S x.m) hl)
    clear h hr hl
    go_enter Tryz.func53, Tryz.ntmps53
    go_wp2_with (first | (go_at_call 104; (with_reducible refine HV.out.mono ?_); rintro e w1 ⟨rfl, hP⟩))
    go_end0
    exact ⟨rfl, SrPost.of (HH.out.toMer _ _ _ hP) hP.2 (fun k hk e => by rw [HH.out.t3 k e]; omega)⟩
  · rw [show x.adv = { x with now := ml x.K x.S x.m, G := ml x.K x.S x.m, evs := x.evs ++ [.mark (ml x.K x.S x.m)] } from if_neg hl]
    have HV := Lib.hid (me_adv _ _ _ _ _ _ _ (ml x.K x.S x.m) w h.mer (rfl : mlo x.K (oa x.S 0) (oa x.S 1) x.m = ml x.K x.S x.m) (show x.now < ml x.K x.S x.m by omega))
    have HY := fun w' (h : SrcC w' tag W ev V g { x with now := ml x.K x.S x.m }) => Lib.hid (so_tell tag W ev V g { x with now := ml x.K x.S x.m } (.mark (ml x.K x.S x.m)) (.iface 65 (.agg #[.int .i64 (ml x.K x.S x.m)])) rfl w' h hb)
    clear h hr hl hb
    generalize ml x.K x.S x.m = z at *
    go_enter Tryz.func53, Tryz.ntmps53
    go_wp2_with (first | (go_at_call 104; (with_reducible refine HV.out.mono ?_); rintro e w1 ⟨rfl, hP⟩; have hS1 := HH.out.toMer _ _ _ hP) | (go_at_call 102; (with_reducible refine (HY _ hS1).out.mono ?_); rintro e w2 ⟨rfl, tag2, W2, ev2, hS2, hu2, ht2⟩; obtain ⟨hg2, f0, x0, f1, x1, f2, x2, f3, x3, f4, x4, f5, x5⟩ := hS2.blk.cells6; have hGl := Lib.hid (al_global _ _ _ _ _ z _ w2 hS2.ali HR.out)) | (go_at_call 105; (with_reducible refine hGl.out.mono ?_); rintro e w3 ⟨a3, c3', rfl, hr3, hP3⟩))
    go_end0
    refine ⟨rfl, SrPost.trans (hP.2.mono (fun k hk e => by rw [HH.out.t3 k e]; omega)) (fun _ h => .inl h) (SrPost.trans hu2 ht2 (SrPost.of (hS2.toAli _ _ hP3) hP3.2 (fun k hk e => ?_)))⟩
    rcases e with rfl | rfl
    · rw [hS2.t4.1]; omega
    · rw [hS2.t4.2]; omega

set_option maxHeartbeats 2000000 in
theorem so_wait (tag : Nat → Nat) (W : Nat → Nat → Prop) (ev : Value) (V : SrcV) (g : Nat) (x : Lo) (i : Nat) (w : World) (h : SrcC w tag W ev V g x) (hi : i < x.n) (hm : x.n ≤ x.m) :
    Calls Tryz.prog 110 #[.pointer (some ⟨g, 0, none⟩), .int .i64 i] w fun e w' => e = .returned (.tuple #[]) ∧ SrPost tag V g (x.wait i) w w' := by
  obtain ⟨hg, c0, z0, c1, z1, c2, z2, c3, z3, c4, z4, c5, z5⟩ := h.blk.cells6
  obtain ⟨gp, off, cap, hpv, hc, hgp, hne, p0, p1, p2⟩ := h.part i hi
  rw [hpv] at c0
  have HH := Lib.hid h
  have hin : i < x.n := hi
  have him : i < x.m := by omega
  have hgs : g ≠ V.st i := fun e => by have h1 := h.t1; rw [e, h.t8 i hi] at h1; omega
  have HNE := Lib.hid hgs
  by_cases ht : x.is i = 0 ∧ x.tl i ≤ x.clock
  · rw [show x.wait i = { x with is := put x.is i 1, S := put x.S i 1 } from if_pos ht]
    have hst := h.sta i hi
    rw [ht.1] at hst
    have HT := Lib.hid (jd_tick g x.clock (V.st i) x.timeout (x.tl i) w h.clk hgs hst ht.2)
    clear h hpv ht hst hgs
    go_enter Tryz.func110, Tryz.ntmps110
    go_wp2_with (first | (go_at_call 150; (with_reducible refine HT.out.mono ?_); rintro e w2 ⟨rfl, hP1⟩; have hS2 := HH.out.toSta i hin _ _ hP1; rw [putSelf] at hS2; obtain ⟨hg2, f0, x0, f1, x1, f2, x2, f3, x3, f4, x4, f5, x5⟩ := hS2.blk.cells6; have hQ := hS2.drew.sta i hin; simp only [put_same] at hQ; have hI := Lib.hid (id_is _ _ _ _ _ hQ); have hM := Lib.hid (me_is2 _ _ _ _ _ _ i 1 _ _ _ hS2.drew.mer him rfl rfl)))
    go_region_with (first | (go_at_call 67; (with_reducible refine hI.out.mono ?_); rintro e wi ⟨rfl, rfl⟩) | (go_at_call 90; (with_reducible refine hM.out.mono ?_); rintro e wm ⟨rfl, hP⟩))
    all_goals (go_wp2_with fail; go_end0; refine ⟨rfl, ?_⟩)
    all_goals exact SrPost.trans ((hP1.2.mono (fun k hk e => by rw [e, HH.out.t8 i hin]; omega)).drew) (fun _ h => .inl h) (SrPost.of (hS2.drew.toMer _ _ _ hP) hP.2 (fun k hk e => by rw [HH.out.t3 k e]; omega))
  · rw [show x.wait i = x from if_neg ht]
    have HT := Lib.hid (jd_tick_not g x.clock (V.st i) (x.is i) x.timeout (x.tl i) w h.clk (h.sta i hi) (fun e => by have : ¬ x.tl i ≤ x.clock := fun h => ht ⟨e, h⟩; omega))
    clear h hpv ht hgs
    go_enter Tryz.func110, Tryz.ntmps110
    go_wp2_with (first | (go_at_call 150; (with_reducible refine HT.out.mono ?_); rintro e w2 ⟨rfl, rfl⟩))
    go_end0
    exact ⟨rfl, SrPost.same HH.out⟩
theorem iter_wait_n (x : Lo) (k : Nat) : (x.iter Lo.wait k).n = x.n ∧ (x.iter Lo.wait k).m = x.m := iter_n x Lo.wait wait_n k
theorem iter_settle_n (x : Lo) (k : Nat) : (x.iter Lo.settle k).n = x.n ∧ (x.iter Lo.settle k).m = x.m := iter_n x Lo.settle settle_n k
theorem iter_settle_is (x : Lo) : ∀ k j, k ≤ j → (x.iter Lo.settle k).is j = x.is j
  | 0, j, _ => rfl
  | k + 1, j, hj => by
    show put (x.iter Lo.settle k).is k _ j = _
    rw [put_other _ _ _ (by omega)]
    exact iter_settle_is x k j (by omega)
theorem iter_settle_evs (x : Lo) : ∀ k, (x.iter Lo.settle k).evs.length ≤ x.evs.length + k
  | 0 => Nat.le_refl _
  | k + 1 => by
    show ((x.iter Lo.settle k).evs ++ (x.iter Lo.settle k).flt k).length ≤ _
    rw [List.length_append]
    have := iter_settle_evs x k
    have : ((x.iter Lo.settle k).flt k).length ≤ 1 := by
      unfold Lo.flt
      split
      · simp
      · split <;> simp
    omega

set_option maxHeartbeats 2000000 in
theorem so_each_settle (tag : Nat → Nat) (W : Nat → Nat → Prop) (ev : Value) (V : SrcV) (g : Nat) (x : Lo) (w : World) (h : SrcC w tag W ev V g x) (hm : x.n ≤ x.m) (hs : ∀ j, j < x.n → 0 ≤ x.is j ∧ x.is j < 2) (hb : x.evs.length + x.n ≤ 100000) :
    Calls Tryz.prog 51 #[.pointer (some ⟨g, 0, none⟩), .func (.func 52) #[.pointer (some ⟨g, 0, none⟩)] #[]] w fun e w' => e = .returned (.tuple #[]) ∧ SrPost tag V g (x.iter Lo.settle x.n) w w' := by
  obtain ⟨hg, c0, z0, c1, z1, c2, z2, c3, z3, c4, z4, c5, z5⟩ := h.blk.cells6
  obtain ⟨a, c, hpv, -, hmx⟩ := h.len
  rw [hpv] at c0
  have HH := Lib.hid h
  have HS : Hid (SrPost tag V g (x.iter Lo.settle 0) w w) := SrPost.same h
  have hnx : x.n ≤ 1000000 := Nat.le_trans hm h.small
  have HC : Hid (∀ (k : Nat), k < x.n → ∀ (wr : World), SrPost tag V g (x.iter Lo.settle k) w wr → Calls Tryz.prog 52 #[.pointer (some ⟨g, 0, none⟩), .int .i64 k] wr fun e w' => e = .returned (.tuple #[]) ∧ SrPost tag V g (x.iter Lo.settle (k + 1)) w w') := by
    intro k hk wr ⟨tag', W', ev', h1, h2, h3⟩
    have hc := so_settle tag' W' ev' V g (x.iter Lo.settle k) k wr h1 (by rw [(iter_settle_n x k).1]; exact hk) (by rw [(iter_settle_n x k).1, (iter_settle_n x k).2]; exact hm) (by rw [iter_settle_is x k k (Nat.le_refl _)]; exact hs k hk) (by have := iter_settle_evs x k; omega)
    exact hc.mono fun e w' ⟨e1, e2⟩ => ⟨e1, SrPost.trans h2 h3 e2⟩
  clear h hpv c1 z1 c2 z2 c3 z3 c4 z4 c5 z5 hs hb
  generalize hN : x.n = n at *
  have HN := Lib.hid hN
  clear hN
  go_enter Tryz.func51, Tryz.ntmps51
  go_wp2
  go_loopw [10] (fun i wr => ∃ k : Nat, k ≤ n ∧ i = .int .i64 k ∧ SrPost tag V g (x.iter Lo.settle k) w wr) (fun i _ => n - (intOf i).toNat)
  case atStart => exact ⟨0, Nat.zero_le _, rfl, HS.out⟩
  case round =>
    obtain ⟨k, hk, rfl, hP⟩ := hrel
    by_cases hlt : k < n
    · have HCK := Lib.hid (HC.out k hlt wr hP)
      go_wp2_with (first | (go_at_call 52; (with_reducible refine HCK.out.mono ?_); rintro e w2 ⟨rfl, hP2⟩))
      go_roundw
      case rel => exact ⟨k + 1, by omega, by go_num, hP2⟩
      case measure => simp [intOf]; omega
    · obtain rfl : k = n := by omega
      go_wp2
      go_end0
      exact ⟨rfl, hP⟩

set_option maxHeartbeats 2000000 in
theorem so_each_wait (tag : Nat → Nat) (W : Nat → Nat → Prop) (ev : Value) (V : SrcV) (g : Nat) (x : Lo) (w : World) (h : SrcC w tag W ev V g x) (hm : x.n ≤ x.m) :
    Calls Tryz.prog 51 #[.pointer (some ⟨g, 0, none⟩), .func (.func 110) #[.pointer (some ⟨g, 0, none⟩)] #[]] w fun e w' => e = .returned (.tuple #[]) ∧ SrPost tag V g (x.iter Lo.wait x.n) w w' := by
  obtain ⟨hg, c0, z0, c1, z1, c2, z2, c3, z3, c4, z4, c5, z5⟩ := h.blk.cells6
  obtain ⟨a, c, hpv, -, hmx⟩ := h.len
  rw [hpv] at c0
  have HH := Lib.hid h
  have HS : Hid (SrPost tag V g (x.iter Lo.wait 0) w w) := SrPost.same h
  have hnx : x.n ≤ 1000000 := Nat.le_trans hm h.small
  have HC : Hid (∀ (k : Nat), k < x.n → ∀ (wr : World), SrPost tag V g (x.iter Lo.wait k) w wr → Calls Tryz.prog 110 #[.pointer (some ⟨g, 0, none⟩), .int .i64 k] wr fun e w' => e = .returned (.tuple #[]) ∧ SrPost tag V g (x.iter Lo.wait (k + 1)) w w') := by
    intro k hk wr ⟨tag', W', ev', h1, h2, h3⟩
    have hc := so_wait tag' W' ev' V g (x.iter Lo.wait k) k wr h1 (by rw [(iter_wait_n x k).1]; exact hk) (by rw [(iter_wait_n x k).1, (iter_wait_n x k).2]; exact hm)
    exact hc.mono fun e w' ⟨e1, e2⟩ => ⟨e1, SrPost.trans h2 h3 e2⟩
  clear h hpv c1 z1 c2 z2 c3 z3 c4 z4 c5 z5
  generalize hN : x.n = n at *
  have HN := Lib.hid hN
  clear hN
  go_enter Tryz.func51, Tryz.ntmps51
  go_wp2
  go_loopw [10] (fun i wr => ∃ k : Nat, k ≤ n ∧ i = .int .i64 k ∧ SrPost tag V g (x.iter Lo.wait k) w wr) (fun i _ => n - (intOf i).toNat)
  case atStart => exact ⟨0, Nat.zero_le _, rfl, HS.out⟩
  case round =>
    obtain ⟨k, hk, rfl, hP⟩ := hrel
    by_cases hlt : k < n
    · have HCK := Lib.hid (HC.out k hlt wr hP)
      go_wp2_with (first | (go_at_call 110; (with_reducible refine HCK.out.mono ?_); rintro e w2 ⟨rfl, hP2⟩))
      go_roundw
      case rel => exact ⟨k + 1, by omega, by go_num, hP2⟩
      case measure => simp [intOf]; omega
    · obtain rfl : k = n := by omega
      go_wp2
      go_end0
      exact ⟨rfl, hP⟩

/-- A tick. -/
def Lo.tick (x : Lo) (b : Int) : Lo := Lo.adv (({ x with clock := add x.clock b } : Lo).iter Lo.wait x.n)
theorem iter_wait_evs (x : Lo) : ∀ k, (x.iter Lo.wait k).evs = x.evs
  | 0 => rfl
  | k + 1 => by
    show ((x.iter Lo.wait k).wait k).evs = _
    rw [← iter_wait_evs x k]
    unfold Lo.wait
    split <;> rfl
set_option maxHeartbeats 2000000 in
theorem so_tick (tag : Nat → Nat) (W : Nat → Nat → Prop) (ev : Value) (V : SrcV) (g : Nat) (x : Lo) (b : Int) (w : World) (h : SrcC w tag W ev V g x) (hm : x.n ≤ x.m) (h0 : 0 ≤ b) (hck : in64 x.clock) (hbi : in64 b) (hr : ∀ c, in64 (ml (({ x with clock := c } : Lo).iter Lo.wait x.n).K (({ x with clock := c } : Lo).iter Lo.wait x.n).S x.m)) (hb : x.evs.length ≤ 100000) :
    Calls Tryz.prog 62 #[.pointer (some ⟨g, 0, none⟩), .int .i64 b] w fun e w' => e = .returned (.tuple #[]) ∧ SrPost tag V g (x.tick b) w w' := by
  obtain ⟨hg, c0, z0, c1, z1, c2, z2, c3, z3, c4, z4, c5, z5⟩ := h.blk.cells6
  have HH := Lib.hid h
  have HG := Lib.hid (cd_go g x.clock b w h.clk hck hbi h0)
  have HR := Lib.hid (hr (add x.clock b))
  have HM := Lib.hid hm
  have HB := Lib.hid hb
  unfold Lo.tick
  have HE := fun w' (h : SrcC w' tag W ev V g { x with clock := add x.clock b }) => Lib.hid (so_each_wait tag W ev V g { x with clock := add x.clock b } w' h hm)
  have HA := fun w' tag' W' ev' (h : SrcC w' tag' W' ev' V g (({ x with clock := add x.clock b } : Lo).iter Lo.wait x.n)) => Lib.hid (so_advance tag' W' ev' V g _ w' h (by rw [(iter_wait_n _ _).2]; exact HR.out) (by rw [iter_wait_evs]; exact hb))
  clear h hck hbi hr hb hm
  go_enter Tryz.func62, Tryz.ntmps62
  go_wp2_with (first | (go_at_call 109; (with_reducible refine HG.out.mono ?_); rintro e w1 ⟨rfl, hP⟩; have hS1 := HH.out.toClk (add x.clock b); have hu1 : Upd (fun k => tag k ≠ 0) w (w.setCell ⟨g, 1, none⟩ (.int .i64 (add x.clock b))) := (Upd.refl (fun k => tag k ≠ 0) w).setCell (p := ⟨g, 1, none⟩) (fun _ => by have := HH.out.t1; show tag g ≠ 0; omega) _; unfold CdPost at hP; subst hP) | (go_at_call 51; (with_reducible refine (HE _ hS1).out.mono ?_); rintro e w2 ⟨rfl, tag2, W2, ev2, hS2, hu2, ht2⟩) | (go_at_call 53; (with_reducible refine (HA _ _ _ _ hS2).out.mono ?_); rintro e w3 ⟨rfl, hP3⟩))
  go_end0
  exact ⟨rfl, SrPost.trans hu1 (fun _ h => .inl h) (SrPost.trans hu2 ht2 hP3)⟩
theorem so_tick_none (tag : Nat → Nat) (W : Nat → Nat → Prop) (ev : Value) (V : SrcV) (g : Nat) (x : Lo) (b : Int) (w : World) (h : SrcC w tag W ev V g x) (h0 : b < 0) :
    Calls Tryz.prog 62 #[.pointer (some ⟨g, 0, none⟩), .int .i64 b] w fun e w' => e = .returned (.tuple #[]) ∧ SrPost tag V g x w w' := by
  obtain ⟨hg, c0, z0, c1, z1, c2, z2, c3, z3, c4, z4, c5, z5⟩ := h.blk.cells6
  have HH := Lib.hid h
  have HG := Lib.hid (cd_none g x.clock b w h.clk h0)
  clear h
  go_enter Tryz.func62, Tryz.ntmps62
  go_wp2_with (first | (go_at_call 109; (with_reducible refine HG.out.mono ?_); rintro e w1 ⟨rfl, rfl⟩))
  refine bodyPost_ret (results_none rfl _ _ _) rfl ?_
  exact ⟨rfl, SrPost.same HH.out⟩
end Go.Proofs.YtoecikeleoaecaaGreat
