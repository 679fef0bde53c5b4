/- Contracts of source's calls: what is asked of it. -/
import Derived.Test.YtoecikeleoaecaaGreatSrcLo
import Derived.Test.YtoecikeleoaecaaGreatPv
import Derived.Deep.DeepCutAuto
import Derived.Deep.QuietTactic
import Derived.Deep.RegionWith
import Derived.BigQuiet
namespace Go.Proofs.YtoecikeleoaecaaGreat
set_option maxRecDepth 4000
open Go.ChangeShapes Go.WideShapes Go.ChangeAt Go.RowKit
open PHist PRing PSat PClamp PBound PFrame PVar PCrc PSign PTree PEv
set_option linter.unusedVariables false
set_option linter.unusedSimpArgs false

section
variable {w w' : World} {tag : Nat → Nat} {W : Nat → Nat → Prop} {ev : Value} {V : SrcV} {g : Nat} {x : Lo}
theorem SrcC.len (h : SrcC w tag W ev V g x) : ∃ a c, V.pv = .slice a x.n c ∧ x.n ≤ c ∧ x.n ≤ maxLen := by
  rcases h.row.2 with ⟨h1, h2⟩ | ⟨gp, off, cap, h1, h2, h3, h4, h5, h6⟩
  · exact ⟨none, 0, by rw [h1, h2], by omega, by unfold maxLen; omega⟩
  · exact ⟨_, cap, h1, h4, by omega⟩
/-- The cells of a partition. -/
theorem SrcC.part (h : SrcC w tag W ev V g x) (j : Nat) (hj : j < x.n) : ∃ gp off cap, V.pv = .slice (some ⟨gp, off, none⟩) x.n cap ∧ x.n ≤ cap ∧ gp < w.heap.size ∧ gp ≠ g ∧
    w.cell? ⟨gp, off + j * 3, none⟩ = some (.pointer (some ⟨V.cu j, 0, none⟩)) ∧ w.cell? ⟨gp, off + j * 3 + 1, none⟩ = some (.iface (V.ty j) (.pointer (some ⟨V.wy j, 0, none⟩))) ∧ w.cell? ⟨gp, off + j * 3 + 2, none⟩ = some (.pointer (some ⟨V.st j, 0, none⟩)) := by
  rcases h.row.2 with ⟨h1, h2⟩ | ⟨gp, off, cap, h1, h2, h3, h4, h5, h6, h7⟩
  · omega
  · refine ⟨gp, off, cap, h1, h4, h3, fun e => ?_, ?_, ?_, ?_⟩
    · have := h.t2 gp (by rw [h1]; rfl); rw [e, h.t1] at this; omega
    · exact (h6 (j * 3) (by omega)).trans (ptv_at V x.n j 0 hj (by omega))
    · exact (h6 (j * 3 + 1) (by omega)).trans (ptv_at V x.n j 1 hj (by omega))
    · exact (h6 (j * 3 + 2) (by omega)).trans (ptv_at V x.n j 2 hj (by omega))
theorem SrcC.small (h : SrcC w tag W ev V g x) : x.m ≤ 1000000 := h.ali.sm
end

set_option maxHeartbeats 1000000 in
theorem so_has (tag : Nat → Nat) (W : Nat → Nat → Prop) (ev : Value) (V : SrcV) (g : Nat) (x : Lo) (i : Int) (o : Bool) (w : World) (h : SrcC w tag W ev V g x) (ho : decide (0 ≤ i ∧ i < x.n) = o) :
    Calls Tryz.prog 66 #[.pointer (some ⟨g, 0, none⟩), .int .i64 i] w fun e w' => e = .returned (.bool o) ∧ w = w' := by
  obtain ⟨hg, c0, z0, c1, z1, c2, z2, c3, z3, c4, z4, c5, z5⟩ := h.blk.cells6
  obtain ⟨a, c, hpv, -, -⟩ := h.len
  rw [hpv] at c0
  clear h hpv
  generalize x.n = n at *
  by_cases h0 : 0 ≤ i
  · by_cases h1 : i < n
    · rw [decide_eq_true ⟨h0, h1⟩] at ho
      subst ho
      go_enter Tryz.func66, Tryz.ntmps66
      go_wp2
      go_ret
      exact ⟨rfl, rfl⟩
    · rw [decide_eq_false (by omega)] at ho
      subst ho
      have h1' : (n : Int) ≤ i := by omega
      go_enter Tryz.func66, Tryz.ntmps66
      go_wp2
      go_ret
      exact ⟨rfl, rfl⟩
  · rw [decide_eq_false (by omega)] at ho
    subst ho
    have h1' : i < 0 := by omega
    go_enter Tryz.func66, Tryz.ntmps66
    go_wp2
    go_ret
    exact ⟨rfl, rfl⟩

set_option maxHeartbeats 1000000 in
theorem so_now (tag : Nat → Nat) (W : Nat → Nat → Prop) (ev : Value) (V : SrcV) (g : Nat) (x : Lo) (w : World) (h : SrcC w tag W ev V g x) :
    Calls Tryz.prog 22 #[.pointer (some ⟨g, 0, none⟩)] w fun e w' => e = .returned (.int .i64 x.now) ∧ w = w' := by
  obtain ⟨hg, c0, z0, c1, z1, c2, z2, c3, z3, c4, z4, c5, z5⟩ := h.blk.cells6
  have HN := Lib.hid (me_now _ _ _ _ _ _ _ w h.mer)
  clear h
  go_enter Tryz.func22, Tryz.ntmps22
  go_wp2_with (first | (go_at_call 64; (with_reducible refine HN.out.mono ?_); rintro e w' ⟨rfl, rfl⟩))
  go_ret
  exact ⟨rfl, rfl⟩
theorem SrcC.clk {w : World} {tag : Nat → Nat} {W : Nat → Nat → Prop} {ev : Value} {V : SrcV} {g : Nat} {x : Lo} (h : SrcC w tag W ev V g x) : ClockD w g x.clock := .of h.blk
set_option maxHeartbeats 1000000 in
theorem so_time (tag : Nat → Nat) (W : Nat → Nat → Prop) (ev : Value) (V : SrcV) (g : Nat) (x : Lo) (w : World) (h : SrcC w tag W ev V g x) :
    Calls Tryz.prog 23 #[.pointer (some ⟨g, 0, none⟩)] w fun e w' => e = .returned (.int .i64 x.clock) ∧ w = w' := by
  obtain ⟨hg, c0, z0, c1, z1, c2, z2, c3, z3, c4, z4, c5, z5⟩ := h.blk.cells6
  have HN := Lib.hid (cd_now _ _ w h.clk)
  clear h
  go_enter Tryz.func23, Tryz.ntmps23
  go_wp2_with (first | (go_at_call 65; (with_reducible refine HN.out.mono ?_); rintro e w' ⟨rfl, rfl⟩))
  go_ret
  exact ⟨rfl, rfl⟩
set_option maxHeartbeats 1000000 in
theorem so_mark (tag : Nat → Nat) (W : Nat → Nat → Prop) (ev : Value) (V : SrcV) (g : Nat) (x : Lo) (i : Int) (z : Int) (w : World) (h : SrcC w tag W ev V g x) (hz : (if 0 ≤ i ∧ i < x.m then x.K i.toNat else 0) = z) :
    Calls Tryz.prog 27 #[.pointer (some ⟨g, 0, none⟩), .int .i64 i] w fun e w' => e = .returned (.int .i64 z) ∧ w = w' := by
  obtain ⟨hg, c0, z0, c1, z1, c2, z2, c3, z3, c4, z4, c5, z5⟩ := h.blk.cells6
  have HN : Hid (Calls Tryz.prog 69 #[.pointer (some ⟨V.gm, 0, none⟩), .int .i64 i] w fun e w' => e = .returned (.int .i64 z) ∧ w = w') := by
    by_cases hi : 0 ≤ i ∧ i < x.m
    · rw [if_pos hi] at hz
      subst hz
      have := me_at _ _ _ _ _ _ _ i.toNat w h.mer (by omega)
      rw [show ((i.toNat : Nat) : Int) = i by omega] at this
      exact this
    · rw [if_neg hi] at hz
      subst hz
      exact me_at_none _ _ _ _ _ _ _ i w h.mer hi
  clear h hz
  go_enter Tryz.func27, Tryz.ntmps27
  go_wp2_with (first | (go_at_call 69; (with_reducible refine HN.out.mono ?_); rintro e w' ⟨rfl, rfl⟩))
  go_ret
  exact ⟨rfl, rfl⟩
set_option maxHeartbeats 1000000 in
theorem so_status (tag : Nat → Nat) (W : Nat → Nat → Prop) (ev : Value) (V : SrcV) (g : Nat) (x : Lo) (i : Int) (z : Int) (w : World) (h : SrcC w tag W ev V g x) (hz : (if 0 ≤ i ∧ i < x.n then x.is i.toNat else -1) = z) :
    Calls Tryz.prog 25 #[.pointer (some ⟨g, 0, none⟩), .int .i64 i] w fun e w' => e = .returned (.int .i64 z) ∧ w = w' := by
  obtain ⟨hg, c0, z0, c1, z1, c2, z2, c3, z3, c4, z4, c5, z5⟩ := h.blk.cells6
  have HH := fun o ho => Lib.hid (so_has tag W ev V g x i o w h ho)
  by_cases hi : 0 ≤ i ∧ i < x.n
  · rw [if_pos hi] at hz
    subst hz
    have HT := HH true (decide_eq_true hi)
    clear HH
    obtain ⟨k, rfl⟩ : ∃ k : Nat, i = k := ⟨i.toNat, by omega⟩
    have hk : k < x.n := by omega
    have HS := Lib.hid (id_is _ _ _ _ w (h.sta k hk))
    obtain ⟨gp, off, cap, hpv, hc, hgp, hne, p0, p1, p2⟩ := h.part k hk
    rw [hpv] at c0
    clear h hpv hi
    rw [Int.toNat_natCast]
    generalize x.is k = s at *
    generalize x.n = n at *
    go_enter Tryz.func25, Tryz.ntmps25
    go_wp2_with (first | (go_at_call 66; (with_reducible refine HT.out.mono ?_); rintro e w' ⟨rfl, rfl⟩) | (go_at_call 67; (with_reducible refine HS.out.mono ?_); rintro e w' ⟨rfl, rfl⟩))
    go_ret
    exact ⟨rfl, rfl⟩
  · rw [if_neg hi] at hz
    subst hz
    have HT := HH false (decide_eq_false hi)
    clear HH
    clear h hi
    go_enter Tryz.func25, Tryz.ntmps25
    go_wp2_with (first | (go_at_call 66; (with_reducible refine HT.out.mono ?_); rintro e w' ⟨rfl, rfl⟩))
    go_ret
    exact ⟨rfl, rfl⟩
set_option maxHeartbeats 1000000 in
theorem so_count (tag : Nat → Nat) (W : Nat → Nat → Prop) (ev : Value) (V : SrcV) (g : Nat) (x : Lo) (i : Int) (z : Int) (w : World) (h : SrcC w tag W ev V g x) (hz : (if 0 ≤ i ∧ i < x.n then (x.rd i.toNat : Int) else 0) = z) :
    Calls Tryz.prog 26 #[.pointer (some ⟨g, 0, none⟩), .int .i64 i] w fun e w' => e = .returned (.int .i64 z) ∧ w = w' := by
  obtain ⟨hg, c0, z0, c1, z1, c2, z2, c3, z3, c4, z4, c5, z5⟩ := h.blk.cells6
  have HH := fun o ho => Lib.hid (so_has tag W ev V g x i o w h ho)
  by_cases hi : 0 ≤ i ∧ i < x.n
  · rw [if_pos hi] at hz
    subst hz
    have HT := HH true (decide_eq_true hi)
    clear HH
    obtain ⟨k, rfl⟩ : ∃ k : Nat, i = k := ⟨i.toNat, by omega⟩
    have hk : k < x.n := by omega
    obtain ⟨q, v, hcu, -⟩ := h.cur k hk
    have HS := Lib.hid (cu_count _ _ _ _ w hcu)
    obtain ⟨gp, off, cap, hpv, hc, hgp, hne, p0, p1, p2⟩ := h.part k hk
    rw [hpv] at c0
    clear h hpv hi hcu
    rw [Int.toNat_natCast]
    generalize x.rd k = s at *
    generalize x.n = n at *
    go_enter Tryz.func26, Tryz.ntmps26
    go_wp2_with (first | (go_at_call 66; (with_reducible refine HT.out.mono ?_); rintro e w' ⟨rfl, rfl⟩) | (go_at_call 68; (with_reducible refine HS.out.mono ?_); rintro e w' ⟨rfl, rfl⟩))
    go_ret
    exact ⟨rfl, rfl⟩
  · rw [if_neg hi] at hz
    subst hz
    have HT := HH false (decide_eq_false hi)
    clear HH
    clear h hi
    go_enter Tryz.func26, Tryz.ntmps26
    go_wp2_with (first | (go_at_call 66; (with_reducible refine HT.out.mono ?_); rintro e w' ⟨rfl, rfl⟩))
    go_ret
    exact ⟨rfl, rfl⟩
/-- Is nothing read of it? -/
def Lo.refused (x : Lo) (i : Int) : Bool := decide (¬ (0 ≤ i ∧ i < x.n)) || decide (1 < x.is i.toNat) || decide (add x.G x.drift < x.L i.toNat)
set_option maxHeartbeats 1000000 in
theorem so_refused (tag : Nat → Nat) (W : Nat → Nat → Prop) (ev : Value) (V : SrcV) (g : Nat) (x : Lo) (i : Int) (o : Bool) (w : World) (h : SrcC w tag W ev V g x) (hn : x.n ≤ x.m) (hs : ∀ j, j < x.n → 0 ≤ x.is j ∧ x.is j ≤ 3) (ho : x.refused i = o) :
    Calls Tryz.prog 29 #[.pointer (some ⟨g, 0, none⟩), .int .i64 i] w fun e w' => e = .returned (.bool o) ∧ ∃ m, w' = w.drewN m := by
  subst ho
  obtain ⟨hg, c0, z0, c1, z1, c2, z2, c3, z3, c4, z4, c5, z5⟩ := h.blk.cells6
  have HH := fun o ho => Lib.hid (so_has tag W ev V g x i o w h ho)
  unfold Lo.refused
  by_cases hi : 0 ≤ i ∧ i < x.n
  · rw [decide_eq_false (show ¬ ¬ (0 ≤ i ∧ i < x.n) by omega), Bool.false_or]
    have HT := HH true (decide_eq_true hi)
    clear HH
    obtain ⟨k, rfl⟩ : ∃ k : Nat, i = k := ⟨i.toNat, by omega⟩
    have hk : k < x.n := by omega
    rw [Int.toNat_natCast]
    have h3 := hs k hk
    have HS := Lib.hid (id_over _ _ _ _ w (h.sta k hk) h3)
    have HA := Lib.hid (al_paused _ _ _ _ _ _ k w h.ali (by omega))
    obtain ⟨gp, off, cap, hpv, hc, hgp, hne, p0, p1, p2⟩ := h.part k hk
    rw [hpv] at c0
    clear h hpv hi hs
    generalize x.is k = s at *
    generalize x.n = n at *
    generalize decide (add x.G x.drift < x.L k) = b at *
    by_cases h1 : 1 < s
    · rw [decide_eq_true h1, Bool.true_or]
      rw [decide_eq_true (show (2 : Int) ≤ s by omega)] at HS
      go_enter Tryz.func29, Tryz.ntmps29
      go_wp2_with (first | (go_at_call 66; (with_reducible refine HT.out.mono ?_); rintro e w' ⟨rfl, rfl⟩) | (go_at_call 71; (with_reducible refine HS.out.mono ?_); rintro e w' ⟨rfl, rfl⟩))
      go_ret
      exact ⟨rfl, 0, rfl⟩
    · rw [decide_eq_false h1, Bool.false_or]
      rw [decide_eq_false (show ¬ (2 : Int) ≤ s by omega)] at HS
      go_enter Tryz.func29, Tryz.ntmps29
      go_wp2_with (first | (go_at_call 66; (with_reducible refine HT.out.mono ?_); rintro e w' ⟨rfl, rfl⟩) | (go_at_call 71; (with_reducible refine HS.out.mono ?_); rintro e w' ⟨rfl, rfl⟩) | (go_at_call 72; (with_reducible refine HA.out.mono ?_); rintro e w' ⟨rfl, m, rfl⟩))
      go_ret
      exact ⟨rfl, _, rfl⟩
  · rw [decide_eq_true hi, Bool.true_or, Bool.true_or]
    have HT := HH false (decide_eq_false hi)
    clear HH
    clear h hi hs
    go_enter Tryz.func29, Tryz.ntmps29
    go_wp2_with (first | (go_at_call 66; (with_reducible refine HT.out.mono ?_); rintro e w' ⟨rfl, rfl⟩))
    go_ret
    exact ⟨rfl, 0, rfl⟩
end Go.Proofs.YtoecikeleoaecaaGreat
