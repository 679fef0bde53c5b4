/- config: a rule in words. -/
import Derived.Test.YtfgfjofbghfdpaaDoorConf5
import Derived.Test.YtfgfjofbghfdpaaDoorRulPlain
import Derived.Deep.RegionHeld3
namespace Go.Proofs.YtfgfjofbghfdpaaDoor
set_option maxRecDepth 4000
open Go.ChangeShapes Go.WideShapes Go.ChangeAt Go.RowKit
open PWord
open Go.Lib (itoa)
set_option linter.unusedVariables false
set_option linter.unusedSimpArgs false

theorem line_one (name : List UInt8) (x : Int) (hx : in64 x) (hna : name.length ≤ 21) (N : Nat) (w : World) (he : EnvW w) (hc : w.cell? ⟨N, 0, none⟩ = some (.int .i64 x)) :
    Calls Tryd.prog 37 #[.string (bstr name), .slice (some ⟨N, 0, none⟩) 1 1] w fun e w' => e = .returned (.string (bstr (lineOf name [x] ++ [10]))) ∧ Below w.heap.size w w' := by
  refine cf_line name [x] (some ⟨N, 0, none⟩) 1 1 w he ⟨by unfold maxLen; simp, fun i hi => ⟨N, 0, rfl, cell_lt hc, ?_⟩, fun y hy => ?_⟩ rfl (by omega) hna
  · obtain rfl : i = 0 := by simpa using hi
    exact hc
  · simp at hy; subst hy; obtain ⟨h0, h1⟩ := hx; simp [Lit.wf, IntKind.min, IntKind.max, IntKind.bits, IntKind.signed]; omega
theorem line_two (name : List UInt8) (x y : Int) (hx : in64 x) (hy : in64 y) (hna : name.length ≤ 21) (N : Nat) (w : World) (he : EnvW w) (hc : w.cell? ⟨N, 0, none⟩ = some (.int .i64 x)) (hd : w.cell? ⟨N, 1, none⟩ = some (.int .i64 y)) :
    Calls Tryd.prog 37 #[.string (bstr name), .slice (some ⟨N, 0, none⟩) 2 2] w fun e w' => e = .returned (.string (bstr (lineOf name [x, y] ++ [10]))) ∧ Below w.heap.size w w' := by
  refine cf_line name [x, y] (some ⟨N, 0, none⟩) 2 2 w he ⟨by unfold maxLen; simp, fun i hi => ⟨N, 0, rfl, cell_lt hc, ?_⟩, fun z hz => ?_⟩ rfl (by omega) hna
  · match i, hi with
    | 0, _ => exact hc
    | 1, _ => exact hd
  · obtain ⟨h0, h1⟩ := hx
    obtain ⟨h2, h3⟩ := hy
    simp at hz
    rcases hz with rfl | rfl <;> (simp [Lit.wf, IntKind.min, IntKind.max, IntKind.bits, IntKind.signed]; omega)

theorem EnvW.drew {w : World} (h : EnvW w) : EnvW w.drew := h.on ⟨rfl, rfl, rfl, Nat.le_refl _, fun _ _ => rfl⟩
theorem EnvW.alloc {w : World} (h : EnvW w) (o : Obj) : EnvW (w.alloc o) := h.on ((Below.refl _ _).alloc (Nat.le_refl _) _)
theorem rule0 (r : Rul) (h : r.kind = 0) : rule r = lineOf tBounded [r.bound] ++ [10] := by unfold rule rline; rw [if_pos h]; rfl
theorem rule1 (r : Rul) (h : r.kind = 1) : rule r = lineOf tMarked [r.sign] ++ [10] := by unfold rule rline; rw [if_neg (by omega), if_pos h]; rfl
theorem rule2 (r : Rul) (h : r.kind = 2) : rule r = lineOf tPercent [r.pct, r.win] ++ [10] := by unfold rule rline; rw [if_neg (by omega), if_neg (by omega), if_pos h]; rfl
theorem rule3 (r : Rul) (h0 : r.kind ≠ 0) (h1 : r.kind ≠ 1) (h2 : r.kind ≠ 2) : rule r = [] := by unfold rule rline; rw [if_neg h0, if_neg h1, if_neg h2]

set_option maxRecDepth 100000 in
set_option maxHeartbeats 6000000 in
theorem cf_rule0 (b p n s : Int) (f1 : in64 b) (f2 : in64 p) (f3 : in64 n) (f4 : in64 s) (w : World) (he : EnvW w) (hn : Names w) :
    Calls Tryd.prog 14 #[.agg #[.int .i64 0, .int .i64 b, .int .i64 p, .int .i64 n, .int .i64 s]] w fun e w' => e = .returned (.string (bstr (lineOf tBounded [b] ++ [10]))) ∧ Below w.heap.size w w' := by
  have hA := At.alloc w [.int .i64 0, .int .i64 b, .int .i64 p, .int .i64 n, .int .i64 s] 31
  have hb0 : Below w.heap.size w (w.alloc (.cells #[.int .i64 0, .int .i64 b, .int .i64 p, .int .i64 n, .int .i64 s] 31)) := (Below.refl _ _).alloc (Nat.le_refl _) _
  have hn0 := hn.on hb0
  have he0 := he.on hb0
  obtain ⟨hg, c0, z0, c1, z1, c2, z2, c3, z3, c4, z4⟩ := hA.five
  clear hA z0 z1 z2 z3 z4 he hn
  have HL := Lib.hid (fun N w => line_one tBounded b f1 (by decide) N w)
  clear f1 f2 f3 f4
  go_enter Tryd.func14, Tryd.ntmps14
  go_wp2
  generalize w.alloc (.cells #[.int .i64 0, .int .i64 b, .int .i64 p, .int .i64 n, .int .i64 s] 31) = w1 at *
  have hG := hn0.lt
  obtain ⟨n0, n1, n2⟩ := hn0
  have HE := Lib.hid (he0.alloc (.cells #[.int .i64 b] 3))
  have HC := Lib.hid (At.alloc w1 [.int .i64 b] 3).one.2.1
  have HB : Hid (Below w1.heap.size w1 (w1.alloc (.cells #[.int .i64 b] 3))) := Lib.hid ((Below.refl _ _).alloc (Nat.le_refl _) _)
  go_cut [2] (fun v wx => v = .string (bstr (lineOf tBounded [b] ++ [10])) ∧ Below w1.heap.size w1 wx)
  case first =>
    go_region_with (first | (go_at_call 37; refine (HL.out _ _ (by first | exact HE.out | exact HE.out.drew) (by exact HC.out)).mono ?_; rintro e wq ⟨rfl, hbq⟩))
    all_goals (go_wp2_with fail; go_meet; exact ⟨rfl, by first | exact on_below HB.out.drew hbq | exact on_below HB.out hbq⟩)
  case rest =>
    obtain ⟨rfl, hb2⟩ := hcut
    go_wp2
    go_ret
    exact ⟨rfl, on_below hb0 hb2⟩

set_option maxRecDepth 100000 in
set_option maxHeartbeats 6000000 in
theorem cf_rule1 (b p n s : Int) (f1 : in64 b) (f2 : in64 p) (f3 : in64 n) (f4 : in64 s) (w : World) (he : EnvW w) (hn : Names w) :
    Calls Tryd.prog 14 #[.agg #[.int .i64 1, .int .i64 b, .int .i64 p, .int .i64 n, .int .i64 s]] w fun e w' => e = .returned (.string (bstr (lineOf tMarked [s] ++ [10]))) ∧ Below w.heap.size w w' := by
  have hA := At.alloc w [.int .i64 1, .int .i64 b, .int .i64 p, .int .i64 n, .int .i64 s] 31
  have hb0 : Below w.heap.size w (w.alloc (.cells #[.int .i64 1, .int .i64 b, .int .i64 p, .int .i64 n, .int .i64 s] 31)) := (Below.refl _ _).alloc (Nat.le_refl _) _
  have hn0 := hn.on hb0
  have he0 := he.on hb0
  obtain ⟨hg, c0, z0, c1, z1, c2, z2, c3, z3, c4, z4⟩ := hA.five
  clear hA z0 z1 z2 z3 z4 he hn
  have HL := Lib.hid (fun N w => line_one tMarked s f4 (by decide) N w)
  clear f1 f2 f3 f4
  go_enter Tryd.func14, Tryd.ntmps14
  go_wp2
  generalize w.alloc (.cells #[.int .i64 1, .int .i64 b, .int .i64 p, .int .i64 n, .int .i64 s] 31) = w1 at *
  have hG := hn0.lt
  obtain ⟨n0, n1, n2⟩ := hn0
  have HE := Lib.hid (he0.alloc (.cells #[.int .i64 s] 3))
  have HC := Lib.hid (At.alloc w1 [.int .i64 s] 3).one.2.1
  have HB : Hid (Below w1.heap.size w1 (w1.alloc (.cells #[.int .i64 s] 3))) := Lib.hid ((Below.refl _ _).alloc (Nat.le_refl _) _)
  go_cut [2] (fun v wx => v = .string (bstr (lineOf tMarked [s] ++ [10])) ∧ Below w1.heap.size w1 wx)
  case first =>
    go_region_with (first | (go_at_call 37; refine (HL.out _ _ (by first | exact HE.out | exact HE.out.drew) (by exact HC.out)).mono ?_; rintro e wq ⟨rfl, hbq⟩))
    all_goals (go_wp2_with fail; go_meet; exact ⟨rfl, by first | exact on_below HB.out.drew hbq | exact on_below HB.out hbq⟩)
  case rest =>
    obtain ⟨rfl, hb2⟩ := hcut
    go_wp2
    go_ret
    exact ⟨rfl, on_below hb0 hb2⟩

set_option maxRecDepth 100000 in
set_option maxHeartbeats 6000000 in
theorem cf_rule2 (b p n s : Int) (f1 : in64 b) (f2 : in64 p) (f3 : in64 n) (f4 : in64 s) (w : World) (he : EnvW w) (hn : Names w) :
    Calls Tryd.prog 14 #[.agg #[.int .i64 2, .int .i64 b, .int .i64 p, .int .i64 n, .int .i64 s]] w fun e w' => e = .returned (.string (bstr (lineOf tPercent [p, n] ++ [10]))) ∧ Below w.heap.size w w' := by
  have hA := At.alloc w [.int .i64 2, .int .i64 b, .int .i64 p, .int .i64 n, .int .i64 s] 31
  have hb0 : Below w.heap.size w (w.alloc (.cells #[.int .i64 2, .int .i64 b, .int .i64 p, .int .i64 n, .int .i64 s] 31)) := (Below.refl _ _).alloc (Nat.le_refl _) _
  have hn0 := hn.on hb0
  have he0 := he.on hb0
  obtain ⟨hg, c0, z0, c1, z1, c2, z2, c3, z3, c4, z4⟩ := hA.five
  clear hA z0 z1 z2 z3 z4 he hn
  have HL := Lib.hid (fun N w => line_two tPercent p n f2 f3 (by decide) N w)
  clear f1 f2 f3 f4
  go_enter Tryd.func14, Tryd.ntmps14
  go_wp2
  generalize w.alloc (.cells #[.int .i64 2, .int .i64 b, .int .i64 p, .int .i64 n, .int .i64 s] 31) = w1 at *
  have hG := hn0.lt
  obtain ⟨n0, n1, n2⟩ := hn0
  have HE := Lib.hid (he0.alloc (.cells #[.int .i64 p, .int .i64 n] 3))
  have HC := Lib.hid (At.alloc w1 [.int .i64 p, .int .i64 n] 3).two
  have HB : Hid (Below w1.heap.size w1 (w1.alloc (.cells #[.int .i64 p, .int .i64 n] 3))) := Lib.hid ((Below.refl _ _).alloc (Nat.le_refl _) _)
  go_cut [2] (fun v wx => v = .string (bstr (lineOf tPercent [p, n] ++ [10])) ∧ Below w1.heap.size w1 wx)
  case first =>
    go_region_with (first | (go_at_call 37; refine (HL.out _ _ (by first | exact HE.out | exact HE.out.drew) (by exact HC.out.2.1) (by exact HC.out.2.2.2.1)).mono ?_; rintro e wq ⟨rfl, hbq⟩))
    all_goals (go_wp2_with fail; go_meet; exact ⟨rfl, by first | exact on_below HB.out.drew hbq | exact on_below HB.out hbq⟩)
  case rest =>
    obtain ⟨rfl, hb2⟩ := hcut
    go_wp2
    go_ret
    exact ⟨rfl, on_below hb0 hb2⟩

set_option maxRecDepth 100000 in
set_option maxHeartbeats 1000000 in
theorem cf_rule (r : Rul) (hf : r.Fits) (w : World) (he : EnvW w) (hn : Names w) :
    Calls Tryd.prog 14 #[r.val] w fun e w' => e = .returned (.string (bstr (rule r))) ∧ Below w.heap.size w w' := by
  have h0' := rule0 r
  have h1' := rule1 r
  have h2' := rule2 r
  have h3' := rule3 r
  obtain ⟨k, b, p, n, s⟩ := r
  obtain ⟨f0, f1, f2, f3, f4⟩ := hf
  unfold Rul.val
  simp only at *
  by_cases k0 : k = 0
  · subst k0
    rw [h0' rfl]
    exact cf_rule0 b p n s f1 f2 f3 f4 w he hn
  by_cases k1 : k = 1
  · subst k1
    rw [h1' rfl]
    exact cf_rule1 b p n s f1 f2 f3 f4 w he hn
  by_cases k2 : k = 2
  · subst k2
    rw [h2' rfl]
    exact cf_rule2 b p n s f1 f2 f3 f4 w he hn
  rw [h3' k0 k1 k2]
  have hA := At.alloc w [.int .i64 k, .int .i64 b, .int .i64 p, .int .i64 n, .int .i64 s] 31
  have hb0 : Below w.heap.size w (w.alloc (.cells #[.int .i64 k, .int .i64 b, .int .i64 p, .int .i64 n, .int .i64 s] 31)) := (Below.refl _ _).alloc (Nat.le_refl _) _
  obtain ⟨hg, c0, z0, c1, z1, c2, z2, c3, z3, c4, z4⟩ := hA.five
  clear h0' h1' h2' h3' he hn hA z0 z1 z2 z3 z4
  go_enter Tryd.func14, Tryd.ntmps14
  go_wp2
  go_ret
  exact ⟨rfl, hb0⟩
end Go.Proofs.YtfgfjofbghfdpaaDoor
