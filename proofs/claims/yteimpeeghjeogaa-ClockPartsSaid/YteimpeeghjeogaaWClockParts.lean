/- The walk of ClockParts. -/
import Derived.Test.YteimpeeghjeogaaSpeaks14
namespace Go.Proofs.Yteimpeeghjeogaa
set_option maxRecDepth 4000
open Go.ChangeShapes Go.WideShapes Go.ChangeAt Go.RowKit
open PSat
set_option linter.unusedVariables false
set_option linter.unusedSimpArgs false

theorem add_parts {a b : Int} (ha : 0 ≤ a) (hb : 0 ≤ b) : add (add 0 a) b = add 0 (add a b) := by
  unfold add clampI
  (repeat' split) <;> omega
theorem add_pos {a b : Int} (ha : 0 ≤ a) (hb : 0 ≤ b) : 0 ≤ add a b := by
  unfold add clampI
  (repeat' split) <;> omega

set_option maxHeartbeats 2000000 in
theorem walk_ClockParts (w : World) (a0 : Int) (w0 : (Lit.int .i64 a0).wf = true) (a1 : Int) (w1 : (Lit.int .i64 a1).wf = true) :
    Calls Try.prog 6 #[.int .i64 a0, .int .i64 a1] w fun e w' => e = .returned (.bool true) ∧ Below w.heap.size w w' := by
  have h0 := bounds_i64 w0
  have h1 := bounds_i64 w1
  clear w0 w1
  by_cases n0 : a0 < 0
  · go_enter Try.func6, Try.ntmps6
    go_wp2_with (go_at_call 15; refine (speaks14 _).mono ?_; rintro e w1 ⟨rfl, hb1⟩)
    go_ret
    exact ⟨rfl, hb1⟩
  by_cases n1 : a1 < 0
  · have p0 : 0 ≤ a0 := by omega
    go_enter Try.func6, Try.ntmps6
    go_wp2_with (go_at_call 15; refine (speaks14 _).mono ?_; rintro e w1 ⟨rfl, hb1⟩)
    go_ret
    exact ⟨rfl, hb1⟩
  have p0 : 0 ≤ a0 := by omega
  have p1 : 0 ≤ a1 := by omega
  have hE := add_parts p0 p1
  have hP := add_pos p0 p1
  have i01 := add_in a0 a1
  have i0 := add_in 0 a0
  unfold inR at i01 i0
  have HRA := fun w' => Lib.hid (ref_add a0 a1 w' h0 h1)
  have HC1 := fun g w' (h : ClockC w' g 0) => Lib.hid (ck_go g 0 a0 w' h (by omega) h0 p0)
  have HC2 := fun g w' (h : ClockC w' g (add 0 a0)) => Lib.hid (ck_go g (add 0 a0) a1 w' h i0 h1 p1)
  have HD1 := fun g w' (h : ClockC w' g 0) => Lib.hid (ck_go g 0 (add a0 a1) w' h (by omega) i01 hP)
  rw [hE] at HC2
  generalize hz : add 0 (add a0 a1) = z at *
  generalize add 0 a0 = y at *
  generalize add a0 a1 = x at *
  have HN := fun g w' (h : ClockC w' g z) => Lib.hid (ck_now g z w' h)
  clear n0 n1 hE hz hP i01 i0 h0 h1
  go_enter Try.func6, Try.ntmps6
  go_wp2_with (go_at_call 15; refine (speaks14 _).mono ?_; rintro e w1 ⟨rfl, hb1⟩; have hb2 := hb1.alloc hb1.size (.cells #[.int .i64 0] 45); have hb3 := hb2.alloc hb2.size (.cells #[.int .i64 0] 45); have hc := ClockC.made w1 45; have hd := ClockC.made (w1.alloc (.cells #[.int .i64 0] 45)) 45; have hc := hc.on ((Below.refl _ _).alloc (Nat.le_refl _) (.cells #[.int .i64 0] 45)); rw [show (w1.alloc (.cells #[.int .i64 0] 45)).heap.size = w1.heap.size + 1 by simp] at hd; have hz1 := hb1.size)
  go_wp2_with (go_at_call 16; (with_reducible refine (HC1 _ _ hc).out.mono ?_); rintro e w2 ⟨rfl, hc2, hu2⟩; have hd2 := hd.upd hu2 (by omega); have hb4 := hb3.upd hu2 hb3.size (fun i _ h => by omega))
  go_wp2_with (go_at_call 16; (with_reducible refine (HC2 _ _ hc2).out.mono ?_); rintro e w3 ⟨rfl, hc3, hu3⟩; have hd3 := hd2.upd hu3 (by omega); have hb5 := hb4.upd hu3 hb4.size (fun i _ h => by omega))
  go_wp2_with (first | (go_at_call 17; refine (HRA _).out.mono ?_; rintro e w4 ⟨rfl, rfl⟩) | (go_at_call 16; (with_reducible refine (HD1 _ _ hd3).out.mono ?_); rintro e w4 ⟨rfl, hd4, hu4⟩; have hc4 := hc3.upd hu4 (by omega); have hb6 := hb5.upd hu4 hb5.size (fun i _ h => by omega)))
  go_wp2_with (first | (go_at_call 18; (with_reducible refine (HN _ _ hc4).out.mono ?_); rintro e w5 ⟨rfl, rfl⟩) | (go_at_call 18; (with_reducible refine (HN _ _ hd4).out.mono ?_); rintro e w5 ⟨rfl, rfl⟩))
  go_ret
  exact ⟨rfl, hb6⟩
end Go.Proofs.Yteimpeeghjeogaa
