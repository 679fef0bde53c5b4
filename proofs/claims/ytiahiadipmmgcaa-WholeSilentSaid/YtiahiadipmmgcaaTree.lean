/- tree: what a block of a tree holds, and contracts of its calls. -/
import Derived.Test.YtiahiadipmmgcaaKBase
import Derived.Test.YtiahiadipmmgcaaTreePlain
import Derived.Test.YtiahiadipmmgcaaMost
namespace Go.Proofs.Ytiahiadipmmgcaa
set_option maxRecDepth 4000
open Go.ChangeShapes Go.WideShapes Go.ChangeAt Go.RowKit
open PTree
set_option linter.unusedVariables false
set_option linter.unusedSimpArgs false

/-- Block g is a tree of n numbers K (in block gk), of whom V have won (in block gw). -/
structure TreeC (w : World) (g gk gw n : Nat) (K V : Nat → Int) : Prop where
  at_ : At w g [.slice (some ⟨gk, 0, none⟩) n n, .slice (some ⟨gw, 0, none⟩) (2 * n) (2 * n)]
  keys : Own w gk 0 n (fun j => .int .i64 (K j))
  won : Own w gw 0 (2 * n) (fun j => .int .i64 (V j))
  n1 : g ≠ gk
  n2 : g ≠ gw
  n3 : gk ≠ gw
section
variable {w w' : World} {g gk gw n : Nat} {K V : Nat → Int}
theorem TreeC.upd {S : Nat → Prop} (h : TreeC w g gk gw n K V) (hu : Upd S w w') (h1 : ¬ S g) (h2 : ¬ S gk) (h3 : ¬ S gw) : TreeC w' g gk gw n K V :=
  ⟨h.at_.upd hu h1, h.keys.upd hu h2, h.won.upd hu h3, h.n1, h.n2, h.n3⟩
theorem TreeC.drewN (h : TreeC w g gk gw n K V) (m : Nat) : TreeC (w.drewN m) g gk gw n K V := h.upd (S := fun _ => False) ((Upd.refl _ _).drewN m) id id id
theorem TreeC.drew (h : TreeC w g gk gw n K V) : TreeC w.drew g gk gw n K V := h.upd (S := fun _ => False) ((Upd.refl _ _).drew) id id id
theorem TreeC.key (h : TreeC w g gk gw n K V) (j : Nat) (hj : j < n) : w.cell? ⟨gk, j, none⟩ = some (.int .i64 (K j)) ∧ w.frozen? ⟨gk, j, none⟩ = false := by
  have h1 := h.keys.cell j hj
  have h2 := h.keys.free j hj
  rw [Nat.zero_add] at h1 h2
  exact ⟨h1, h2⟩
theorem TreeC.win (h : TreeC w g gk gw n K V) (j : Nat) (hj : j < 2 * n) : w.cell? ⟨gw, j, none⟩ = some (.int .i64 (V j)) ∧ w.frozen? ⟨gw, j, none⟩ = false := by
  have h1 := h.won.cell j hj
  have h2 := h.won.free j hj
  rw [Nat.zero_add] at h1 h2
  exact ⟨h1, h2⟩
theorem own_put {w : World} {b n : Nat} {f : Nat → Int} (h : Own w b 0 n (fun j => .int .i64 (f j))) (j : Nat) (hj : j < n) (x : Int) : Own (w.setCell ⟨b, j, none⟩ (.int .i64 x)) b 0 n (fun i => .int .i64 (put f j x i)) := by
  have h1 := h.set j hj (.int .i64 x)
  rw [Nat.zero_add] at h1
  exact h1.congr (fun i hi => by unfold put; by_cases e : i = j <;> simp [e])
theorem TreeC.setKey (h : TreeC w g gk gw n K V) (j : Nat) (hj : j < n) (x : Int) : TreeC (w.setCell ⟨gk, j, none⟩ (.int .i64 x)) g gk gw n (put K j x) V :=
  have hu : Upd (fun k => k = gk) w (w.setCell ⟨gk, j, none⟩ (.int .i64 x)) := (Upd.refl (fun k => k = gk) w).setCell (p := ⟨gk, j, none⟩) (fun _ => rfl) _
  ⟨h.at_.upd hu h.n1, own_put h.keys j hj x, h.won.upd hu (fun e => h.n3 e.symm), h.n1, h.n2, h.n3⟩
theorem TreeC.setWin (h : TreeC w g gk gw n K V) (j : Nat) (hj : j < 2 * n) (x : Int) : TreeC (w.setCell ⟨gw, j, none⟩ (.int .i64 x)) g gk gw n K (put V j x) :=
  have hu : Upd (fun k => k = gw) w (w.setCell ⟨gw, j, none⟩ (.int .i64 x)) := (Upd.refl (fun k => k = gw) w).setCell (p := ⟨gw, j, none⟩) (fun _ => rfl) _
  ⟨h.at_.upd hu h.n2, h.keys.upd hu h.n3, own_put h.won j hj x, h.n1, h.n2, h.n3⟩
end

set_option maxHeartbeats 400000 in
theorem tr_len (g gk gw n : Nat) (K V : Nat → Int) (w : World) (h : TreeC w g gk gw n K V) :
    Calls Try.prog 24 #[.pointer (some ⟨g, 0, none⟩)] w fun e w' => e = .returned (.int .i64 n) ∧ w = w' := by
  obtain ⟨hg, c0, z0, c1, z1⟩ := h.at_.two
  go_enter Try.func24, Try.ntmps24
  go_wp2
  go_ret
  exact ⟨rfl, rfl⟩

set_option maxHeartbeats 400000 in
theorem tr_has (g gk gw n : Nat) (K V : Nat → Int) (i : Int) (w : World) (h : TreeC w g gk gw n K V) :
    Calls Try.prog 31 #[.pointer (some ⟨g, 0, none⟩), .int .i64 i] w fun e w' => e = .returned (.bool (decide (0 ≤ i ∧ i < n))) ∧ w = w' := by
  have HL := Lib.hid (tr_len g gk gw n K V w h)
  clear h
  by_cases h0 : 0 ≤ i
  · by_cases h1 : i < n
    · have hd : decide (0 ≤ i ∧ i < n) = true := decide_eq_true ⟨h0, h1⟩
      rw [hd]
      go_enter Try.func31, Try.ntmps31
      go_wp2_with (go_at_call 24; refine HL.out.mono ?_; rintro e w' ⟨rfl, rfl⟩)
      go_ret
      exact ⟨rfl, rfl⟩
    · have hd : decide (0 ≤ i ∧ i < n) = false := decide_eq_false (by omega)
      rw [hd]
      go_enter Try.func31, Try.ntmps31
      go_wp2_with (go_at_call 24; refine HL.out.mono ?_; rintro e w' ⟨rfl, rfl⟩)
      go_ret
      exact ⟨ret_bool (by simp; omega), rfl⟩
  · have hd : decide (0 ≤ i ∧ i < n) = false := decide_eq_false (by omega)
    rw [hd]
    have h1 : i < 0 := by omega
    go_enter Try.func31, Try.ntmps31
    go_wp2_with (go_at_call 24; refine HL.out.mono ?_; rintro e w' ⟨rfl, rfl⟩)
    go_ret
    exact ⟨rfl, rfl⟩

set_option maxHeartbeats 1000000 in
theorem tr_winner (g gk gw n : Nat) (K V : Nat → Int) (a b : Int) (w : World) (h : TreeC w g gk gw n K V) (ha : -1 ≤ a ∧ a < n) (hb : -1 ≤ b ∧ b < n) :
    Calls Try.prog 33 #[.pointer (some ⟨g, 0, none⟩), .int .i64 a, .int .i64 b] w fun e w' => e = .returned (.int .i64 (wz K a b)) ∧ ∃ m, w' = w.drewN m := by
  by_cases ea : a = -1
  · subst ea
    have hz : wz K (-1) b = b := by unfold wz; rw [if_pos rfl]
    rw [hz]
    clear hz h
    go_enter Try.func33, Try.ntmps33
    go_wp2
    go_ret
    exact ⟨rfl, 0, rfl⟩
  have fa : (a == -1) = false := by simpa using ea
  by_cases eb : b = -1
  · subst eb
    have hz : wz K a (-1) = a := by unfold wz; rw [if_neg ea, if_pos rfl]
    rw [hz]
    clear hz h ea
    go_enter Try.func33, Try.ntmps33
    go_wp2
    go_ret
    exact ⟨rfl, 0, rfl⟩
  have fb : (b == -1) = false := by simpa using eb
  obtain ⟨i, rfl⟩ : ∃ i : Nat, a = i := ⟨a.toNat, by omega⟩
  obtain ⟨j, rfl⟩ : ∃ j : Nat, b = j := ⟨b.toNat, by omega⟩
  have hi : i < n := by omega
  have hj : j < n := by omega
  obtain ⟨hg, c0, z0, c1, z1⟩ := h.at_.two
  have ci := (h.key i hi).1
  have cj := (h.key j hj).1
  have hgk := h.keys.lt
  unfold wz
  rw [if_neg ea, if_neg eb]
  simp only [Int.toNat_natCast]
  clear h z0 z1 c1 ea eb
  by_cases e1 : K i < K j
  · rw [if_pos e1]
    generalize K i = x at *
    generalize K j = y at *
    go_enter Try.func33, Try.ntmps33
    go_wp2
    go_quiet (fail)
    go_wp2
    go_ret
    exact ⟨rfl, _, rfl⟩
  rw [if_neg e1]
  by_cases e2 : K j < K i
  · rw [if_pos e2]
    generalize K i = x at *
    generalize K j = y at *
    go_enter Try.func33, Try.ntmps33
    go_wp2
    go_quiet (fail)
    go_wp2
    go_quiet (fail)
    go_wp2
    go_ret
    exact ⟨rfl, _, by simp; rfl⟩
  rw [if_neg e2]
  generalize K i = x at *
  generalize K j = y at *
  obtain ⟨m, hm⟩ : ∃ m : Int, min (i : Int) (j : Int) = m := ⟨_, rfl⟩
  have HM := Lib.hid hm
  rw [hm]
  clear hm
  go_enter Try.func33, Try.ntmps33
  go_wp2
  go_quiet (fail)
  go_wp2
  go_quiet (fail)
  go_wp2
  all_goals go_ret
  all_goals refine ⟨ret_int ?_, _, by first | rfl | (simp; rfl)⟩
  all_goals (have := HM.out; omega)
end Go.Proofs.Ytiahiadipmmgcaa
