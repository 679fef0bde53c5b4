/- The numbers of a hist that stands behind five other cells of its block. -/
import Derived.Test.YthpnkjnieljdiaaH5Base
namespace Go.Proofs.Ythpnkjnieljdiaa
open Go.ChangeShapes Go.WideShapes Go.ChangeAt Go.RowKit
open PHist
set_option linter.unusedVariables false
set_option linter.unusedSimpArgs false
set_option maxHeartbeats 1000000 in
theorem hi_place1P (F : Nat → Prop) (P : Pre) (g : Nat) (v : Value) (m : Nat) (rs : List NR) (n : Int) (i : Nat) (w : World) (h : HistCP w F P g v m rs) (hi : i < rs.length) (G : Nat) (hG : At w G [.pointer (some ⟨g, 5, none⟩)]) (hG1 : At w (G + 1) [.int .i64 n]) (hm : rs.length ≤ 1000) :
    Calls Try.prog 52 #[.int .i64 i, .pointer (some ⟨G, 0, none⟩), .pointer (some ⟨G + 1, 0, none⟩)] w fun e w' => e = .returned (.bool (decide (n ≤ rs[i].1))) ∧ ∃ q, w' = w.drewN q := by
  obtain ⟨a, c, rfl⟩ := h.sl.shape
  obtain ⟨_, b, off, rfl, c0, c1, z0, z1, hf, hne, hb⟩ := h.cell i hi
  obtain ⟨hg, p0, q0, p1, q1⟩ := h.at_.six
  obtain ⟨hg2, r0, s0⟩ := hG.one
  obtain ⟨hg3, r1, s1⟩ := hG1.one
  clear h hG hG1
  generalize rs[i] = z at *
  go_enter Try.func52, Try.ntmps52
  go_wp2
  go_quiet (fail)
  go_wp2
  go_ret
  exact ⟨rfl, _, rfl⟩

/-- The world in which the search is. -/
def boxedP (g : Nat) (n : Int) (w : World) : World := (w.alloc (.cells #[.pointer (some ⟨g, 5, none⟩)] 70)).alloc (.cells #[.int .i64 n] 3)
theorem boxed_updP (g : Nat) (n : Int) (w : World) : Upd (fun _ => False) w (boxedP g n w) := ((Upd.refl _ w).alloc _).alloc _
theorem boxed_atP (g : Nat) (n : Int) (w : World) : At (boxedP g n w) w.heap.size [.pointer (some ⟨g, 5, none⟩)] ∧ At (boxedP g n w) (w.heap.size + 1) [.int .i64 n] := by
  refine ⟨(At.alloc w [.pointer (some ⟨g, 5, none⟩)] 70).upd (S := fun _ => False) ((Upd.refl _ _).alloc _) id, ?_⟩
  have := At.alloc (w.alloc (.cells #[.pointer (some ⟨g, 5, none⟩)] 70)) [.int .i64 n] 3
  unfold boxedP
  simpa using this

theorem boxed_searchP (F : Nat → Prop) (P : Pre) (g : Nat) (v : Value) (m : Nat) (rs : List NR) (n : Int) (i : Nat) (w : World) (h : HistCP w F P g v m rs) (hp : Place rs n i) (hm : rs.length ≤ 1000) :
    Calls Try.prog 51 #[.int .i64 rs.length, .func (.func 52) #[] #[.pointer (some ⟨w.heap.size, 0, none⟩), .pointer (some ⟨w.heap.size + 1, 0, none⟩)]] (boxedP g n w) fun e w' => e = .returned (.int .i64 i) ∧ ∃ q, w' = (boxedP g n w).drewN q := by
  obtain ⟨b1, b2⟩ := place_bools hp
  refine so_search _ rs.length i (fun t => decide (n ≤ (rs.getD t (0, 0)).1)) _ hm hp.1 b1 b2 (fun k t ht => ?_)
  obtain ⟨a1, a2⟩ := boxed_atP g n w
  have := hi_place1P F P g v m rs n t ((boxedP g n w).drewN k) ((h.upd (boxed_updP g n w) (fun _ _ h => h)).drewN k) ht w.heap.size (a1.drewN k) (a2.drewN k) hm
  rw [getD_at _ _ _ ht]
  exact this

set_option maxHeartbeats 1000000 in
/-- The number is among the rows. -/
theorem hi_place_hitP (F : Nat → Prop) (P : Pre) (g : Nat) (v : Value) (m : Nat) (rs : List NR) (n : Int) (i : Nat) (w : World) (h : HistCP w F P g v m rs) (hp : Place rs n i) (hi : i < rs.length) (hn : rs[i].1 = n) (hm : rs.length ≤ 1000) :
    Calls Try.prog 46 #[.pointer (some ⟨g, 5, none⟩), .int .i64 n] w fun e w' => e = .returned (.tuple #[.int .i64 i, .bool true]) ∧ Below w.heap.size w w' := by
  have HS := Lib.hid (boxed_searchP F P g v m rs n i w h hp hm)
  obtain ⟨a, c, rfl⟩ := h.sl.shape
  have hb := h.upd (boxed_updP g n w) (fun _ _ h => h)
  obtain ⟨a1, a2⟩ := boxed_atP g n w
  have hB : Below w.heap.size w (boxedP g n w) := (boxed_updP g n w).below (Nat.le_refl _) (fun _ _ h => h.elim)
  obtain ⟨hg0, p0', q0', p1', q1'⟩ := h.at_.six
  obtain ⟨W0, hW0⟩ : ∃ W0, W0 = boxedP g n w := ⟨_, rfl⟩
  rw [← hW0] at HS hb hB a1 a2
  unfold boxedP at hW0
  have HW0 := Lib.hid hW0
  clear hW0
  obtain ⟨_, b, off, rfl, c0, c1, z0, z1, hf, hne, hbb⟩ := hb.cell i hi
  rw [hn] at c0
  obtain ⟨hg, p0, q0, p1, q1⟩ := hb.at_.six
  obtain ⟨hg2, r0, s0⟩ := a1.one
  obtain ⟨hg3, r1, s1⟩ := a2.one
  clear a1 a2 hb hn h
  have hii : (i : Int) < (rs.length : Int) := by omega
  have hnn : (n == n) = true := by simp
  go_enter Try.func46, Try.ntmps46
  go_wp2_with (go_at_call 51; rw [← HW0.out]; refine HS.out.mono ?_; rintro e w' ⟨rfl, nq, rfl⟩)
  go_quiet (fail)
  go_wp2
  go_ret2
  exact ⟨rfl, below_drewN (below_drewN hB _) _⟩

set_option maxHeartbeats 1000000 in
/-- The number is not among them. -/
theorem hi_place_missP (F : Nat → Prop) (P : Pre) (g : Nat) (v : Value) (m : Nat) (rs : List NR) (n : Int) (i : Nat) (w : World) (h : HistCP w F P g v m rs) (hp : Place rs n i) (hn : ∀ hi : i < rs.length, rs[i].1 ≠ n) (hm : rs.length ≤ 1000) :
    Calls Try.prog 46 #[.pointer (some ⟨g, 5, none⟩), .int .i64 n] w fun e w' => e = .returned (.tuple #[.int .i64 i, .bool false]) ∧ Below w.heap.size w w' := by
  have HS := Lib.hid (boxed_searchP F P g v m rs n i w h hp hm)
  obtain ⟨a, c, rfl⟩ := h.sl.shape
  have hb := h.upd (boxed_updP g n w) (fun _ _ h => h)
  obtain ⟨a1, a2⟩ := boxed_atP g n w
  have hB : Below w.heap.size w (boxedP g n w) := (boxed_updP g n w).below (Nat.le_refl _) (fun _ _ h => h.elim)
  obtain ⟨hg0, p0', q0', p1', q1'⟩ := h.at_.six
  obtain ⟨W0, hW0⟩ : ∃ W0, W0 = boxedP g n w := ⟨_, rfl⟩
  rw [← hW0] at HS hb hB a1 a2
  unfold boxedP at hW0
  have HW0 := Lib.hid hW0
  clear hW0
  have hp0 := hp.1
  obtain ⟨hg, p0, q0, p1, q1⟩ := hb.at_.six
  obtain ⟨hg2, r0, s0⟩ := a1.one
  obtain ⟨hg3, r1, s1⟩ := a2.one
  by_cases hi : i < rs.length
  · obtain ⟨_, b, off, rfl, c0, c1, z0, z1, hf, hne, hbb⟩ := hb.cell i hi
    have hn' := hn hi
    clear a1 a2 hb hn h hp
    have hii : (i : Int) < (rs.length : Int) := by omega
    generalize rs[i].1 = z at *
    have hnn : (z == n) = false := by simpa using hn'
    go_enter Try.func46, Try.ntmps46
    go_wp2_with (go_at_call 51; rw [← HW0.out]; refine HS.out.mono ?_; rintro e w' ⟨rfl, nq, rfl⟩)
    go_quiet (fail)
    go_wp2
    go_ret2
    exact ⟨rfl, below_drewN (below_drewN hB _) _⟩
  · clear a1 a2 hb hn h hp
    have hii : decide ((i : Int) < (rs.length : Int)) = false := by simp; omega
    go_enter Try.func46, Try.ntmps46
    go_wp2_with (go_at_call 51; rw [← HW0.out]; refine HS.out.mono ?_; rintro e w' ⟨rfl, nq, rfl⟩)
    go_quiet (fail)
    go_wp2
    go_ret2
    exact ⟨rfl, below_drewN (below_drewN hB _) _⟩
end Go.Proofs.Ythpnkjnieljdiaa
