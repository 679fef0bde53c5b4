/- hist: where a number stands among the rows. -/
import Derived.Test.YthpnkjnieljdiaaHistBase
namespace Go.Proofs.Ythpnkjnieljdiaa
open Go.ChangeShapes Go.WideShapes Go.ChangeAt Go.RowKit
set_option linter.unusedVariables false
set_option linter.unusedSimpArgs false

set_option maxHeartbeats 1000000 in
set_option maxRecDepth 100000 in
/-- The search: how many places are before the first of which it holds. -/
theorem so_search (cb : Array Value) (n k : Nat) (p : Nat → Bool) (w : World) (hn : n ≤ 1000) (hk : k ≤ n) (h1 : ∀ t, t < k → p t = false) (h2 : ∀ t, k ≤ t → t < n → p t = true)
    (hf : ∀ (m : Nat) (i : Nat), i < n → Calls Try.prog 52 (#[.int .i64 i] ++ cb) (w.drewN m) fun e w' => e = .returned (.bool (p i)) ∧ ∃ q, w' = (w.drewN m).drewN q) :
    Calls Try.prog 51 #[.int .i64 n, .func (.func 52) #[] cb] w fun e w' => e = .returned (.int .i64 k) ∧ ∃ q, w' = w.drewN q := by
  have HF := Lib.hid hf
  have H1 := Lib.hid h1
  have H2 := Lib.hid h2
  clear hf h1 h2
  go_enter Try.func51, Try.ntmps51
  go_wp2
  go_loopg [5, 6] n (fun kx s5 s6 wr => ∃ (lo hi q : Nat), s5 = .int .i64 lo ∧ s6 = .int .i64 hi ∧ lo ≤ k ∧ k ≤ hi ∧ hi ≤ n ∧ hi - lo ≤ kx ∧ wr = w.drewN q)
  case atStart => exact ⟨0, n, 0, rfl, rfl, Nat.zero_le _, hk, Nat.le_refl _, by omega, rfl⟩
  case round =>
    obtain ⟨lo, hi, q, rfl, rfl, hlk, hki, hin, hg, rfl⟩ := hrel
    by_cases hlt : lo < hi
    · have hc := HF.out q ((lo + hi) / 2) (by omega)
      rw [show (((lo + hi) / 2 : Nat) : Int) = ((lo : Int) + (hi : Int)) / 2 by omega] at hc
      by_cases hm : (lo + hi) / 2 < k
      · rw [H1.out _ hm] at hc
        go_wp2_with (go_at_call 52; refine hc.mono ?_; rintro e w' ⟨rfl, nq, rfl⟩)
        go_roundg (hi - ((lo + hi) / 2 + 1))
        case measure => omega
        case rel => exact ⟨(lo + hi) / 2 + 1, hi, q + nq, by rw [show ((lo : Int) + (hi : Int)) / 2 + 1 = (((lo + hi) / 2 + 1 : Nat) : Int) by omega], rfl, by omega, hki, hin, Nat.le_refl _, rfl⟩
      · rw [H2.out _ (by omega) (by omega)] at hc
        go_wp2_with (go_at_call 52; refine hc.mono ?_; rintro e w' ⟨rfl, nq, rfl⟩)
        go_roundg ((lo + hi) / 2 - lo)
        case measure => omega
        case rel => exact ⟨lo, (lo + hi) / 2, q + nq, rfl, by rw [show ((lo : Int) + (hi : Int)) / 2 = (((lo + hi) / 2 : Nat) : Int) by omega], hlk, by omega, by omega, Nat.le_refl _, rfl⟩
    · obtain rfl : lo = k := by omega
      go_wp2
      go_ret
      exact ⟨rfl, _, rfl⟩

set_option maxHeartbeats 1000000 in
theorem hi_place1 (F : Nat → Prop) (g : Nat) (v : Value) (m : Nat) (rs : List NR) (n : Int) (i : Nat) (w : World) (h : HistC w F g v m rs) (hi : i < rs.length) (G : Nat) (hG : At w G [.pointer (some ⟨g, 0, none⟩)]) (hG1 : At w (G + 1) [.int .i64 n]) (hm : rs.length ≤ 1000) :
    Calls Try.prog 52 #[.int .i64 i, .pointer (some ⟨G, 0, none⟩), .pointer (some ⟨G + 1, 0, none⟩)] w fun e w' => e = .returned (.bool (decide (n ≤ rs[i].1))) ∧ ∃ q, w' = w.drewN q := by
  obtain ⟨a, c, rfl⟩ := h.sl.shape
  obtain ⟨_, b, off, rfl, c0, c1, z0, z1, hf, hne, hb⟩ := h.cell i hi
  obtain ⟨hg, p0, q0, p1, q1⟩ := h.at_.two
  obtain ⟨hg2, r0, s0⟩ := hG.one
  obtain ⟨hg3, r1, s1⟩ := hG1.one
  clear h hG hG1
  generalize rs[i] = z at *
  go_enter Try.func52, Try.ntmps52
  go_wp2
  go_quiet (fail)
  go_wp2
  go_ret
  exact ⟨rfl, _, rfl⟩

theorem getD_at (l : List NR) (t : Nat) (d : NR) (h : t < l.length) : l.getD t d = l[t] := by simp [List.getD, h]
theorem place_bools {rs : List NR} {n : Int} {i : Nat} (hp : Place rs n i) : (∀ t, t < i → (decide (n ≤ (rs.getD t (0, 0)).1)) = false) ∧ ∀ t, i ≤ t → t < rs.length → (decide (n ≤ (rs.getD t (0, 0)).1)) = true := by
  obtain ⟨h0, h1, h2⟩ := hp
  refine ⟨fun t ht => ?_, fun t ht hl => ?_⟩
  · have := h1 t (by omega) ht
    rw [getD_at _ _ _ (by omega)]
    simpa using this
  · have := h2 t hl ht
    rw [getD_at _ _ _ hl]
    simpa using this

/-- The world in which the search is. -/
def boxed (g : Nat) (n : Int) (w : World) : World := (w.alloc (.cells #[.pointer (some ⟨g, 0, none⟩)] 70)).alloc (.cells #[.int .i64 n] 3)
theorem boxed_upd (g : Nat) (n : Int) (w : World) : Upd (fun _ => False) w (boxed g n w) := ((Upd.refl _ w).alloc _).alloc _
theorem boxed_at (g : Nat) (n : Int) (w : World) : At (boxed g n w) w.heap.size [.pointer (some ⟨g, 0, none⟩)] ∧ At (boxed g n w) (w.heap.size + 1) [.int .i64 n] := by
  refine ⟨(At.alloc w [.pointer (some ⟨g, 0, none⟩)] 70).upd (S := fun _ => False) ((Upd.refl _ _).alloc _) id, ?_⟩
  have := At.alloc (w.alloc (.cells #[.pointer (some ⟨g, 0, none⟩)] 70)) [.int .i64 n] 3
  unfold boxed
  simpa using this

theorem boxed_search (F : Nat → Prop) (g : Nat) (v : Value) (m : Nat) (rs : List NR) (n : Int) (i : Nat) (w : World) (h : HistC w F g v m rs) (hp : Place rs n i) (hm : rs.length ≤ 1000) :
    Calls Try.prog 51 #[.int .i64 rs.length, .func (.func 52) #[] #[.pointer (some ⟨w.heap.size, 0, none⟩), .pointer (some ⟨w.heap.size + 1, 0, none⟩)]] (boxed g n w) fun e w' => e = .returned (.int .i64 i) ∧ ∃ q, w' = (boxed g n w).drewN q := by
  obtain ⟨b1, b2⟩ := place_bools hp
  refine so_search _ rs.length i (fun t => decide (n ≤ (rs.getD t (0, 0)).1)) _ hm hp.1 b1 b2 (fun k t ht => ?_)
  obtain ⟨a1, a2⟩ := boxed_at g n w
  have := hi_place1 F g v m rs n t ((boxed g n w).drewN k) ((h.upd (boxed_upd g n w) (fun _ _ h => h)).drewN k) ht w.heap.size (a1.drewN k) (a2.drewN k) hm
  rw [getD_at _ _ _ ht]
  exact this

set_option maxHeartbeats 1000000 in
/-- The number is among the rows. -/
theorem hi_place_hit (F : Nat → Prop) (g : Nat) (v : Value) (m : Nat) (rs : List NR) (n : Int) (i : Nat) (w : World) (h : HistC w F g v m rs) (hp : Place rs n i) (hi : i < rs.length) (hn : rs[i].1 = n) (hm : rs.length ≤ 1000) :
    Calls Try.prog 46 #[.pointer (some ⟨g, 0, none⟩), .int .i64 n] w fun e w' => e = .returned (.tuple #[.int .i64 i, .bool true]) ∧ Below w.heap.size w w' := by
  have HS := Lib.hid (boxed_search F g v m rs n i w h hp hm)
  obtain ⟨a, c, rfl⟩ := h.sl.shape
  have hb := h.upd (boxed_upd g n w) (fun _ _ h => h)
  obtain ⟨a1, a2⟩ := boxed_at g n w
  have hB : Below w.heap.size w (boxed g n w) := (boxed_upd g n w).below (Nat.le_refl _) (fun _ _ h => h.elim)
  obtain ⟨hg0, p0', q0', p1', q1'⟩ := h.at_.two
  obtain ⟨W0, hW0⟩ : ∃ W0, W0 = boxed g n w := ⟨_, rfl⟩
  rw [← hW0] at HS hb hB a1 a2
  unfold boxed at hW0
  have HW0 := Lib.hid hW0
  clear hW0
  obtain ⟨_, b, off, rfl, c0, c1, z0, z1, hf, hne, hbb⟩ := hb.cell i hi
  rw [hn] at c0
  obtain ⟨hg, p0, q0, p1, q1⟩ := hb.at_.two
  obtain ⟨hg2, r0, s0⟩ := a1.one
  obtain ⟨hg3, r1, s1⟩ := a2.one
  clear a1 a2 hb hn h
  have hii : (i : Int) < (rs.length : Int) := by omega
  have hnn : (n == n) = true := by simp
  go_enter Try.func46, Try.ntmps46
  go_wp2_with (go_at_call 51; rw [← HW0.out]; refine HS.out.mono ?_; rintro e w' ⟨rfl, nq, rfl⟩)
  go_quiet (fail)
  go_wp2
  go_ret2
  exact ⟨rfl, below_drewN (below_drewN hB _) _⟩

set_option maxHeartbeats 1000000 in
/-- The number is not among them. -/
theorem hi_place_miss (F : Nat → Prop) (g : Nat) (v : Value) (m : Nat) (rs : List NR) (n : Int) (i : Nat) (w : World) (h : HistC w F g v m rs) (hp : Place rs n i) (hn : ∀ hi : i < rs.length, rs[i].1 ≠ n) (hm : rs.length ≤ 1000) :
    Calls Try.prog 46 #[.pointer (some ⟨g, 0, none⟩), .int .i64 n] w fun e w' => e = .returned (.tuple #[.int .i64 i, .bool false]) ∧ Below w.heap.size w w' := by
  have HS := Lib.hid (boxed_search F g v m rs n i w h hp hm)
  obtain ⟨a, c, rfl⟩ := h.sl.shape
  have hb := h.upd (boxed_upd g n w) (fun _ _ h => h)
  obtain ⟨a1, a2⟩ := boxed_at g n w
  have hB : Below w.heap.size w (boxed g n w) := (boxed_upd g n w).below (Nat.le_refl _) (fun _ _ h => h.elim)
  obtain ⟨hg0, p0', q0', p1', q1'⟩ := h.at_.two
  obtain ⟨W0, hW0⟩ : ∃ W0, W0 = boxed g n w := ⟨_, rfl⟩
  rw [← hW0] at HS hb hB a1 a2
  unfold boxed at hW0
  have HW0 := Lib.hid hW0
  clear hW0
  have hp0 := hp.1
  obtain ⟨hg, p0, q0, p1, q1⟩ := hb.at_.two
  obtain ⟨hg2, r0, s0⟩ := a1.one
  obtain ⟨hg3, r1, s1⟩ := a2.one
  by_cases hi : i < rs.length
  · obtain ⟨_, b, off, rfl, c0, c1, z0, z1, hf, hne, hbb⟩ := hb.cell i hi
    have hn' := hn hi
    clear a1 a2 hb hn h hp
    have hii : (i : Int) < (rs.length : Int) := by omega
    generalize rs[i].1 = z at *
    have hnn : (z == n) = false := by simpa using hn'
    go_enter Try.func46, Try.ntmps46
    go_wp2_with (go_at_call 51; rw [← HW0.out]; refine HS.out.mono ?_; rintro e w' ⟨rfl, nq, rfl⟩)
    go_quiet (fail)
    go_wp2
    go_ret2
    exact ⟨rfl, below_drewN (below_drewN hB _) _⟩
  · clear a1 a2 hb hn h hp
    have hii : decide ((i : Int) < (rs.length : Int)) = false := by simp; omega
    go_enter Try.func46, Try.ntmps46
    go_wp2_with (go_at_call 51; rw [← HW0.out]; refine HS.out.mono ?_; rintro e w' ⟨rfl, nq, rfl⟩)
    go_quiet (fail)
    go_wp2
    go_ret2
    exact ⟨rfl, below_drewN (below_drewN hB _) _⟩
end Go.Proofs.Ythpnkjnieljdiaa
