/- What comes in, as the walks ask for it: rows of numbers. -/
import Derived.Test.YthpnkjnieljdiaaRd
import Derived.WalkSmall
namespace Go.Proofs.Ythpnkjnieljdiaa
open Go.ChangeShapes Go.WideShapes Go.ChangeAt Go.RowKit

/-- A row of numbers that can be read: cell by cell. -/
structure RowI (w : World) (k : IntKind) (a : Option Addr) (l : List Int) : Prop where
  len : l.length ≤ maxLen
  at_ : ∀ (i : Nat) (h : i < l.length), ∃ b off, a = some ⟨b, off, none⟩ ∧ b < w.heap.size ∧ w.cell? ⟨b, off + i, none⟩ = some (.int k l[i])
  wf : ∀ n ∈ l, (Lit.int k n).wf = true

theorem cell_lt {w : World} {a : Addr} {v : Value} (h : w.cell? a = some v) : a.block < w.heap.size := by
  unfold World.cell? at h
  by_cases hb : a.block < w.heap.size
  · exact hb
  · rw [Array.getElem?_eq_none (by omega)] at h
    cases h

theorem cell_spot {w : World} {a : Addr} {v : Value} (h : w.cell? a = some v) : a.spot = none := by
  unfold World.cell? at h
  split at h
  · by_cases hs : a.spot.isSome
    · rw [if_pos hs] at h; cases h
    · cases ha : a.spot with
      | none => rfl
      | some x => simp [ha] at hs
  · cases h

theorem cells_one {w : World} {a : Addr} {cs : List Value} (h : w.cells? 0 a 1 = some cs) : ∃ v, cs = [v] ∧ w.cell? a = some v := by
  have e : List.range 1 = [0] := rfl
  cases hv : w.cell? a with
  | none => simp [World.cells?, e, Addr.add, hv] at h
  | some v => exact ⟨v, by simp [World.cells?, e, Addr.add, hv] at h; exact h.symm, rfl⟩

theorem Rd.ints {w : World} {k : IntKind} {a : Option Addr} {n c : Nat} {l : List Int} (h : Rd w (.sl (.int k)) [.slice a n c] l) : n = l.length ∧ RowI w k a l := by
  rcases h with ⟨h1, h2⟩ | ⟨x, cap, el, h1, hl, hm, hx⟩
  · simp at h1
    have h3 : l = [] := h2
    subst h3
    exact ⟨h1.2.1, by simp, fun i hi => by simp at hi, by simp⟩
  · simp at h1
    obtain ⟨rfl, rfl, rfl⟩ := h1
    have hx' : ∀ (i : Nat) (y : Int), l[i]? = some y → w.cells? 0 (x.add i) 1 = some (el i) ∧ el i = [.int k y] ∧ (Lit.int k y).wf = true := by
      intro i y hy
      have h0 := hx i y hy
      have hb : w.cells? 0 (x.add (i * 1)) 1 = some (el i) := h0.1
      rw [Nat.mul_one] at hb
      exact ⟨hb, h0.2⟩
    refine ⟨rfl, Nat.le_trans hl hm, fun i hi => ?_, fun y hy => ?_⟩
    · have h0 := hx' 0 (l[0]'(by omega)) (List.getElem?_eq_getElem (by omega))
      have hi' := hx' i l[i] (List.getElem?_eq_getElem hi)
      obtain ⟨v0, _, c0⟩ := cells_one h0.1
      obtain ⟨vi, e1, ci⟩ := cells_one hi'.1
      have hs : x.spot = none := by have := cell_spot c0; simpa [Addr.add] using this
      obtain ⟨b, off, sp⟩ := x
      simp at hs
      subst hs
      refine ⟨b, off, rfl, by have := cell_lt c0; simpa [Addr.add] using this, ?_⟩
      have e2 : (Addr.mk b off none).add i = ⟨b, off + i, none⟩ := by unfold Addr.add; by_cases h0 : i = 0 <;> simp [h0]
      rw [e2] at ci
      rw [ci]
      have : vi = .int k l[i] := by
        have := hi'.2.1; rw [e1] at this; simpa using this
      rw [this]
    · obtain ⟨i, hi, rfl⟩ := List.mem_iff_getElem.1 hy
      exact (hx' i _ (List.getElem?_eq_getElem hi)).2.2

theorem RowI.below {w w' : World} {k : IntKind} {a : Option Addr} {l : List Int} (h : RowI w k a l) (hb : Below w.heap.size w w') : RowI w' k a l :=
  ⟨h.len, fun i hi => by
    obtain ⟨b, off, h1, h2, h3⟩ := h.at_ i hi
    exact ⟨b, off, h1, Nat.lt_of_lt_of_le h2 hb.size, by rw [hb.cell (p := ⟨b, off + i, none⟩) h2]; exact h3⟩, h.wf⟩

theorem RowI.bound {w : World} {a : Option Addr} {l : List Int} (h : RowI w .i64 a l) (i : Nat) (hi : i < l.length) : -9223372036854775808 ≤ l[i] ∧ l[i] ≤ 9223372036854775807 :=
  bounds_i64 (h.wf _ (List.getElem_mem hi))

theorem Rd.int {w : World} {k : IntKind} {cs : List Value} {n : Int} (h : Rd w (.int k) cs n) : cs = [.int k n] ∧ (Lit.int k n).wf = true := h

/-- An array of two numbers. -/
theorem Rd.two {w : World} {k : IntKind} {c : Array Value} {d : List Int} (h : Rd w (.arr 2 (.int k)) c.toList d) : ∃ x y, c = #[.int k x, .int k y] ∧ (Lit.int k x).wf = true ∧ (Lit.int k y).wf = true := by
  obtain ⟨hl, hc, hx⟩ := h
  have hc' : c.toList.length = 2 := hc
  match d, hl, hx with
  | [x, y], hl, hx =>
    have h0 := hx 0 x rfl
    have h1 := hx 1 y rfl
    have e0 := h0.1
    have e1 := h1.1
    have w0 : (Lit.int k x).wf = true := h0.2
    have w1 : (Lit.int k y).wf = true := h1.2
    refine ⟨x, y, ?_, w0, w1⟩
    obtain ⟨cl⟩ := c
    match cl, hc' with
    | [u, v], _ =>
      have e0' : u = .int k x := by simpa [Sh.n] using e0
      have e1' : v = .int k y := by simpa [Sh.n] using e1
      rw [e0', e1']
end Go.Proofs.Ythpnkjnieljdiaa
