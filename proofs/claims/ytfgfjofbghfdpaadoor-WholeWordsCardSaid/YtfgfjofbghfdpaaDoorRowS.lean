/- Rows of texts that came in. -/
import Derived.Test.YtfgfjofbghfdpaaDoorKBase
namespace Go.Proofs.YtfgfjofbghfdpaaDoor
set_option maxRecDepth 4000
open Go.ChangeShapes Go.WideShapes Go.ChangeAt Go.RowKit
set_option linter.unusedVariables false
set_option linter.unusedSimpArgs false

def sv (l : List ByteArray) : List Value := l.map fun s => Value.string s
theorem sv_len (l : List ByteArray) : (sv l).length = l.length := List.length_map _
theorem sv_snoc (l : List ByteArray) (x : ByteArray) : sv (l ++ [x]) = sv l ++ [.string x] := by simp [sv]
theorem sv_drop (l : List ByteArray) (n : Nat) : sv (l.drop n) = (sv l).drop n := by simp [sv]

/-- A row of texts that can be read: cell by cell. -/
structure RowS (w : World) (a : Option Addr) (l : List ByteArray) : Prop where
  at_ : ∀ (i : Nat) (h : i < l.length), ∃ b off, a = some ⟨b, off, none⟩ ∧ b < w.heap.size ∧ w.cell? ⟨b, off + i, none⟩ = some (.string l[i])
theorem RowS.below {w w' : World} {a : Option Addr} {l : List ByteArray} (h : RowS w a l) (hb : Below w.heap.size w w') : RowS w' a l :=
  ⟨fun i hi => by
    obtain ⟨b, off, h1, h2, h3⟩ := h.at_ i hi
    exact ⟨b, off, h1, Nat.lt_of_lt_of_le h2 hb.size, by rw [hb.cell (p := ⟨b, off + i, none⟩) h2]; exact h3⟩⟩
theorem RowS.cell {w : World} {b off : Nat} {l : List ByteArray} (h : RowS w (some ⟨b, off, none⟩) l) (i : Nat) (hi : i < l.length) : b < w.heap.size ∧ w.cell? ⟨b, off + i, none⟩ = some (.string l[i]) := by
  obtain ⟨b', off', e, h1, h2⟩ := h.at_ i hi
  cases e
  exact ⟨h1, h2⟩
theorem Rd.strs {w : World} {a : Option Addr} {n c : Nat} {l : List ByteArray} (h : Rd w (.sl .str) [.slice a n c] l) : n = l.length ∧ n ≤ c ∧ c ≤ maxLen ∧ RowS w a l := by
  rcases h with ⟨h1, h2⟩ | ⟨x, cap, el, h1, hl, hm, hx⟩
  · simp at h1
    have h3 : l = [] := h2
    subst h3
    obtain ⟨rfl, rfl, rfl⟩ := h1
    exact ⟨rfl, Nat.le_refl _, Nat.zero_le _, ⟨fun i hi => by simp at hi⟩⟩
  · simp at h1
    obtain ⟨rfl, rfl, rfl⟩ := h1
    have hx' : ∀ (i : Nat) (y : ByteArray), l[i]? = some y → w.cells? 0 (x.add i) 1 = some (el i) ∧ el i = [.string y] ∧ y.size ≤ maxLen := by
      intro i y hy
      have h0 := hx i y hy
      have hb : w.cells? 0 (x.add (i * 1)) 1 = some (el i) := h0.1
      rw [Nat.mul_one] at hb
      exact ⟨hb, h0.2⟩
    refine ⟨rfl, hl, hm, ⟨fun i hi => ?_⟩⟩
    have h0 := hx' 0 (l[0]'(by omega)) (List.getElem?_eq_getElem (by omega))
    have hi' := hx' i l[i] (List.getElem?_eq_getElem hi)
    obtain ⟨v0, _, c0⟩ := cells_one h0.1
    obtain ⟨vi, e1, ci⟩ := cells_one hi'.1
    have hs : x.spot = none := by have := cell_spot c0; simpa [Addr.add] using this
    obtain ⟨b, off, sp⟩ := x
    simp at hs
    subst hs
    refine ⟨b, off, rfl, by have := cell_lt c0; simpa [Addr.add] using this, ?_⟩
    have e2 : (Addr.mk b off none).add i = ⟨b, off + i, none⟩ := by unfold Addr.add; by_cases h0 : i = 0 <;> simp [h0]
    rw [e2] at ci
    rw [ci]
    have : vi = .string l[i] := by
      have := hi'.2.1; rw [e1] at this; simpa using this
    rw [this]
end Go.Proofs.YtfgfjofbghfdpaaDoor
