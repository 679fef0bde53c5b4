/- Rows of whatever plain data came in: cell by cell. -/
import Derived.Test.YtiahiadipmmgcaaKBase
namespace Go.Proofs.Ytiahiadipmmgcaa
set_option maxRecDepth 4000
open Go.ChangeShapes Go.WideShapes Go.ChangeAt Go.RowKit
set_option linter.unusedVariables false
set_option linter.unusedSimpArgs false

/-- A row of data, m cells each: what the cells of each are. -/
structure RowG {α : Type} (w : World) (m : Nat) (f : α → List Value) (a : Option Addr) (l : List α) : Prop where
  at_ : ∀ (i : Nat) (h : i < l.length), ∃ b off, a = some ⟨b, off, none⟩ ∧ b < w.heap.size ∧ ∀ j, j < m → w.cell? ⟨b, off + i * m + j, none⟩ = (f l[i])[j]?
theorem RowG.upd {α : Type} {S : Nat → Prop} {w w' : World} {m : Nat} {f : α → List Value} {a : Option Addr} {l : List α} (h : RowG w m f a l) (hu : Upd S w w') (hn : ∀ p, a = some p → ¬ S p.block) : RowG w' m f a l :=
  ⟨fun i hi => by
    obtain ⟨b, off, h1, h2, h3⟩ := h.at_ i hi
    exact ⟨b, off, h1, Nat.lt_of_lt_of_le h2 hu.size, fun j hj => by rw [hu.cell (p := ⟨b, off + i * m + j, none⟩) h2 (hn ⟨b, off, none⟩ h1)]; exact h3 j hj⟩⟩
theorem RowG.below {α : Type} {w w' : World} {m : Nat} {f : α → List Value} {a : Option Addr} {l : List α} (h : RowG w m f a l) (hb : Below w.heap.size w w') : RowG w' m f a l :=
  ⟨fun i hi => by
    obtain ⟨b, off, h1, h2, h3⟩ := h.at_ i hi
    exact ⟨b, off, h1, Nat.lt_of_lt_of_le h2 hb.size, fun j hj => by rw [hb.cell (p := ⟨b, off + i * m + j, none⟩) h2]; exact h3 j hj⟩⟩
theorem RowG.cell {α : Type} {w : World} {m : Nat} {f : α → List Value} {b off : Nat} {l : List α} (h : RowG w m f (some ⟨b, off, none⟩) l) (i : Nat) (hi : i < l.length) : b < w.heap.size ∧ ∀ j, j < m → w.cell? ⟨b, off + i * m + j, none⟩ = (f l[i])[j]? := by
  obtain ⟨b', off', e, h1, h2⟩ := h.at_ i hi
  cases e
  exact ⟨h1, h2⟩

theorem cells_list {w : World} {a : Addr} : ∀ (L : List Nat) (cs : List Value), L.mapM (fun i => w.cell? (a.add i)) = some cs → L.length = cs.length ∧ ∀ j (hj : j < L.length), w.cell? (a.add L[j]) = cs[j]? := by
  intro L
  induction L with
  | nil => intro cs h; simp at h; subst h; exact ⟨rfl, fun j hj => by simp at hj⟩
  | cons x r ih =>
    intro cs h
    rw [List.mapM_cons] at h
    cases hx : w.cell? (a.add x) with
    | none => rw [hx] at h; simp at h
    | some v =>
      rw [hx] at h
      cases hr : r.mapM (fun i => w.cell? (a.add i)) with
      | none => rw [hr] at h; simp at h
      | some vs =>
        rw [hr] at h
        simp at h
        subst h
        obtain ⟨h1, h2⟩ := ih vs hr
        refine ⟨by simp [h1], fun j hj => ?_⟩
        cases j with
        | zero => simpa using hx
        | succ j =>
          have := h2 j (by simpa using hj)
          simpa using this
theorem cells_nth {w : World} {a : Addr} {m : Nat} {cs : List Value} (h : w.cells? 0 a m = some cs) : ∀ j, j < m → w.cell? (a.add j) = cs[j]? := by
  have h' : (List.range m).mapM (fun i => w.cell? (a.add i)) = some cs := by
    unfold World.cells? at h
    rw [if_pos (Nat.zero_le _)] at h
    exact h
  obtain ⟨h1, h2⟩ := cells_list _ _ h'
  intro j hj
  have := h2 j (by simpa using hj)
  simpa using this
theorem cells_len {w : World} {a : Addr} {m : Nat} {cs : List Value} (h : w.cells? 0 a m = some cs) : cs.length = m := by
  have h' : (List.range m).mapM (fun i => w.cell? (a.add i)) = some cs := by
    unfold World.cells? at h
    rw [if_pos (Nat.zero_le _)] at h
    exact h
  have := (cells_list _ _ h').1
  simpa using this.symm

/-- A row of a shape whose cells are told by the datum alone. -/
theorem Rd.rowG {s : Sh} (m : Nat) (hm : s.n = m) (h0 : 0 < m) (f : s.T → List Value) (Q : s.T → Prop) (hf : ∀ w cs d, Rd w s cs d → cs = f d ∧ Q d) {w : World} {a : Option Addr} {n c : Nat} {l : List s.T} (h : Rd w (.sl s) [.slice a n c] l) :
    n = l.length ∧ n ≤ c ∧ c ≤ maxLen ∧ RowG w m f a l ∧ ∀ x ∈ l, Q x := by
  subst hm
  rcases h with ⟨h1, h2⟩ | ⟨x, cap, el, h1, hl, hmx, hx⟩
  · simp at h1
    have h3 : l = [] := h2
    subst h3
    obtain ⟨rfl, rfl, rfl⟩ := h1
    exact ⟨rfl, Nat.le_refl _, Nat.zero_le _, ⟨fun i hi => by simp at hi⟩, by simp⟩
  · simp at h1
    obtain ⟨rfl, rfl, rfl⟩ := h1
    have hx' : ∀ (i : Nat) (hi : i < l.length), (∀ j, j < s.n → w.cell? ((x.add (i * s.n)).add j) = (f l[i])[j]?) ∧ (f l[i]).length = s.n ∧ Q l[i] := by
      intro i hi
      obtain ⟨h1, h2⟩ := hx i l[i] (List.getElem?_eq_getElem hi)
      obtain ⟨e, hq⟩ := hf w _ _ h2
      rw [e] at h1
      exact ⟨cells_nth h1, cells_len h1, hq⟩
    refine ⟨rfl, hl, hmx, ⟨fun i hi => ?_⟩, fun y hy => ?_⟩
    · obtain ⟨d0, e0, _⟩ := hx' 0 (by omega)
      have c0 := d0 0 h0
      rw [List.getElem?_eq_getElem (by omega)] at c0
      have hs : x.spot = none := by have := cell_spot c0; simpa [Addr.add] using this
      obtain ⟨b, off, sp⟩ := x
      simp at hs
      subst hs
      refine ⟨b, off, rfl, by simpa [Addr.add] using cell_lt c0, fun j hj => ?_⟩
      have := (hx' i hi).1 j hj
      rw [Addr.add_lit, Addr.add_lit] at this
      exact this
    · obtain ⟨i, hi, rfl⟩ := List.mem_iff_getElem.1 hy
      exact (hx' i hi).2.2
end Go.Proofs.Ytiahiadipmmgcaa
