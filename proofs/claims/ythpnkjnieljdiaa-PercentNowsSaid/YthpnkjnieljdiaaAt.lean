/- Cells of one block of the call's own, from its first on: what they hold, and that they may be written. -/
import Derived.Test.YthpnkjnieljdiaaMem
namespace Go.Proofs.Ythpnkjnieljdiaa
open Go.ChangeShapes Go.WideShapes Go.ChangeAt Go.RowKit
set_option linter.unusedVariables false

/-- Block g holds these cells first, and they may be written. -/
def At (w : World) (g : Nat) (l : List Value) : Prop := g < w.heap.size ∧ ∀ j (h : j < l.length), w.cell? ⟨g, j, none⟩ = some l[j] ∧ w.frozen? ⟨g, j, none⟩ = false
theorem At.alloc (w : World) (l : List Value) (e : TypeId) : At (w.alloc (.cells l.toArray e)) w.heap.size l := by
  refine ⟨by simp, fun j hj => ⟨?_, ?_⟩⟩
  · rw [cell_of_row _ w.heap.size j _ e (0, 0) (heap_alloc_new w _)]
    simp [hj]
  · have e0 := heap_alloc_new w (.cells l.toArray e (0, 0))
    simp only [World.frozen?, e0]
    simp
theorem At.upd {S : Nat → Prop} {w w' : World} {g : Nat} {l : List Value} (h : At w g l) (hu : Upd S w w') (hn : ¬ S g) : At w' g l :=
  ⟨Nat.lt_of_lt_of_le h.1 hu.size, fun j hj => ⟨(hu.cell (p := ⟨g, j, none⟩) h.1 hn).trans (h.2 j hj).1, (hu.frozen (p := ⟨g, j, none⟩) h.1 hn).trans (h.2 j hj).2⟩⟩
theorem At.on {w w' : World} {g : Nat} {l : List Value} (h : At w g l) (hb : Below w.heap.size w w') : At w' g l :=
  h.upd (S := fun k => w.heap.size ≤ k) (Upd.of_below hb (fun _ _ h => h)) (by have := h.1; omega)
theorem At.below {B : Nat} {w w' : World} {g : Nat} {l : List Value} (h : At w g l) (hb : Below B w w') (hg : g < B) : At w' g l :=
  h.upd (S := fun k => B ≤ k) (Upd.of_below hb (fun _ _ h => h)) (by omega)
theorem At.drew {w : World} {g : Nat} {l : List Value} (h : At w g l) : At w.drew g l := h.upd (S := fun _ => False) ((Upd.refl _ _).drew) id

theorem At.drewN {w : World} {g : Nat} {l : List Value} (h : At w g l) (n : Nat) : At (w.drewN n) g l := h.upd (S := fun _ => False) ((Upd.refl _ _).drewN n) id

theorem At.one {w : World} {g : Nat} {a : Value} (h : At w g [a]) : g < w.heap.size ∧ w.cell? ⟨g, 0, none⟩ = some a ∧ w.frozen? ⟨g, 0, none⟩ = false :=
  ⟨h.1, (h.2 0 (by simp)).1, (h.2 0 (by simp)).2⟩
theorem At.two {w : World} {g : Nat} {a b : Value} (h : At w g [a, b]) : g < w.heap.size ∧ w.cell? ⟨g, 0, none⟩ = some a ∧ w.frozen? ⟨g, 0, none⟩ = false ∧ w.cell? ⟨g, 1, none⟩ = some b ∧ w.frozen? ⟨g, 1, none⟩ = false :=
  ⟨h.1, (h.2 0 (by simp)).1, (h.2 0 (by simp)).2, (h.2 1 (by simp)).1, (h.2 1 (by simp)).2⟩
theorem At.three {w : World} {g : Nat} {a b c : Value} (h : At w g [a, b, c]) : g < w.heap.size ∧ w.cell? ⟨g, 0, none⟩ = some a ∧ w.frozen? ⟨g, 0, none⟩ = false ∧ w.cell? ⟨g, 1, none⟩ = some b ∧ w.frozen? ⟨g, 1, none⟩ = false ∧ w.cell? ⟨g, 2, none⟩ = some c ∧ w.frozen? ⟨g, 2, none⟩ = false :=
  ⟨h.1, (h.2 0 (by simp)).1, (h.2 0 (by simp)).2, (h.2 1 (by simp)).1, (h.2 1 (by simp)).2, (h.2 2 (by simp)).1, (h.2 2 (by simp)).2⟩

theorem At.set {w : World} {g : Nat} {l : List Value} (h : At w g l) (i : Nat) (hi : i < l.length) (v : Value) : At (w.setCell ⟨g, i, none⟩ v) g (l.set i v) := by
  have hu : w.heap.size ≤ (w.setCell ⟨g, i, none⟩ v).heap.size := by simp [World.setCell]
  refine ⟨Nat.lt_of_lt_of_le h.1 hu, fun j hj => ⟨?_, ?_⟩⟩
  · by_cases e : i = j
    · subst e
      rw [List.getElem_set_self]
      exact World.cell?_setCell_same w ⟨g, i, none⟩ v (h.2 i hi).1
    · rw [List.getElem_set_ne e, World.cell?_setCell_other]
      · exact (h.2 j (by simpa using hj)).1
      · exact fun hx => e (by have := congrArg Addr.off hx; simp at this; omega)
  · rw [World.frozen?_setCell]
    exact (h.2 j (by simpa using hj)).2
/-- Three cells written, one behind the other: each holds what was written. -/
theorem At.put3 {w : World} {g : Nat} {a b c : Value} (h : At w g [a, b, c]) :
    (∀ x, (w.setCell ⟨g, 0, none⟩ x).cell? ⟨g, 0, none⟩ = some x) ∧ (∀ x y, ((w.setCell ⟨g, 0, none⟩ x).setCell ⟨g, 1, none⟩ y).cell? ⟨g, 1, none⟩ = some y) ∧ (∀ x y z, (((w.setCell ⟨g, 0, none⟩ x).setCell ⟨g, 1, none⟩ y).setCell ⟨g, 2, none⟩ z).cell? ⟨g, 2, none⟩ = some z) :=
  ⟨fun x => ((h.set 0 (by simp) x).2 0 (by simp)).1, fun x y => (((h.set 0 (by simp) x).set 1 (by simp) y).2 1 (by simp)).1, fun x y z => ((((h.set 0 (by simp) x).set 1 (by simp) y).set 2 (by simp) z).2 2 (by simp)).1⟩

theorem At.five {w : World} {g : Nat} {a b c d e : Value} (h : At w g [a, b, c, d, e]) : g < w.heap.size ∧ w.cell? ⟨g, 0, none⟩ = some a ∧ w.frozen? ⟨g, 0, none⟩ = false ∧ w.cell? ⟨g, 1, none⟩ = some b ∧ w.frozen? ⟨g, 1, none⟩ = false ∧ w.cell? ⟨g, 2, none⟩ = some c ∧ w.frozen? ⟨g, 2, none⟩ = false ∧ w.cell? ⟨g, 3, none⟩ = some d ∧ w.frozen? ⟨g, 3, none⟩ = false ∧ w.cell? ⟨g, 4, none⟩ = some e ∧ w.frozen? ⟨g, 4, none⟩ = false :=
  ⟨h.1, (h.2 0 (by simp)).1, (h.2 0 (by simp)).2, (h.2 1 (by simp)).1, (h.2 1 (by simp)).2, (h.2 2 (by simp)).1, (h.2 2 (by simp)).2, (h.2 3 (by simp)).1, (h.2 3 (by simp)).2, (h.2 4 (by simp)).1, (h.2 4 (by simp)).2⟩
/-- Five cells written. -/
theorem At.put5 {w : World} {g : Nat} {a b c d e : Value} (h : At w g [a, b, c, d, e]) :
    (∀ x, (w.setCell ⟨g, 0, none⟩ x).cell? ⟨g, 0, none⟩ = some x) ∧ (∀ x y, ((w.setCell ⟨g, 0, none⟩ x).setCell ⟨g, 1, none⟩ y).cell? ⟨g, 1, none⟩ = some y) ∧ (∀ x y z, (((w.setCell ⟨g, 0, none⟩ x).setCell ⟨g, 1, none⟩ y).setCell ⟨g, 2, none⟩ z).cell? ⟨g, 2, none⟩ = some z) ∧
    (∀ x y z u, ((((w.setCell ⟨g, 0, none⟩ x).setCell ⟨g, 1, none⟩ y).setCell ⟨g, 2, none⟩ z).setCell ⟨g, 3, none⟩ u).cell? ⟨g, 3, none⟩ = some u) ∧ (∀ x y z u v, (((((w.setCell ⟨g, 0, none⟩ x).setCell ⟨g, 1, none⟩ y).setCell ⟨g, 2, none⟩ z).setCell ⟨g, 3, none⟩ u).setCell ⟨g, 4, none⟩ v).cell? ⟨g, 4, none⟩ = some v) :=
  ⟨fun x => ((h.set 0 (by simp) x).2 0 (by simp)).1, fun x y => (((h.set 0 (by simp) x).set 1 (by simp) y).2 1 (by simp)).1, fun x y z => ((((h.set 0 (by simp) x).set 1 (by simp) y).set 2 (by simp) z).2 2 (by simp)).1,
    fun x y z u => (((((h.set 0 (by simp) x).set 1 (by simp) y).set 2 (by simp) z).set 3 (by simp) u).2 3 (by simp)).1, fun x y z u v => ((((((h.set 0 (by simp) x).set 1 (by simp) y).set 2 (by simp) z).set 3 (by simp) u).set 4 (by simp) v).2 4 (by simp)).1⟩
end Go.Proofs.Ythpnkjnieljdiaa
