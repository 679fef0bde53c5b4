/- Cells that a call owns, one behind the other, by a function of the place: read, written, carried on. -/
import Derived.Test.YthpnkjnieljdiaaMem
namespace Go.Proofs.Ythpnkjnieljdiaa
open Go.ChangeShapes Go.WideShapes Go.ChangeAt Go.RowKit

/-- n cells of block g, from place off on, hold f 0, f 1 .. and may be written. -/
structure Own (w : World) (g off n : Nat) (f : Nat → Value) : Prop where
  lt : g < w.heap.size
  cell : ∀ j, j < n → w.cell? ⟨g, off + j, none⟩ = some (f j)
  free : ∀ j, j < n → w.frozen? ⟨g, off + j, none⟩ = false

theorem Own.upd {S : Nat → Prop} {w w' : World} {g off n : Nat} {f : Nat → Value} (h : Own w g off n f) (hu : Upd S w w') (hn : ¬ S g) : Own w' g off n f :=
  ⟨Nat.lt_of_lt_of_le h.lt hu.size, fun j hj => (hu.cell (p := ⟨g, off + j, none⟩) h.lt hn).trans (h.cell j hj), fun j hj => (hu.frozen (p := ⟨g, off + j, none⟩) h.lt hn).trans (h.free j hj)⟩
theorem Own.below {B : Nat} {w w' : World} {g off n : Nat} {f : Nat → Value} (h : Own w g off n f) (hb : Below B w w') (hg : g < B) : Own w' g off n f :=
  h.upd (S := fun k => B ≤ k) (Upd.of_below hb (fun _ _ h => h)) (by omega)
theorem Own.drewN {w : World} {g off n : Nat} {f : Nat → Value} (h : Own w g off n f) (m : Nat) : Own (w.drewN m) g off n f :=
  h.upd (S := fun _ => False) ((Upd.refl _ _).drewN m) id
theorem Own.drew {w : World} {g off n : Nat} {f : Nat → Value} (h : Own w g off n f) : Own w.drew g off n f :=
  h.upd (S := fun _ => False) ((Upd.refl _ _).drew) id
theorem Own.alloc {w : World} {g off n : Nat} {f : Nat → Value} (h : Own w g off n f) (o : Obj) : Own (w.alloc o) g off n f :=
  h.upd (S := fun _ => False) ((Upd.refl _ _).alloc o) id
theorem Own.congr {w : World} {g off n : Nat} {f f' : Nat → Value} (h : Own w g off n f) (hf : ∀ j, j < n → f j = f' j) : Own w g off n f' :=
  ⟨h.lt, fun j hj => by rw [h.cell j hj, hf j hj], h.free⟩

/-- One cell written. -/
theorem Own.set {w : World} {g off n : Nat} {f : Nat → Value} (h : Own w g off n f) (j : Nat) (hj : j < n) (u : Value) : Own (w.setCell ⟨g, off + j, none⟩ u) g off n (fun i => if i = j then u else f i) := by
  have hu : w.heap.size ≤ (w.setCell ⟨g, off + j, none⟩ u).heap.size := by simp [World.setCell]
  refine ⟨Nat.lt_of_lt_of_le h.lt hu, fun i hi => ?_, fun i hi => ?_⟩
  · by_cases e : i = j
    · subst e
      rw [if_pos rfl]
      exact World.cell?_setCell_same w ⟨g, off + i, none⟩ u (h.cell i hi)
    · rw [if_neg e, World.cell?_setCell_other]
      · exact h.cell i hi
      · exact fun hx => e (by have := congrArg Addr.off hx; simp at this; omega)
  · rw [World.frozen?_setCell]
    exact h.free i hi

/-- One cell more is filled. -/
theorem Own.fill {w : World} {g off n k : Nat} {F G : Nat → Value} (h : Own w g off n (fun j => if j < k then F j else G j)) (hk : k < n) : Own (w.setCell ⟨g, off + k, none⟩ (F k)) g off n (fun j => if j < k + 1 then F j else G j) :=
  (h.set k hk (F k)).congr (fun j hj => by
    show (if j = k then _ else _) = _
    by_cases e : j = k
    · subst e; rw [if_pos rfl, if_pos (by omega)]
    · rw [if_neg e]
      by_cases e2 : j < k
      · rw [if_pos e2, if_pos (by omega)]
      · rw [if_neg e2, if_neg (by omega)])

theorem cell_on {B : Nat} {w w' : World} (hb : Below B w w') {p : Addr} {v : Value} (h : w.cell? p = some v) (hp : p.block < B) : w'.cell? p = some v := (hb.cell hp).trans h
theorem free_on {B : Nat} {w w' : World} (hb : Below B w w') {p : Addr} {v : Bool} (h : w.frozen? p = v) (hp : p.block < B) : w'.frozen? p = v := (hb.frozen hp).trans h
end Go.Proofs.Ythpnkjnieljdiaa
