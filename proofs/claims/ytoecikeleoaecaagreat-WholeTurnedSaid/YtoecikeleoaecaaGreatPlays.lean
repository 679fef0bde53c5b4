/- A source and its model, side by side: what comes out of choices, and of fewer. -/
import Derived.Test.YtoecikeleoaecaaGreatSpeaks24
namespace Go.Proofs.YtoecikeleoaecaaGreat
set_option maxRecDepth 4000
open Go.ChangeShapes Go.WideShapes Go.ChangeAt Go.RowKit
open PHist PRing PSat PClamp PBound PFrame PVar PCrc PSign PTree PEv
set_option linter.unusedVariables false
set_option linter.unusedSimpArgs false

theorem RowG.take {α : Type} {w : World} {m : Nat} {f : α → List Value} {a : Option Addr} {l : List α} (h : RowG w m f a l) (k : Nat) : RowG w m f a (l.take k) :=
  ⟨fun i hi => by
    rw [List.length_take] at hi
    rw [List.getElem_take]
    exact h.at_ i (by omega)⟩
theorem RowE.take {w : World} {a : Option Addr} {l m : List Ev} (h : RowE w a (l ++ m)) : RowE w a l :=
  ⟨fun i hi => by
    have h1 := h.at_ i (by rw [List.length_append]; omega)
    rw [List.getElem_append_left hi] at h1
    exact h1⟩
/-- Events, and an error or none. -/
def PlayZ (l : List Ev) (z : Int) (w : World) (e : Ending) (w' : World) : Prop := ∃ a c, e = .returned (.tuple #[.slice a l.length c, .int .i64 z]) ∧ l.length ≤ c ∧ c ≤ maxLen ∧ RowE w' a l ∧ Below w.heap.size w w'
theorem PlayZ.of {l : List Ev} {w : World} {e : Ending} {w' : World} (h : PlayPost l w e w') : PlayZ l 0 w e w' := by
  obtain ⟨v, h1, h2, h3⟩ := h
  obtain ⟨a, c, hv⟩ := h2.shape
  subst hv
  obtain ⟨-, a', c', hv, hr⟩ := rowe_of_sl h2
  cases hv
  exact ⟨a, c, h1, h2.cap.1, h2.cap.2, hr, h3⟩
end Go.Proofs.YtoecikeleoaecaaGreat
