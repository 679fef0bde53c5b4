/- Whether an element came too early, as the statement asks it: what it keeps in memory. -/
import Derived.Test.YtmimfkhkilijcaaGreatKJuD
import Derived.Test.YtmimfkhkilijcaaGreatJuPlA
namespace Go.Proofs.YtmimfkhkilijcaaGreat
set_option maxRecDepth 4000
open Go.ChangeShapes Go.WideShapes Go.ChangeAt Go.RowKit
open PHist PRing PSat PClamp PBound PFrame PSign PTree PEv
set_option linter.unusedVariables false
set_option linter.unusedSimpArgs false

/-- Rows of records, each with cells of its own, in a row of one's own. -/
structure Nrc (B : Nat) (w : World) (g n : Nat) (v : Nat → Value) (f : Nat → List R) : Prop where
  row : Own w g 0 n v
  lo : B ≤ g
  sl : ∀ i, i < n → Sl B w 3 (v i) (f i).length (rv (f i))
  ag : ∀ i, i < n → ∀ k, (v i).ownBlock = some k → k ≠ g
  ap : ∀ i, i < n → ∀ j, j < n → i ≠ j → ∀ k, (v i).ownBlock = some k → (v j).ownBlock ≠ some k
section
variable {B : Nat} {w w1 w' : World} {g n : Nat} {v : Nat → Value} {f : Nat → List R}
theorem Nrc.on (h : Nrc B w g n v f) (hb : Below w.heap.size w w') : Nrc B w' g n v f := ⟨h.row.below hb h.row.lt, h.lo, fun i hi => (h.sl i hi).onW hb, h.ag, h.ap⟩
theorem Nrc.cell (h : Nrc B w g n v f) (i : Nat) (hi : i < n) : w.cell? ⟨g, i, none⟩ = some (v i) ∧ w.frozen? ⟨g, i, none⟩ = false := by
  have h1 := h.row.cell i hi
  have h3 := h.row.free i hi
  rw [Nat.zero_add] at h1 h3
  exact ⟨h1, h3⟩
theorem Nrc.more (h : Nrc B w g n v f) (hB : B ≤ w.heap.size) (hb : Below w.heap.size w w1) (i : Nat) (hi : i < n) (r : R) (v' : Value) (k1 : Sl B w' 3 v' ((f i).length + 1) (rv (f i) ++ rcells r)) (k2 : Upd (fun k => (v i).ownBlock = some k) w1 w') (k3 : ∀ k, v'.ownBlock = some k → (v i).ownBlock = some k ∨ w1.heap.size ≤ k) :
    Nrc B (w'.setCell ⟨g, i, none⟩ v') g n (put v i v') (put f i (f i ++ [r])) ∧ Below B w1 (w'.setCell ⟨g, i, none⟩ v') ∧ w'.frozen? ⟨g, i, none⟩ = false ∧ w'.cell? ⟨g, i, none⟩ = some (v i) := by
  have h1 := h.on hb
  have hgl := h1.row.lt
  have hgv : ∀ k, v'.ownBlock = some k → k ≠ g := fun k hk => by
    rcases k3 k hk with h5 | h5
    · exact h.ag i hi k h5
    · omega
  have hu : Upd (fun k => k = g) w' (w'.setCell ⟨g, i, none⟩ v') := (Upd.refl (fun k => k = g) w').setCell (p := ⟨g, i, none⟩) (fun _ => rfl) _
  have hr1 := h1.row.upd k2 (fun e => h.ag i hi _ e rfl)
  have hr2 := hr1.set i hi v'
  rw [Nat.zero_add] at hr2
  have hB1 : B ≤ w1.heap.size := Nat.le_trans hB hb.size
  refine ⟨⟨hr2.congr fun j hj => ?_, h.lo, fun j hj => ?_, fun j hj => ?_, fun a ha b hb' hab => ?_⟩, ?_, ?_, ?_⟩
  · unfold PTree.put; rfl
  · unfold PTree.put
    by_cases e : j = i
    · subst e
      rw [if_pos rfl, if_pos rfl, List.length_append, rv_append, show rv [r] = rcells r from List.append_nil _]
      exact k1.upd hu (fun k hk e => hgv k hk e)
    · rw [if_neg e, if_neg e]
      exact ((h1.sl j hj).upd k2 (fun k hk e2 => h.ap j hj i hi e k hk e2)).upd hu (fun k hk e2 => h.ag j hj k hk e2)
  · unfold PTree.put
    by_cases e : j = i
    · subst e; rw [if_pos rfl]; exact hgv
    · rw [if_neg e]; exact h.ag j hj
  · unfold PTree.put
    intro k hk
    by_cases ea : a = i
    · subst ea
      rw [if_pos rfl] at hk
      rw [if_neg (fun e => hab e.symm)]
      intro hk2
      rcases k3 k hk with h5 | h5
      · exact h.ap a ha b hb' hab k h5 hk2
      · have := ((h1.sl b hb').lt k hk2).2; omega
    · rw [if_neg ea] at hk
      by_cases eb : b = i
      · subst eb
        rw [if_pos rfl]
        intro hk2
        rcases k3 k hk2 with h5 | h5
        · exact h.ap a ha b hb' hab k hk h5
        · have := ((h1.sl a ha).lt k hk).2; omega
      · rw [if_neg eb]
        exact h.ap a ha b hb' hab k hk
  · exact ((Below.refl B w1).upd k2 hB1 (fun k hk e => ((h1.sl i hi).lt k e).1)).upd hu (Nat.le_trans hB1 k2.size) (fun k _ e => by rw [e]; exact h.lo)
  · have := hr1.free i hi
    rwa [Nat.zero_add] at this
  · have := hr1.cell i hi
    rwa [Nat.zero_add] at this
end
theorem nrc_made (w : World) (n : Nat) (t : TypeId) : Nrc w.heap.size (w.alloc (.cells (madeCells #[.slice none 0 0] n) t)) w.heap.size n (fun _ => .slice none 0 0) (fun _ => []) :=
  ⟨own_row w (.slice none 0 0) n t, Nat.le_refl _, fun i hi => Sl.nil _ _ _, fun i hi k hk => by simp [Value.ownBlock] at hk, fun i hi j hj hij k hk => by simp [Value.ownBlock] at hk⟩
end Go.Proofs.YtmimfkhkilijcaaGreat
