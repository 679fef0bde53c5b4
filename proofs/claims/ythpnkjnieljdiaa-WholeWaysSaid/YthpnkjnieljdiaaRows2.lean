/- Slices that own their cells: parts of them written over, copies into them, more and fewer of their elements. -/
import Derived.Test.YthpnkjnieljdiaaSub
import Derived.Test.YthpnkjnieljdiaaRingBase
import Derived.Laws.IdiomCopy
import Derived.Lib.SliceRun
import Derived.Lib.AppendZerosOnto
import Derived.Lib.Overlaps
import Derived.Laws.Externs
namespace Go.Proofs.Ythpnkjnieljdiaa
open Go.ChangeShapes Go.WideShapes Go.ChangeAt Go.RowKit
set_option linter.unusedVariables false
set_option linter.unusedSimpArgs false

/-- A part of it written over. -/
theorem Sl.over {B : Nat} {w : World} {size g off n cap : Nat} {xs : List Value} (h : Sl B w size (.slice (some ⟨g, off, none⟩) n cap) n xs) (p : Nat) (news : List Value) (hp : p + news.length ≤ n * size) :
    Sl B (w.setCells g (off + p) news) size (.slice (some ⟨g, off, none⟩) n cap) n (xs.take p ++ news ++ xs.drop (p + news.length)) := by
  have hl := h.1
  have hu := upd_setCells g (off + p) news w
  refine ⟨by simp only [List.length_append, List.length_take, List.length_drop]; omega, .inr ?_⟩
  rcases h.2 with ⟨h0, _⟩ | ⟨g', off', cap', e0, hb, hg, hn, hm, h3, h4⟩
  · cases h0
  · cases e0
    have hsm : n * size ≤ cap * size := Nat.mul_le_mul_right _ hn
    refine ⟨g, off, cap, rfl, hb, Nat.lt_of_lt_of_le hg hu.size, hn, hm, fun j hj => ?_, fun j hj => ⟨?_, by rw [frozen_setCells]; exact (h4 j hj).2⟩⟩
    · by_cases h1 : j < p
      · rw [World.cell?_setCells_out g news _ w _ (fun _ _ => .inl (by simp; omega)), h3 j hj, List.append_assoc, List.getElem?_append_left (by simp; omega), List.getElem?_take_of_lt h1]
      · by_cases h2 : j < p + news.length
        · have := cell_setCells_in g news (off + p) w (fun i' hi' => by rw [Nat.add_assoc]; exact (h4 _ (by omega)).1) (j - p) (by omega)
          rw [show off + p + (j - p) = off + j by omega] at this
          rw [this, List.append_assoc, List.getElem?_append_right (by simp; omega), List.length_take, Nat.min_eq_left (by omega), List.getElem?_append_left (by omega)]
        · rw [World.cell?_setCells_out g news _ w _ (fun _ _ => by simp; omega), h3 j hj, List.append_assoc, List.getElem?_append_right (by simp; omega), List.length_take, Nat.min_eq_left (by omega), List.getElem?_append_right (by omega), List.getElem?_drop]
          congr 1
          omega
    · by_cases hjo : p ≤ j ∧ j < p + news.length
      · have := cell_setCells_in g news (off + p) w (fun i' hi' => by rw [Nat.add_assoc]; exact (h4 _ (by omega)).1) (j - p) (by omega)
        rw [show off + p + (j - p) = off + j by omega] at this
        rw [this, List.getElem?_eq_getElem (by omega)]
        rfl
      · rw [World.cell?_setCells_out g news _ w _ (fun _ _ => by simp; omega)]
        exact (h4 j hj).1

/-- One cell of it written over. -/
theorem Sl.put {B : Nat} {w : World} {size g off n cap : Nat} {xs : List Value} (h : Sl B w size (.slice (some ⟨g, off, none⟩) n cap) n xs) (p : Nat) (u : Value) (hp : p < n * size) :
    Sl B (w.setCell ⟨g, off + p, none⟩ u) size (.slice (some ⟨g, off, none⟩) n cap) n (xs.set p u) := by
  have := h.over p [u] (by simp; omega)
  have hl := h.1
  have e : xs.take p ++ [u] ++ xs.drop (p + 1) = xs.set p u := by
    rw [List.set_eq_take_append_cons_drop, if_pos (by omega)]
    simp
  rw [← e]
  exact this

/-- It has room for more: some cells are there. -/
theorem Sl.wide {B : Nat} {w : World} {size g off n cap : Nat} {xs : List Value} (h : Sl B w size (.slice (some ⟨g, off, none⟩) n cap) n xs) (k : Nat) (hk : n + k ≤ cap) : ∃ ys : List Value, ys.length = k * size ∧ Sl B w size (.slice (some ⟨g, off, none⟩) (n + k) cap) (n + k) (xs ++ ys) := by
  have hl := h.1
  rcases h.2 with ⟨h0, _⟩ | ⟨g', off', cap', e0, hb, hg, hn, hm, h3, h4⟩
  · cases h0
  · cases e0
    have hle : (n + k) * size ≤ cap * size := Nat.mul_le_mul_right _ hk
    rw [Nat.add_mul] at hle
    obtain ⟨ys, hy1, hy2⟩ := list_of_fun (n := k * size) (p := fun j (y : Value) => w.cell? ⟨g, off + (n * size + j), none⟩ = some y) (fun j hj => Option.isSome_iff_exists.1 (h4 _ (by omega)).1)
    refine ⟨ys, hy1, by rw [List.length_append, hl, hy1, Nat.add_mul], .inr ⟨g, off, cap, rfl, hb, hg, hk, hm, fun j hj => ?_, h4⟩⟩
    rw [Nat.add_mul] at hj
    by_cases h1 : j < n * size
    · rw [List.getElem?_append_left (by omega)]
      exact h3 j h1
    · rw [List.getElem?_append_right (by omega), hl]
      have := hy2 (j - n * size) (ys[j - n * size]'(by omega)) (List.getElem?_eq_getElem (by omega))
      rw [show n * size + (j - n * size) = j by omega] at this
      rw [this, List.getElem?_eq_getElem (by omega)]

/-- Only its first ones. -/
theorem Sl.head {B : Nat} {w : World} {size g off n cap : Nat} {xs : List Value} (h : Sl B w size (.slice (some ⟨g, off, none⟩) n cap) n xs) (k : Nat) (hk : k ≤ n) : Sl B w size (.slice (some ⟨g, off, none⟩) k cap) k (xs.take (k * size)) := by
  have hl := h.1
  have hle : k * size ≤ n * size := Nat.mul_le_mul_right _ hk
  rcases h.2 with ⟨h0, _⟩ | ⟨g', off', cap', e0, hb, hg, hn, hm, h3, h4⟩
  · cases h0
  · cases e0
    exact ⟨by rw [List.length_take]; omega, .inr ⟨g, off, cap, rfl, hb, hg, by omega, hm, fun j hj => by rw [List.getElem?_take_of_lt hj]; exact h3 j (by omega), h4⟩⟩

section
variable {P : Program}
/-- A copy, of elements of whatever size: all is read before anything is written. -/
theorem run_copy_cellsN (w : World) (dT sT ty elem : TypeId) (b o dLen dCap : Nat) (a : Addr) (sLen sCap s m : Nat) (cs : List Value)
    (hu : P.underlying dT = some (.slice elem)) (hs : (P.info? elem).map (·.size) = some s) (hm : m = Nat.min sLen dLen) (hn : cs.length = m * s)
    (hsrc : ∀ j v, cs[j]? = some v → w.cell? (a.add j) = some v) (hc : ∀ j, j < cs.length → (w.cell? ⟨b, o + j, none⟩).isSome = true) (hf : ∀ j, j < cs.length → w.frozen? ⟨b, o + j, none⟩ = false) (h1 : ∀ v ∈ cs, v.oneCell' = true) :
    (Builtin.copy_ #[dT, sT] ty #[.slice (some ⟨b, o, none⟩) dLen dCap, .slice (some a) sLen sCap]).run P w = .ok (goInt m) (w.setCells b o cs) := by
  have hl := run_loadCells_list (P := P) w a cs hsrc
  have hst := run_storeCells_cells (P := P) b o cs 0 w (by simpa using hc) (by simpa using hf) h1
  cases hq : P.info? elem with
  | none => simp [hq] at hs
  | some i =>
    have hi : i.size = s := by simpa [hq] using hs
    rw [hn] at hl
    simp [Builtin.copy_, run_underlying hu, Builtin.lenOf, Builtin.firstCells, sizeOf, typeInfo, hq, hi, ← hm, hl, hst]

/-- A copy into a slice that owns its cells, from its element p on. -/
theorem run_copy_over {B : Nat} {w : World} {size g off n cap : Nat} {xs : List Value} (h : Sl B w size (.slice (some ⟨g, off, none⟩) n cap) n xs) (dT sT ty elem : TypeId) (o dLen dCap p m : Nat) (a : Addr) (sLen sCap : Nat) (cs : List Value)
    (hu : P.underlying dT = some (.slice elem)) (hs : (P.info? elem).map (·.size) = some size) (ho : o = off + p) (hm : m = Nat.min sLen dLen) (hn : cs.length = m * size) (hp : p + cs.length ≤ n * size)
    (hsrc : ∀ j v, cs[j]? = some v → w.cell? (a.add j) = some v) (h1 : ∀ v ∈ cs, v.oneCell' = true) :
    (Builtin.copy_ #[dT, sT] ty #[.slice (some ⟨g, o, none⟩) dLen dCap, .slice (some a) sLen sCap]).run P w = .ok (goInt m) (w.setCells g o cs) := by
  subst ho
  rcases h.2 with ⟨h0, _⟩ | ⟨g', off', cap', e0, hb, hg, hn', hm', h3, h4⟩
  · cases h0
  · cases e0
    have hsm : n * size ≤ cap * size := Nat.mul_le_mul_right _ hn'
    exact run_copy_cellsN w dT sT ty elem g (off + p) dLen dCap a sLen sCap size m cs hu hs hm hn hsrc (fun j hj => by rw [Nat.add_assoc]; exact (h4 _ (by omega)).1) (fun j hj => by rw [Nat.add_assoc]; exact (h4 _ (by omega)).2) h1

/-- What a part of its cells reads. -/
theorem Sl.reads {B : Nat} {w : World} {size g off n cap : Nat} {xs : List Value} (h : Sl B w size (.slice (some ⟨g, off, none⟩) n cap) n xs) (p o : Nat) (ho : o = off + p) : ∀ j v, (xs.drop p)[j]? = some v → w.cell? ((Addr.mk g o none).add j) = some v := by
  intro j v hj
  subst ho
  rw [List.getElem?_drop] at hj
  have hl := h.1
  have := (List.getElem?_eq_some_iff.1 hj).1
  rcases h.2 with ⟨h0, _⟩ | ⟨g', off', cap', e0, hb, hg, hn', hm', h3, h4⟩
  · cases h0
  · cases e0
    rw [Addr.add_lit, ← hj, Nat.add_assoc]
    exact h3 _ (by omega)
end
end Go.Proofs.Ythpnkjnieljdiaa
