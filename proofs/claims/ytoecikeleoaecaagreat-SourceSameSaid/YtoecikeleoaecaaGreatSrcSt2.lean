/- A source's pieces at the beginning, and the plain state. -/
import Derived.Test.YtoecikeleoaecaaGreatSrcSt
namespace Go.Proofs.YtoecikeleoaecaaGreat
set_option maxRecDepth 4000
open Go.ChangeShapes Go.WideShapes Go.ChangeAt Go.RowKit
open PHist PRing PSat PClamp PBound PFrame PVar PCrc PSign PTree PEv
set_option linter.unusedVariables false
set_option linter.unusedSimpArgs false

def sf (ps : List Pt) (k : Nat) : Nat → Int := fun j => if j < k then (settled (pat ps j)).is else ss ps j
theorem sf_next (ps : List Pt) (k : Nat) : sf ps (k + 1) = put (sf ps k) k (settled (pat ps k)).is := by
  funext j
  by_cases e : j = k
  · subst e
    rw [put_same]
    exact if_pos (by omega)
  · rw [put_other _ _ _ e]
    unfold sf
    by_cases h : j < k
    · rw [if_pos h, if_pos (by omega)]
    · rw [if_neg h, if_neg (by omega)]
theorem iter_settle (ps : List Pt) (t d c now : Int) (evs : List Ev) (beg : Nat) : ∀ k, (loOf ⟨ps, t, d, c, now⟩ evs beg).iter Lo.settle k = { (loOf ⟨ps, t, d, c, now⟩ evs beg) with is := sf ps k, S := sf ps k, evs := evs ++ faultsTo ps k }
  | 0 => by
    have h : sf ps 0 = ss ps := by funext j; exact if_neg (by omega)
    show loOf _ _ _ = _
    rw [h]
    show _ = ({ (loOf ⟨ps, t, d, c, now⟩ evs beg) with is := ss ps, S := ss ps, evs := evs ++ [] } : Lo)
    rw [List.append_nil]; rfl
  | k + 1 => by
    show ((loOf ⟨ps, t, d, c, now⟩ evs beg).iter Lo.settle k).settle k = _
    rw [iter_settle ps t d c now evs beg k]
    unfold Lo.settle
    have hf : Lo.fin { (loOf ⟨ps, t, d, c, now⟩ evs beg) with is := sf ps k, S := sf ps k, evs := evs ++ faultsTo ps k } k = (settled (pat ps k)).is := by
      unfold Lo.fin settled
      show (if (pat ps k).read < (pat ps k).recs.length then sf ps k k else _) = _
      by_cases h : (pat ps k).read < (pat ps k).recs.length
      · rw [if_pos h, if_pos h]
        exact if_neg (by omega)
      · rw [if_neg h, if_neg h]; rfl
    have hg : Lo.flt { (loOf ⟨ps, t, d, c, now⟩ evs beg) with is := sf ps k, S := sf ps k, evs := evs ++ faultsTo ps k } k = faults (pat ps k) k := rfl
    rw [hf, hg]
    show ({ (loOf ⟨ps, t, d, c, now⟩ evs beg) with is := put (sf ps k) k _, S := put (sf ps k) k _, evs := (evs ++ faultsTo ps k) ++ faults (pat ps k) k } : Lo) = _
    rw [← sf_next, List.append_assoc]; rfl
theorem lo_settle_all (ps : List Pt) (t d c now : Int) (evs : List Ev) (beg : Nat) : (loOf ⟨ps, t, d, c, now⟩ evs beg).iter Lo.settle ps.length = loOf ⟨ps.map settled, t, d, c, now⟩ (evs ++ faultsTo ps ps.length) beg := by
  rw [iter_settle]
  have hp : ∀ j, pat (ps.map settled) j = if j < ps.length then settled (pat ps j) else zp := fun j => pat_map_any _ _ _
  have hf : ∀ {α : Type} (f : Pt → α), (∀ p, f (settled p) = f p) → (fun j => f (pat (ps.map settled) j)) = fun j => f (pat ps j) := fun f hf => by
    funext j
    rw [hp]
    by_cases hj : j < ps.length
    · rw [if_pos hj, hf]
    · rw [if_neg hj, pat_none hj]
  have w : ∀ p : Pt, (settled p).rule = p.rule ∧ (settled p).recs = p.recs ∧ (settled p).err = p.err ∧ (settled p).read = p.read ∧ (settled p).til = p.til ∧ (settled p).got = p.got := fun p => by unfold settled; split <;> exact ⟨rfl, rfl, rfl, rfl, rfl, rfl⟩
  have hl : (ps.map settled).length = ps.length := List.length_map _
  have hkk : kk (ps.map settled) = kk ps := hf Pt.mark settled_mark
  have hss : ss (ps.map settled) = sf ps ps.length := by
    funext j
    show (pat (ps.map settled) j).is = if j < ps.length then (settled (pat ps j)).is else (pat ps j).is
    rw [hp]
    by_cases hj : j < ps.length
    · rw [if_pos hj, if_pos hj]
    · rw [if_neg hj, if_neg hj, pat_none hj]
  unfold loOf
  simp only [hl, hkk, hss, hf Pt.rule (fun p => (w p).1), hf Pt.recs (fun p => (w p).2.1), hf Pt.err (fun p => (w p).2.2.1), hf Pt.read (fun p => (w p).2.2.2.1), hf Pt.til (fun p => (w p).2.2.2.2.1), hf Pt.got (fun p => (w p).2.2.2.2.2)]
/-- All of the beginning. -/
theorem lo_begin (t d : Int) (rs : List Rul) (ls : List (List UInt8)) (hl : ls.length = rs.length) (beg : Nat) :
    (loOf ⟨begun t rs ls, t, d, 0, -9223372036854775808⟩ (faultsTo (raws t rs ls) rs.length) beg).adv = loOf (St.new t d rs ls) (St.newE t rs ls) beg := by
  rw [lo_adv]; rfl
end Go.Proofs.YtoecikeleoaecaaGreat
