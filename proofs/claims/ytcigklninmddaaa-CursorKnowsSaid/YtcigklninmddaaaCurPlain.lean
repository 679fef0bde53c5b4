/- Plain facts: a log, record by record. -/
import Derived.Test.YtcigklninmddaaaKRec
namespace Go.Proofs.Ytcigklninmddaaa
set_option maxRecDepth 4000
namespace PFrame
open PVar PCrc
set_option linter.unusedVariables false

/-- Why no record comes; 0: one comes, or nothing. -/
def cerr (l : List UInt8) : Nat := if l = [] then 0 else (fget l).2.2
/-- What comes: a record, nothing, or what is none. -/
def cahead (l : List UInt8) : Nat := if l = [] then 1 else if (fget l).2.2 = 0 then 0 else 2

theorem fget_nil : (fget []).2.2 ≠ 0 := by
  intro h
  obtain ⟨r, n, e, hf⟩ : ∃ r n e, fget [] = (r, n, e) := ⟨_, _, _, rfl⟩
  rw [hf] at h
  simp only at h
  subst h
  obtain ⟨_, _, h3, h4⟩ := fget_ok hf
  have := encR_pos r
  simp at h4
  omega
/-- Where a record comes. -/
theorem parse_step {l : List UInt8} {r : R} {rs : List R} {v e : Nat} (h : parse l = (r :: rs, v, e)) :
    ∃ v', fget l = (r, (encR r).length, 0) ∧ parse (l.drop (encR r).length) = (rs, v', e) ∧ v = (encR r).length + v' ∧ (encR r).length ≤ l.length ∧ cerr l = 0 ∧ cahead l = 0 ∧ okR r := by
  have hl : l ≠ [] := by intro hl; subst hl; rw [parse_nil] at h; cases h
  rcases fget_err l with he | ⟨e', he, h1, h5⟩
  · obtain ⟨r', n, e0, hf⟩ : ∃ r n e, fget l = (r, n, e) := ⟨_, _, _, rfl⟩
    rw [hf] at he
    simp only at he
    subst he
    obtain ⟨o1, o2, o3, o4⟩ := fget_ok hf
    rw [parse_more hf] at h
    simp only [Prod.mk.injEq, List.cons.injEq] at h
    obtain ⟨⟨rfl, h2⟩, h3, h4⟩ := h
    subst o3
    refine ⟨_, hf, ?_, h3.symm, o4, ?_, ?_, o1⟩
    · rw [← h2, ← h4]
    · unfold cerr; rw [if_neg hl, hf]
    · unfold cahead; rw [if_neg hl, hf]; simp
  · rw [parse_bad hl (by rw [he]; simp; omega)] at h
    cases h
/-- Where none comes. -/
theorem parse_stop {l : List UInt8} {v e : Nat} (h : parse l = ([], v, e)) :
    v = 0 ∧ cerr l = e ∧ cahead l = (if e = 0 then 1 else 2) ∧ (e = 0 ↔ l = []) ∧ (fget l).2.2 ≠ 0 := by
  by_cases hl : l = []
  · subst hl
    rw [parse_nil] at h
    simp only [Prod.mk.injEq, true_and] at h
    obtain ⟨h1, h2⟩ := h
    subst h1; subst h2
    exact ⟨rfl, rfl, rfl, by simp, fget_nil⟩
  rcases fget_err l with he | ⟨e', he, h1, h5⟩
  · obtain ⟨r', n, e0, hf⟩ : ∃ r n e, fget l = (r, n, e) := ⟨_, _, _, rfl⟩
    rw [hf] at he
    simp only at he
    subst he
    rw [parse_more hf] at h
    cases h
  · have hne : (fget l).2.2 ≠ 0 := by rw [he]; simp; omega
    rw [parse_bad hl hne] at h
    simp only [Prod.mk.injEq, true_and] at h
    obtain ⟨h2, h3⟩ := h
    refine ⟨h2.symm, ?_, ?_, ?_, hne⟩
    · unfold cerr; rw [if_neg hl, h3]
    · unfold cahead; rw [if_neg hl, h3, if_neg (by rw [← h3]; exact hne), if_neg (by rw [← h3]; exact hne)]
    · exact ⟨fun h => by rw [h3] at hne; exact absurd h hne, fun h => absurd h hl⟩
end PFrame
end Go.Proofs.Ytcigklninmddaaa
