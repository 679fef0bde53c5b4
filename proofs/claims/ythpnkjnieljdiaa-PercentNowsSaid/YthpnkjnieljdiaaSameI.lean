/- Rows of ints: whether two are one, parts of them. -/
import Derived.Test.YthpnkjnieljdiaaInts
import Derived.Test.YthpnkjnieljdiaaAt
import Derived.WalkKit
import Derived.ProofKit
import Derived.OpenShut
import Derived.Handy
import Derived.BigQuiet
import Derived.Deep.QuietTactic
import Derived.IntWalk
import Derived.Outline
namespace Go.Proofs.Ythpnkjnieljdiaa
open Go.ChangeShapes Go.WideShapes Go.ChangeAt Go.RowKit
set_option linter.unusedVariables false
set_option linter.unusedSimpArgs false

theorem iv_snoc (l : List Int) (x : Int) : iv (l ++ [x]) = iv l ++ [.int .i64 x] := by simp [iv]
theorem iv_drop (l : List Int) (n : Nat) : iv (l.drop n) = (iv l).drop n := by simp [iv]
theorem iv_one (l : List Int) : ∀ u ∈ iv l, u.oneCell' = true := fun u hu => by
  obtain ⟨x, _, rfl⟩ := List.mem_map.1 hu
  rfl

theorem RowI.upd {k : IntKind} {w w' : World} {a : Option Addr} {l : List Int} {S : Nat → Prop} (h : RowI w k a l) (hu : Upd S w w') (hn : ∀ p, a = some p → ¬ S p.block) : RowI w' k a l :=
  ⟨h.len, fun i hi => by
    obtain ⟨b, off, h1, h2, h3⟩ := h.at_ i hi
    exact ⟨b, off, h1, Nat.lt_of_lt_of_le h2 hu.size, by rw [hu.cell (p := ⟨b, off + i, none⟩) h2 (hn ⟨b, off, none⟩ h1)]; exact h3⟩, h.wf⟩
theorem Rd.capI {w : World} {k : IntKind} {a : Option Addr} {n c : Nat} {l : List Int} (h : Rd w (.sl (.int k)) [.slice a n c] l) : n ≤ c := by
  rcases h with ⟨h1, h2⟩ | ⟨x, cap, el, h1, hl, hm, hx⟩
  · simp at h1; omega
  · simp at h1
    obtain ⟨_, rfl, rfl⟩ := h1
    exact hl

/-- A part of a row that came in. -/
theorem row_cut {P : Program} {k : IntKind} {w : World} {a : Option Addr} {n c : Nat} {l : List Int} (h : RowI w k a l) (hn : n = l.length) (hc : n ≤ c) {t e : TypeId} (ht : P.underlying t = some (.slice e)) (hz : ∀ w, (Go.sizeOf e).run P w = .ok 1 w) (lo hi m : Nat) (zl zh : Int) (hzl : zl = lo) (hzh : zh = hi) (hm : m = hi - lo) (h1 : lo ≤ hi) (h2 : hi ≤ n) :
    ∃ a' c', (∀ w', (Instr.slice t (.slice a n c) (some (.int .i64 zl)) (some (.int .i64 zh)) none).run P w' = .ok (.slice a' m c') w') ∧ m ≤ c' ∧ ∀ w', RowI w' k a l → RowI w' k a' ((l.take hi).drop lo) := by
  subst hzl hzh hn hm
  have ht' : P.underlying t = some (.slice (P.elem t)) := by simp [Program.elem, ht]
  have he : P.elem t = e := by simp [Program.elem, ht]
  refine ⟨if c = lo then a else a.map (·.add lo), c - lo, fun w' => ?_, by omega, fun w' h' => ?_⟩
  · rw [run_slice_lh w' t a l.length c ht' .i64 .i64 (lo : Int) (hi : Int) (by omega) (by omega) (by omega), he, hz]
    simp only [Result.andThen, sliced, Int.toNat_natCast, Nat.mul_one]
  · refine ⟨by have := h'.len; rw [List.length_drop, List.length_take]; omega, fun i hi' => ?_, fun x hx => h'.wf x (List.mem_of_mem_take (List.mem_of_mem_drop hx))⟩
    rw [List.length_drop, List.length_take] at hi'
    obtain ⟨b, off, rfl, hb, hcell⟩ := h'.at_ (lo + i) (by omega)
    refine ⟨b, off + lo, ?_, hb, ?_⟩
    · rw [if_neg (by omega)]
      show some ((Addr.mk b off none).add lo) = _
      rw [Addr.add_lit]
    · rw [List.getElem_drop, List.getElem_take, Nat.add_assoc]
      exact hcell

theorem RowI.cell {k : IntKind} {w : World} {b off : Nat} {l : List Int} (h : RowI w k (some ⟨b, off, none⟩) l) (i : Nat) (hi : i < l.length) : b < w.heap.size ∧ w.cell? ⟨b, off + i, none⟩ = some (.int k l[i]) := by
  obtain ⟨b', off', e, h1, h2⟩ := h.at_ i hi
  cases e
  exact ⟨h1, h2⟩
theorem row_part {k : IntKind} {w : World} {b off : Nat} {l : List Int} (h : RowI w k (some ⟨b, off, none⟩) l) (lo hi o : Nat) (ho : o = off + lo) (h2 : hi ≤ l.length) (W : List Int) (hW : W = (l.take hi).drop lo) : RowI w k (some ⟨b, o, none⟩) W := by
  subst ho hW
  refine ⟨by have := h.len; rw [List.length_drop, List.length_take]; omega, fun i hi' => ?_, fun x hx => h.wf x (List.mem_of_mem_take (List.mem_of_mem_drop hx))⟩
  rw [List.length_drop, List.length_take] at hi'
  obtain ⟨hb, hc⟩ := h.cell (lo + i) (by omega)
  refine ⟨b, off + lo, rfl, hb, ?_⟩
  rw [List.getElem_drop, List.getElem_take, Nat.add_assoc]
  exact hc

end Go.Proofs.Ythpnkjnieljdiaa
