/- Parts of rows of texts. -/
import Derived.Test.YtfgfjofbghfdpaaDoorRowS
import Derived.Test.YtfgfjofbghfdpaaDoorKBase
import Derived.Laws.Slices
namespace Go.Proofs.YtfgfjofbghfdpaaDoor
set_option maxRecDepth 4000
open Go.ChangeShapes Go.WideShapes Go.ChangeAt Go.RowKit
set_option linter.unusedVariables false
set_option linter.unusedSimpArgs false

theorem rows_from {P : Program} {a : Option Addr} {n c : Nat} {t e : TypeId} (hc : n ≤ c) (hm : c ≤ maxLen) (ht : P.underlying t = some (.slice e)) (hz : ∀ w, (Go.sizeOf e).run P w = .ok 1 w) (lo m : Nat) (zl : Int) (hzl : zl = lo) (hlo : lo ≤ n) (hmn : m = n - lo) :
    ∃ a' c', (∀ w', (Instr.slice t (.slice a n c) (some (.int .i64 zl)) none none).run P w' = .ok (.slice a' m c') w') ∧ m ≤ c' ∧ c' ≤ c ∧ ∀ w' ws, ws.length = n → RowS w' a ws → RowS w' a' (ws.drop lo) := by
  subst hzl hmn
  have ht' : P.underlying t = some (.slice (P.elem t)) := by simp [Program.elem, ht]
  have he : P.elem t = e := by simp [Program.elem, ht]
  unfold maxLen at hm
  refine ⟨if c = lo then a else a.map (·.add lo), c - lo, fun w' => ?_, by omega, by omega, fun w' ws hw h' => ?_⟩
  · rw [run_slice_l w' t a n c ht' .i64 (lo : Int) (by omega) (by omega), he, hz]
    simp only [Result.andThen, sliced, Int.toNat_natCast, Nat.mul_one]
  · refine ⟨fun i hi' => ?_⟩
    rw [List.length_drop] at hi'
    obtain ⟨b, off, rfl, hb, hcell⟩ := h'.at_ (lo + i) (by omega)
    refine ⟨b, off + lo, ?_, hb, ?_⟩
    · rw [if_neg (by omega)]
      show some ((Addr.mk b off none).add lo) = _
      rw [Addr.add_lit]
    · rw [List.getElem_drop, Nat.add_assoc]
      exact hcell
theorem rows_to {P : Program} {a : Option Addr} {n c : Nat} {t e : TypeId} (hc : n ≤ c) (hm : c ≤ maxLen) (ht : P.underlying t = some (.slice e)) (hz : ∀ w, (Go.sizeOf e).run P w = .ok 1 w) (hi : Nat) (zh : Int) (hzh : zh = hi) (hhi : hi ≤ n) (w' : World) :
    (Instr.slice t (.slice a n c) none (some (.int .i64 zh)) none).run P w' = .ok (.slice a hi c) w' := by
  subst hzh
  have ht' : P.underlying t = some (.slice (P.elem t)) := by simp [Program.elem, ht]
  have he : P.elem t = e := by simp [Program.elem, ht]
  unfold maxLen at hm
  have h0a : a.map (·.add 0) = a := by cases a with
    | none => rfl
    | some a => show some (a.add 0) = some a; unfold Addr.add; simp
  rw [run_slice_h w' t a n c ht' .i64 (hi : Int) (by omega) (by omega), he, hz]
  simp only [Result.andThen, sliced, Int.toNat_natCast, Nat.zero_mul, Nat.sub_zero, h0a]
  by_cases h : c = 0 <;> simp [h]
theorem Sl.onW {B : Nat} {w w' : World} {size : Nat} {v : Value} {n : Nat} {xs : List Value} (h : Sl B w size v n xs) (hb : Below w.heap.size w w') : Sl B w' size v n xs :=
  h.upd (S := fun k => w.heap.size ≤ k) (Upd.of_below hb (fun _ _ h => h)) (fun k hk => by have := (h.lt k hk).2; omega)
theorem RowS.take {w : World} {a : Option Addr} {l : List ByteArray} (h : RowS w a l) (k : Nat) : RowS w a (l.take k) :=
  ⟨fun i hi => by
    rw [List.length_take] at hi
    rw [List.getElem_take]
    exact h.at_ i (by omega)⟩
theorem RowS.upd {S : Nat → Prop} {w w' : World} {a : Option Addr} {l : List ByteArray} (h : RowS w a l) (hu : Upd S w w') (hn : ∀ p, a = some p → ¬ S p.block) : RowS w' a l :=
  ⟨fun i hi => by
    obtain ⟨b, off, h1, h2, h3⟩ := h.at_ i hi
    exact ⟨b, off, h1, Nat.lt_of_lt_of_le h2 hu.size, by rw [hu.cell (p := ⟨b, off + i, none⟩) h2 (hn ⟨b, off, none⟩ h1)]; exact h3⟩⟩
theorem RowS.lt {w : World} {a : Option Addr} {l : List ByteArray} (h : RowS w a l) (h0 : 0 < l.length) : ∃ b off, a = some ⟨b, off, none⟩ ∧ b < w.heap.size := by
  obtain ⟨b, off, h1, h2, _⟩ := h.at_ 0 h0
  exact ⟨b, off, h1, h2⟩
/-- A slice of texts of the call's own, as a row that is read. -/
theorem rows_of_sl {B : Nat} {w : World} {v : Value} {n : Nat} {l : List ByteArray} (h : Sl B w 1 v n (sv l)) : n = l.length ∧ ∃ a c, v = .slice a l.length c ∧ l.length ≤ c ∧ RowS w a l := by
  have hl := h.1
  rw [sv_len] at hl
  have hn : n = l.length := by omega
  subst hn
  refine ⟨rfl, ?_⟩
  rcases h.2 with ⟨rfl, h0⟩ | ⟨g, off, cap, rfl, hb, hg, h1, h2, h3, h4⟩
  · rw [h0]
    exact ⟨_, _, rfl, Nat.le_refl _, ⟨fun i hi => by omega⟩⟩
  · refine ⟨_, _, rfl, h1, ⟨fun i hi => ⟨g, off, rfl, hg, ?_⟩⟩⟩
    rw [h3 i (by omega)]
    simp [sv, hi]
end Go.Proofs.YtfgfjofbghfdpaaDoor
