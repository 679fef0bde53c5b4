/- Plain data of whatever shape (numbers, bools, texts, structs, arrays, slices of these), as a value's cells hold it in memory: opened from the row's reading by one theorem. -/
import Derived.Test.YthpnkjnieljdiaaRows
import Derived.WalkKit
import Derived.ProofKit
import Derived.OpenShut
import Derived.ShutString
import Derived.ChangeOld
import Derived.Below
import Derived.Deep.Slices
namespace Go.Proofs.Ythpnkjnieljdiaa
open Go.ChangeShapes Go.WideShapes Go.ChangeAt Go.RowKit

inductive Sh where
  | int (k : IntKind)
  | bool
  | str
  | unit
  | pair (a b : Sh)
  | sl (s : Sh)
  | arr (n : Nat) (s : Sh)

/-- The data of a shape. -/
def Sh.T : Sh → Type
  | .int _ => Int
  | .bool => Bool
  | .str => ByteArray
  | .unit => Unit
  | .pair a b => a.T × b.T
  | .sl s => List s.T
  | .arr _ s => List s.T

/-- How many cells. -/
def Sh.n : Sh → Nat
  | .int _ => 1
  | .bool => 1
  | .str => 1
  | .unit => 0
  | .pair a b => a.n + b.n
  | .sl _ => 1
  | .arr n s => n * s.n

abbrev nth {α : Type} (l : List α) (i : Nat) : Option α := l[i]?

/-- These cells hold that datum. -/
def Rd (w : World) : (s : Sh) → List Value → s.T → Prop
  | .int k, cs, n => cs = [.int k n] ∧ (Lit.int k n).wf = true
  | .bool, cs, b => cs = [.bool b]
  | .str, cs, s => cs = [.string s] ∧ s.size ≤ maxLen
  | .unit, cs, _ => cs = []
  | .pair a b, cs, x => ∃ c d, cs = c ++ d ∧ Rd w a c x.1 ∧ Rd w b d x.2
  | .sl s, cs, l => (cs = [.slice none 0 0] ∧ l = []) ∨ ∃ (a : Addr) (cap : Nat) (el : Nat → List Value), cs = [.slice (some a) (List.length l) cap] ∧ List.length l ≤ cap ∧ cap ≤ maxLen ∧
      ∀ (i : Nat) (x : s.T), nth (α := s.T) l i = some x → w.cells? 0 (a.add (i * s.n)) s.n = some (el i) ∧ Rd w s (el i) x
  | .arr n s, cs, l => List.length l = n ∧ cs.length = n * s.n ∧ ∀ (i : Nat) (x : s.T), nth (α := s.T) l i = some x → Rd w s ((cs.drop (i * s.n)).take s.n) x

/- Is that type of that shape? -/
mutual
def shOk (P : Program) : (fuel : Nat) → TypeId → Sh → Bool
  | 0, _, _ => false
  | fuel + 1, t, sh =>
    match P.underlying t, sh with
    | some (.int k), .int k' => decide (k = k')
    | some .bool, .bool => true
    | some .string, .str => true
    | some (.slice e), .sl s => decide (P.cellsOf e = s.n) && shOk P fuel e s
    | some (.array n e), .arr n' s => decide (n = n') && decide (P.cellsOf e = s.n) && decide (P.cellsOf t = n * s.n) && shOk P fuel e s
    | some (.struct fs), .unit => decide (P.cellsOf t = 0) && fieldsOk P fuel 0 fs.toList .unit
    | some (.struct fs), .pair a b => decide (P.cellsOf t = a.n + b.n) && fieldsOk P fuel 0 fs.toList (.pair a b)
    | _, _ => false
def fieldsOk (P : Program) : (fuel : Nat) → (off : Nat) → List Field → Sh → Bool
  | 0, _, _, _ => false
  | _ + 1, _, [], .unit => true
  | fuel + 1, off, f :: r, .pair a b => decide (f.offset = off) && decide (P.cellsOf f.type = a.n) && shOk P fuel f.type a && fieldsOk P fuel (off + a.n) r b
  | _ + 1, _, _, _ => false
end

theorem list_of_fun {α : Type} {n : Nat} {p : Nat → α → Prop} (h : ∀ i, i < n → ∃ x, p i x) : ∃ l : List α, l.length = n ∧ ∀ i x, l[i]? = some x → p i x := by
  induction n with
  | zero => exact ⟨[], rfl, by simp⟩
  | succ n ih =>
    obtain ⟨l, hl, hp⟩ := ih (fun i hi => h i (by omega))
    obtain ⟨x, hx⟩ := h n (by omega)
    refine ⟨l ++ [x], by simp [hl], fun i y hy => ?_⟩
    by_cases hi : i < l.length
    · rw [List.getElem?_append_left hi] at hy
      exact hp i y hy
    · rw [List.getElem?_append_right (by omega)] at hy
      by_cases h0 : i - l.length = 0
      · rw [h0] at hy
        simp at hy
        subst hy
        have : i = n := by omega
        rw [this]; exact hx
      · have : ([x] : List α)[i - l.length]? = none := by simp; omega
        rw [this] at hy; cases hy

section
variable {H : Type} {enc : TypeId × Value → H} {P : Program} {w : World} {spare : Nat → Bool} {held : Bool}

mutual
theorem rd_of_trod : ∀ (F : Nat) {t : TypeId} {sh : Sh}, shOk P F t sh = true → ∀ (fuel : Nat) (cs : List Value) (x : DataW H × List MemPlace),
    DataW.trod enc P w 0 spare held fuel t cs = some x → ∃ d, Rd w sh cs d
  | 0, t, sh, hs => by simp [shOk] at hs
  | F + 1, t, sh, hs => by
    intro fuel cs x h
    unfold shOk at hs
    split at hs
    · rename_i k k' e
      obtain ⟨n, rfl, _, hw⟩ := DataW.trod_int e h
      simp at hs
      subst hs
      exact ⟨n, rfl, hw⟩
    · rename_i e
      obtain ⟨b, rfl, _⟩ := DataW.trod_bool e h
      exact ⟨b, rfl⟩
    · rename_i e
      obtain ⟨s, rfl, _, hw⟩ := DataW.trod_string e h
      exact ⟨s, rfl, hw⟩
    · rename_i e s he
      simp at hs
      obtain ⟨hc, hs⟩ := hs
      rcases Deep.open_slice he h with ⟨rfl, _⟩ | ⟨a, len, cap, m, n, D, Pl, rfl, _, hl, hm, hmm, _, hx⟩
      · exact ⟨[], .inl ⟨rfl, rfl⟩⟩
      · have hlm : len ≤ m := by rw [hmm]; split <;> omega
        obtain ⟨l, hll, hp⟩ := list_of_fun (n := len) (p := fun i (x : List Value × s.T) => w.cells? 0 (a.add (i * P.cellsOf e)) (P.cellsOf e) = some x.1 ∧ Rd w s x.1 x.2) (fun i hi => by
          obtain ⟨cs', h1, h2⟩ := hx i (by omega)
          obtain ⟨d, hd⟩ := rd_of_trod F hs _ _ _ h2
          exact ⟨(cs', d), h1, hd⟩)
        refine ⟨l.map (·.2), .inr ⟨a, cap, fun i => ((l[i]?).map (·.1)).getD [], by simp [hll], by simp [hll]; exact hl, hm, fun i x hi => ?_⟩⟩
        have hi' : (l.map (·.2))[i]? = some x := hi
        rw [List.getElem?_map] at hi'
        obtain ⟨y, hy, rfl⟩ := Option.map_eq_some_iff.1 hi'
        have := hp i y hy
        rw [← hc]
        simpa [hy] using this
    · rename_i n e n' s he
      simp at hs
      obtain ⟨⟨⟨rfl, hc⟩, ht⟩, hs⟩ := hs
      obtain ⟨xs, m, _, _, hlen, hxl, hx⟩ := DataW.trod_array he h
      obtain ⟨l, hll, hp⟩ := list_of_fun (n := n) (p := fun i (d : s.T) => Rd w s ((cs.drop (i * s.n)).take s.n) d) (fun i hi => by
        have h1 := hx i hi
        rw [hc, List.getElem?_eq_getElem (by omega)] at h1
        exact rd_of_trod F hs _ _ _ h1)
      exact ⟨l, hll, by rw [hlen, ht], hp⟩
    · rename_i fs he
      simp at hs
      obtain ⟨xs, m, _, _, hlen, hxl, hx⟩ := DataW.trod_struct he h
      have h0 : cs = [] := by
        have : cs.length = 0 := by rw [hlen]; exact hs.1
        simpa using this
      exact ⟨(), h0⟩
    · rename_i fs a b he
      simp at hs
      obtain ⟨hc, hs⟩ := hs
      obtain ⟨xs, m, _, _, hlen, hxl, hx⟩ := DataW.trod_struct he h
      exact rd_of_fields F hs cs (by rw [hlen, hc]; rfl) (fun f r i hi => by
        have h1 := hx i f (by simpa using hi)
        have hi' : i < fs.size := by
          have := List.getElem?_eq_some_iff.1 hi
          simpa using this.1
        rw [List.getElem?_eq_getElem (by omega)] at h1
        refine ⟨m, xs[i], ?_⟩
        simpa using h1)
    · cases hs
theorem rd_of_fields : ∀ (F : Nat) {off : Nat} {fs : List Field} {sh : Sh}, fieldsOk P F off fs sh = true → ∀ (cs : List Value), cs.length = sh.n →
    (∀ (f : Field) (_ : Unit) (i : Nat), fs[i]? = some f → ∃ m x, DataW.trod enc P w 0 spare held m f.type ((cs.drop (f.offset - off)).take (P.cellsOf f.type)) = some x) → ∃ d, Rd w sh cs d
  | 0, off, fs, sh, hs => by simp [fieldsOk] at hs
  | F + 1, off, [], .unit, hs => by
    intro cs hl _
    have : cs = [] := by simpa [Sh.n] using hl
    exact ⟨(), this⟩
  | F + 1, off, f :: r, .pair a b, hs => by
    intro cs hl hx
    simp [fieldsOk] at hs
    obtain ⟨⟨⟨hoff, hc⟩, hsa⟩, hsb⟩ := hs
    obtain ⟨m, x, h0⟩ := hx f () 0 rfl
    rw [hoff, Nat.sub_self, hc] at h0
    obtain ⟨da, hda⟩ := rd_of_trod F hsa _ _ _ h0
    have hl' : cs.length = a.n + b.n := hl
    have hmono : ∀ (F : Nat) (o : Nat) (l : List Field) (s : Sh), fieldsOk P F o l s = true → ∀ (g : Field) (i : Nat), l[i]? = some g → o ≤ g.offset := by
      intro F
      induction F with
      | zero => intro o l s h; simp [fieldsOk] at h
      | succ F ih =>
        intro o l s h g i hi
        match l, s, h with
        | [], _, _ => simp at hi
        | f' :: r', .pair a' b', h =>
          simp [fieldsOk] at h
          cases i with
          | zero => simp at hi; subst hi; omega
          | succ i => simp at hi; have := ih _ _ _ h.2 g i hi; omega
    obtain ⟨db, hdb⟩ := rd_of_fields F hsb (cs.drop a.n) (by simp; omega) (fun g _ i hi => by
      obtain ⟨m, x, h1⟩ := hx g () (i + 1) (by simpa using hi)
      have hg := hmono F _ _ _ hsb g i hi
      refine ⟨m, x, ?_⟩
      rw [List.drop_drop, show a.n + (g.offset - (off + a.n)) = g.offset - off by omega]
      exact h1)
    refine ⟨(da, db), cs.take a.n, cs.drop a.n, (List.take_append_drop _ _).symm, ?_, hdb⟩
    simpa using hda
end

theorem rd_of_Trod {t : TypeId} {v : Value} {d : DataW H} {ps : List MemPlace} (F : Nat) {sh : Sh} (hs : shOk P F t sh = true) (h : DataW.Trod enc P w 0 spare held t v d ps) : ∃ x, Rd w sh v.cells.toList x := by
  obtain ⟨fuel, hf⟩ := h
  exact rd_of_trod F hs _ _ _ hf

theorem okWide_arrv {r : Reach} {base : Nat} {t : TypeId} {v : Value} {n : Nat} {e : TypeId} (ht : P.underlying t = some (.array n e)) (h : Value.okWide P w r base t v) : ∃ cs, v = .agg cs ∧ cs.size = P.cellsOf t := by
  simp only [Value.okWide, ht] at h
  obtain ⟨cs, h1, h2, _⟩ := h
  exact ⟨cs, h1, h2⟩
end
end Go.Proofs.Ythpnkjnieljdiaa
