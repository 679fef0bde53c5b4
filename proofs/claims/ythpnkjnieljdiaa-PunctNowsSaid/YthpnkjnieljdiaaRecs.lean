/- Rows of records, as the walks read them. -/
import Derived.Test.YthpnkjnieljdiaaFramePlain
import Derived.Test.YthpnkjnieljdiaaBase
import Derived.Test.YthpnkjnieljdiaaAt
namespace Go.Proofs.Ythpnkjnieljdiaa
open Go.ChangeShapes Go.WideShapes Go.ChangeAt Go.RowKit
open PFrame
set_option linter.unusedVariables false

abbrev ShR : Sh := .pair (.int .i64) (.pair (.int .i64) (.pair .str .unit))
/-- The cells of a record. -/
def rcells (r : R) : List Value := [.int .i64 r.1, .int .i64 r.2.1, .string (bstr r.2.2)]
def rv : List R → List Value
  | [] => []
  | r :: rs => rcells r ++ rv rs
theorem rv_append : ∀ (a b : List R), rv (a ++ b) = rv a ++ rv b
  | [], b => rfl
  | r :: a, b => by show rcells r ++ rv (a ++ b) = (rcells r ++ rv a) ++ rv b; rw [rv_append a b, List.append_assoc]
theorem rv_len : ∀ (rs : List R), (rv rs).length = rs.length * 3
  | [] => rfl
  | r :: rs => by show (rcells r ++ rv rs).length = _; rw [List.length_append, rv_len rs, List.length_cons]; show 3 + _ = _; omega
theorem rv_at : ∀ (rs : List R) (i : Nat) (h : i < rs.length), (rv rs)[i * 3]? = some (.int .i64 rs[i].1) ∧ (rv rs)[i * 3 + 1]? = some (.int .i64 rs[i].2.1) ∧ (rv rs)[i * 3 + 2]? = some (.string (bstr rs[i].2.2))
  | r :: rs, 0, _ => ⟨rfl, rfl, rfl⟩
  | r :: rs, i + 1, h => by
    have e : (i + 1) * 3 = i * 3 + 3 := by omega
    have ih := rv_at rs i (by simpa using h)
    show (rcells r ++ rv rs)[(i + 1) * 3]? = _ ∧ (rcells r ++ rv rs)[(i + 1) * 3 + 1]? = _ ∧ (rcells r ++ rv rs)[(i + 1) * 3 + 2]? = _
    have hl : (rcells r).length = 3 := rfl
    rw [List.getElem?_append_right (by omega), List.getElem?_append_right (by omega), List.getElem?_append_right (by omega), hl, show (i + 1) * 3 - 3 = i * 3 by omega, show (i + 1) * 3 + 1 - 3 = i * 3 + 1 by omega, show (i + 1) * 3 + 2 - 3 = i * 3 + 2 by omega]
    exact ih

/-- A row of records that can be read, from this place on. -/
structure RowR (w : World) (a : Option Addr) (l : List R) : Prop where
  len : l.length ≤ maxLen
  at_ : ∀ (i : Nat) (h : i < l.length), ∃ b off, a = some ⟨b, off, none⟩ ∧ b < w.heap.size ∧ w.cell? ⟨b, off + i * 3, none⟩ = some (.int .i64 l[i].1) ∧ w.cell? ⟨b, off + i * 3 + 1, none⟩ = some (.int .i64 l[i].2.1) ∧ w.cell? ⟨b, off + i * 3 + 2, none⟩ = some (.string (bstr l[i].2.2))
  tm : ∀ r ∈ l, (-9223372036854775808 ≤ r.1 ∧ r.1 ≤ 9223372036854775807) ∧ (-9223372036854775808 ≤ r.2.1 ∧ r.2.1 ≤ 9223372036854775807)

theorem RowR.on {w w' : World} {a : Option Addr} {l : List R} (h : RowR w a l) (hb : Below w.heap.size w w') : RowR w' a l :=
  ⟨h.len, fun i hi => by
    obtain ⟨b, off, h1, h2, h3, h4, h5⟩ := h.at_ i hi
    exact ⟨b, off, h1, Nat.lt_of_lt_of_le h2 hb.size, by rw [hb.cell (p := ⟨b, off + i * 3, none⟩) h2]; exact h3, by rw [hb.cell (p := ⟨b, off + i * 3 + 1, none⟩) h2]; exact h4, by rw [hb.cell (p := ⟨b, off + i * 3 + 2, none⟩) h2]; exact h5⟩, h.tm⟩

theorem RowR.of_sl {B : Nat} {w : World} {v : Value} {n : Nat} {rs : List R} (h : Sl B w 3 v n (rv rs)) (ht : ∀ r ∈ rs, (-9223372036854775808 ≤ r.1 ∧ r.1 ≤ 9223372036854775807) ∧ (-9223372036854775808 ≤ r.2.1 ∧ r.2.1 ≤ 9223372036854775807)) :
    n = rs.length ∧ ∃ a c, v = .slice a rs.length c ∧ RowR w a rs := by
  have hl := h.1
  rw [rv_len] at hl
  have hn : n = rs.length := by omega
  subst hn
  have hm := h.len
  refine ⟨rfl, ?_⟩
  rcases h.2 with ⟨rfl, h0⟩ | ⟨g, off, cap, rfl, hb, hg, h1, h2, h3, h4⟩
  · rw [h0]
    exact ⟨_, _, rfl, by omega, fun i hi => by omega, ht⟩
  · refine ⟨_, _, rfl, hm, fun i hi => ⟨g, off, rfl, hg, ?_⟩, ht⟩
    obtain ⟨r1, r2, r3⟩ := rv_at rs i hi
    have c1 := h3 (i * 3) (by omega)
    have c2 := h3 (i * 3 + 1) (by omega)
    have c3 := h3 (i * 3 + 2) (by omega)
    rw [Nat.add_assoc, Nat.add_assoc, c1, c2, c3]
    exact ⟨r1, r2, r3⟩

/-- A record that comes in. -/
theorem Rd.rec {w : World} {cs : List Value} {d : ShR.T} (h : Rd w ShR cs d) : ∃ (k t : Int) (s : ByteArray), (d : Int × Int × ByteArray × Unit) = (k, t, s, ()) ∧ cs = [.int .i64 k, .int .i64 t, .string s] ∧ (Lit.int .i64 k).wf = true ∧ (Lit.int .i64 t).wf = true ∧ s.size ≤ maxLen := by
  obtain ⟨k, t, s, u⟩ := d
  obtain ⟨c1, d1, rfl, ⟨rfl, h1⟩, c2, d2, rfl, ⟨rfl, h2⟩, c3, d3, rfl, ⟨rfl, h3⟩, h4⟩ := h
  have h4' : d3 = [] := h4
  subst h4'
  exact ⟨k, t, s, rfl, rfl, h1, h2, h3⟩

theorem cells_three {w : World} {a : Addr} {x y z : Value} (h : w.cells? 0 a 3 = some [x, y, z]) : w.cell? (a.add 0) = some x ∧ w.cell? (a.add 1) = some y ∧ w.cell? (a.add 2) = some z := by
  have e : List.range 3 = [0, 1, 2] := rfl
  unfold World.cells? at h
  rw [if_pos (Nat.zero_le _), e] at h
  cases h0 : w.cell? (a.add 0) with
  | none => simp [h0] at h
  | some v0 =>
    cases h1 : w.cell? (a.add 1) with
    | none => simp [h0, h1] at h
    | some v1 =>
      cases h2 : w.cell? (a.add 2) with
      | none => simp [h0, h1, h2] at h
      | some v2 =>
        simp [h0, h1, h2] at h
        obtain ⟨rfl, rfl, rfl⟩ := h
        exact ⟨rfl, rfl, rfl⟩

def toR (d : ShR.T) : R := ((d : Int × Int × ByteArray × Unit).1, (d : Int × Int × ByteArray × Unit).2.1, (d : Int × Int × ByteArray × Unit).2.2.1.data.toList)

/-- A row of records that comes in. -/
theorem Rd.recs {w : World} {a : Option Addr} {n c : Nat} {l : List ShR.T} (h : Rd w (.sl ShR) [.slice a n c] l) : n = l.length ∧ n ≤ c ∧ RowR w a (l.map toR) ∧ ∀ r ∈ l.map toR, r.2.2.length ≤ maxLen := by
  rcases h with ⟨h1, h2⟩ | ⟨x, cap, el, h1, hl, hm, hx⟩
  · simp at h1
    have h3 : l = [] := h2
    subst h3
    exact ⟨h1.2.1, by omega, ⟨by simp, fun i hi => by simp at hi, by simp⟩, by simp⟩
  · simp at h1
    obtain ⟨rfl, rfl, rfl⟩ := h1
    have hx' : ∀ (i : Nat) (y : ShR.T), l[i]? = some y → ∃ (k t : Int) (s : ByteArray), (y : Int × Int × ByteArray × Unit) = (k, t, s, ()) ∧ w.cell? ((x.add (i * 3)).add 0) = some (.int .i64 k) ∧ w.cell? ((x.add (i * 3)).add 1) = some (.int .i64 t) ∧ w.cell? ((x.add (i * 3)).add 2) = some (.string s) ∧ (Lit.int .i64 k).wf = true ∧ (Lit.int .i64 t).wf = true ∧ s.size ≤ maxLen := by
      intro i y hy
      obtain ⟨h0, h1⟩ := hx i y hy
      obtain ⟨k, t, s, rfl, e, w1, w2, w3⟩ := Rd.rec h1
      have h0' : w.cells? 0 (x.add (i * 3)) 3 = some (el i) := h0
      rw [e] at h0'
      obtain ⟨c0, c1, c2⟩ := cells_three h0'
      exact ⟨k, t, s, rfl, c0, c1, c2, w1, w2, w3⟩
    refine ⟨rfl, hl, ⟨by rw [List.length_map]; exact Nat.le_trans hl hm, fun i hi => ?_, fun r hr => ?_⟩, fun r hr => ?_⟩
    · rw [List.length_map] at hi
      obtain ⟨k0, t0, s0, _, d0, _, _, _⟩ := hx' 0 (l[0]'(by omega)) (List.getElem?_eq_getElem (by omega))
      obtain ⟨k, t, s, e, c0, c1, c2, _⟩ := hx' i l[i] (List.getElem?_eq_getElem hi)
      have hs : x.spot = none := by have := cell_spot d0; simpa [Addr.add] using this
      obtain ⟨b, off, sp⟩ := x
      simp at hs
      subst hs
      have ea : ∀ m, (Addr.mk b off none).add m = ⟨b, off + m, none⟩ := fun m => by unfold Addr.add; by_cases h0 : m = 0 <;> simp [h0]
      rw [ea, Addr.add, if_pos rfl] at c0
      rw [ea] at c1 c2
      have ea2 : ∀ o m, 0 < m → (Addr.mk b o none).add m = ⟨b, o + m, none⟩ := fun o m h => by unfold Addr.add; rw [if_neg (by omega)]
      rw [ea2 _ _ (by omega)] at c1 c2
      rw [List.getElem_map, e]
      exact ⟨b, off, rfl, cell_lt c0, c0, c1, c2⟩
    · obtain ⟨y, hy, rfl⟩ := List.mem_map.1 hr
      obtain ⟨i, hi, rfl⟩ := List.mem_iff_getElem.1 hy
      obtain ⟨k, t, s, e, _, _, _, w1, w2, _⟩ := hx' i l[i] (List.getElem?_eq_getElem hi)
      rw [e]
      exact ⟨bounds_i64 w1, bounds_i64 w2⟩
    · obtain ⟨y, hy, rfl⟩ := List.mem_map.1 hr
      obtain ⟨i, hi, rfl⟩ := List.mem_iff_getElem.1 hy
      obtain ⟨k, t, s, e, _, _, _, _, _, w3⟩ := hx' i l[i] (List.getElem?_eq_getElem hi)
      rw [e]
      show s.data.toList.length ≤ maxLen
      rw [Array.length_toList]
      exact w3

theorem RowR.take {w : World} {a : Option Addr} {l : List R} (h : RowR w a l) (m : Nat) : RowR w a (l.take m) :=
  ⟨by rw [List.length_take]; have := h.len; omega, fun i hi => by
    have hi' : i < l.length := by rw [List.length_take] at hi; omega
    rw [List.getElem_take]
    exact h.at_ i hi', fun r hr => h.tm r (List.mem_of_mem_take hr)⟩
end Go.Proofs.Ythpnkjnieljdiaa
