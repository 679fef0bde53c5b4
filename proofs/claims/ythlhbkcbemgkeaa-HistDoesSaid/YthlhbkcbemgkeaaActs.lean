/- Rows of a bool and a number that came in. -/
import Derived.Test.YthlhbkcbemgkeaaSpeaks8
namespace Go.Proofs.Ythlhbkcbemgkeaa
open Go.ChangeShapes Go.WideShapes Go.ChangeAt Go.RowKit
set_option linter.unusedVariables false
set_option linter.unusedSimpArgs false

abbrev ShA : Sh := .pair .bool (.pair (.int .i64) .unit)
structure RowA (w : World) (a : Option Addr) (l : List (Bool × Int)) : Prop where
  at_ : ∀ (i : Nat) (h : i < l.length), ∃ b off, a = some ⟨b, off, none⟩ ∧ b < w.heap.size ∧ w.cell? ⟨b, off + i * 2, none⟩ = some (.bool l[i].1) ∧ w.cell? ⟨b, off + i * 2 + 1, none⟩ = some (.int .i64 l[i].2)
  wf : ∀ r ∈ l, (Lit.int .i64 r.2).wf = true
theorem RowA.below {w w' : World} {a : Option Addr} {l : List (Bool × Int)} (h : RowA w a l) (hb : Below w.heap.size w w') : RowA w' a l :=
  ⟨fun i hi => by
    obtain ⟨b, off, h1, h2, h3, h4⟩ := h.at_ i hi
    exact ⟨b, off, h1, Nat.lt_of_lt_of_le h2 hb.size, by rw [hb.cell (p := ⟨b, off + i * 2, none⟩) h2]; exact h3, by rw [hb.cell (p := ⟨b, off + i * 2 + 1, none⟩) h2]; exact h4⟩, h.wf⟩
theorem cells_two {w : World} {a : Addr} {x y : Value} (h : w.cells? 0 a 2 = some [x, y]) : w.cell? (a.add 0) = some x ∧ w.cell? (a.add 1) = some y := by
  have e : List.range 2 = [0, 1] := rfl
  unfold World.cells? at h
  rw [if_pos (Nat.zero_le _), e] at h
  cases h0 : w.cell? (a.add 0) with
  | none => simp [h0] at h
  | some v0 =>
    cases h1 : w.cell? (a.add 1) with
    | none => simp [h0, h1] at h
    | some v1 =>
      simp [h0, h1] at h
      obtain ⟨rfl, rfl⟩ := h
      exact ⟨rfl, rfl⟩
theorem Rd.act {w : World} {cs : List Value} {d : ShA.T} (h : Rd w ShA cs d) : ∃ (o : Bool) (n : Int), (d : Bool × Int × Unit) = (o, n, ()) ∧ cs = [.bool o, .int .i64 n] ∧ (Lit.int .i64 n).wf = true := by
  obtain ⟨o, n, u⟩ := d
  obtain ⟨c1, d1, rfl, rfl, c2, d2, rfl, ⟨rfl, h2⟩, h3⟩ := h
  have h3' : d2 = [] := h3
  subst h3'
  exact ⟨o, n, rfl, rfl, h2⟩
def toA (d : ShA.T) : Bool × Int := ((d : Bool × Int × Unit).1, (d : Bool × Int × Unit).2.1)
theorem Rd.acts {w : World} {a : Option Addr} {n c : Nat} {l : List ShA.T} (h : Rd w (.sl ShA) [.slice a n c] l) : n = (l.map toA).length ∧ n ≤ c ∧ c ≤ maxLen ∧ RowA w a (l.map toA) := by
  rw [List.length_map]
  rcases h with ⟨h1, h2⟩ | ⟨x, cap, el, h1, hl, hm, hx⟩
  · simp at h1
    have h3 : l = [] := h2
    subst h3
    obtain ⟨rfl, rfl, rfl⟩ := h1
    exact ⟨rfl, Nat.le_refl _, Nat.zero_le _, ⟨fun i hi => by simp at hi, by simp⟩⟩
  · simp at h1
    obtain ⟨rfl, rfl, rfl⟩ := h1
    have hx' : ∀ (i : Nat) (y : ShA.T), l[i]? = some y → ∃ (o : Bool) (n : Int), (y : Bool × Int × Unit) = (o, n, ()) ∧ w.cell? ((x.add (i * 2)).add 0) = some (.bool o) ∧ w.cell? ((x.add (i * 2)).add 1) = some (.int .i64 n) ∧ (Lit.int .i64 n).wf = true := by
      intro i y hy
      obtain ⟨h0, h1⟩ := hx i y hy
      obtain ⟨o, n, rfl, e, w1⟩ := Rd.act h1
      have h0' : w.cells? 0 (x.add (i * 2)) 2 = some (el i) := h0
      rw [e] at h0'
      obtain ⟨c0, c1⟩ := cells_two h0'
      exact ⟨o, n, rfl, c0, c1, w1⟩
    refine ⟨rfl, hl, hm, ⟨fun i hi => ?_, fun r hr => ?_⟩⟩
    · rw [List.length_map] at hi
      obtain ⟨o0, n0, _, d0, _, _⟩ := hx' 0 (l[0]'(by omega)) (List.getElem?_eq_getElem (by omega))
      obtain ⟨o, n, e, c0, c1, _⟩ := hx' i l[i] (List.getElem?_eq_getElem hi)
      have hs : x.spot = none := by have := cell_spot d0; simpa [Addr.add] using this
      obtain ⟨b, off, sp⟩ := x
      simp at hs
      subst hs
      have ea : ∀ m, (Addr.mk b off none).add m = ⟨b, off + m, none⟩ := fun m => by unfold Addr.add; by_cases h0 : m = 0 <;> simp [h0]
      rw [ea, Addr.add, if_pos rfl] at c0
      rw [ea] at c1
      have ea2 : ∀ o m, 0 < m → (Addr.mk b o none).add m = ⟨b, o + m, none⟩ := fun o m h => by unfold Addr.add; rw [if_neg (by omega)]
      rw [ea2 _ _ (by omega)] at c1
      rw [List.getElem_map, e]
      exact ⟨b, off, rfl, cell_lt c0, c0, c1⟩
    · obtain ⟨y, hy, rfl⟩ := List.mem_map.1 hr
      obtain ⟨i, hi, rfl⟩ := List.mem_iff_getElem.1 hy
      obtain ⟨o, n, e, _, _, w1⟩ := hx' i l[i] (List.getElem?_eq_getElem hi)
      rw [e]
      exact w1

theorem Sl.empty {B : Nat} (w : World) (g : Nat) (hB : B ≤ g) (hg : g < w.heap.size) : Sl B w 1 (.slice (some ⟨g, 0, none⟩) 0 0) 0 [] := ⟨rfl, .inr ⟨g, 0, 0, rfl, hB, hg, Nat.le_refl _, Nat.zero_le _, fun j hj => by omega, fun j hj => by omega⟩⟩
/-- An append in a region that draws: what it yields. -/
theorem step_append_sl {P : Program} {ops : Array Oper} {o : Oper} {a : Act} {w : World} {K : Act → World → Prop} {Q : Exit → Act → World → Prop} {E : Prop}
    (hg : o.guard = none) (s x : Operand) (t tx : TypeId) (hop : o.op = Op.call { callee := Callee.builtin Builtin.append, args := #[s, x], argTypes := #[t, tx] })
    {B : Nat} {size : Nat} (e : TypeId) (i : TypeInfo) (z : Value) (bytes : Nat) (ht : P.underlying t = some (.slice e)) (hi : P.info? e = some i) (hz : i.zero = some z) (hsize : i.size = size) (hby : i.bytes = bytes) (hzs : z.cells.size = size)
    (v xv : Value) {n : Nat} {xs : List Value} (m : Nat) (news : List Value) (hv : a.eval s = v) (hx : a.eval x = xv) (h : Sl B w size v n xs) (hs : Src P size tx xv m news w)
    (h63 : n + m ≤ maxLen) (hbytes : (n + m) * bytes ≤ 140737488355328) (hB : B ≤ w.heap.size)
    (hK : ∀ a1 c1 w', Sl B w' size (.slice a1 (n + m) c1) (n + m) (xs ++ news) → Upd (fun k => v.ownBlock = some k) w w' → K (a.put o.dst (.slice a1 (n + m) c1)) w') :
    if Region.wanted o (yielded ops a.tmps) = true then Oper.wp P o a w K Q else E := by
  obtain ⟨v', w', hr, r1, r2, r3⟩ := run_append_sl (P := P) w t tx o.type e i z bytes ht hi hz hsize hby hzs h xv m news hs h63 hbytes hB
  obtain ⟨a1, c1, rfl⟩ := r1.shape
  exact step_append_run hg s x t tx hop v xv hv hx hr (hK a1 c1 w' r1 r2)
end Go.Proofs.Ythlhbkcbemgkeaa
