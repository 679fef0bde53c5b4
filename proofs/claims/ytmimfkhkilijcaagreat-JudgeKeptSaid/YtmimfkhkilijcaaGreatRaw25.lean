/- Events as plain data that come in. -/
import Derived.Test.YtmimfkhkilijcaaGreatKEvV
import Derived.Test.YtmimfkhkilijcaaGreatKRul
namespace Go.Proofs.YtmimfkhkilijcaaGreat
set_option maxRecDepth 4000
open Go.ChangeShapes Go.WideShapes Go.ChangeAt Go.RowKit
open PEv
set_option linter.unusedVariables false
set_option linter.unusedSimpArgs false

/-- What plain data tell. -/
def evof25 (kind part rk rt : Int) (x : List UInt8) (late : Bool) (at_ er : Int) : Ev :=
  if kind = 1 then .mark at_ else if kind = 2 then .fault part er else .el late part rk rt x
theorem evof_ok25 {kind part rk rt : Int} {x : List UInt8} {late : Bool} {at_ er : Int} (h1 : in64 part) (h2 : in64 rk) (h3 : in64 rt) (h4 : in64 at_) (h5 : in64 er) : (evof25 kind part rk rt x late at_ er).ok := by
  unfold evof25
  split
  · exact h4
  · split
    · exact ⟨h1, h5⟩
    · exact ⟨h1, h2, h3⟩
abbrev ShX25 : Sh := .pair (.int .i64) (.pair (.int .i64) (.pair (.pair (.int .i64) (.pair (.int .i64) (.pair .str .unit))) (.pair .bool (.pair (.int .i64) (.pair (.int .i64) .unit)))))
abbrev DX25 : Type := Int × Int × (Int × Int × ByteArray × Unit) × Bool × Int × Int × Unit
/-- Its cells, and the event that they tell. -/
def xf25 (d : DX25) : List Value := [.int .i64 d.1, .int .i64 d.2.1, .int .i64 d.2.2.1.1, .int .i64 d.2.2.1.2.1, .string d.2.2.1.2.2.1, .bool d.2.2.2.1, .int .i64 d.2.2.2.2.1, .int .i64 d.2.2.2.2.2.1]
def xe25 (d : DX25) : Ev := evof25 d.1 d.2.1 d.2.2.1.1 d.2.2.1.2.1 d.2.2.1.2.2.1.data.toList d.2.2.2.1 d.2.2.2.2.1 d.2.2.2.2.2.1
def xq25 (d : DX25) : Prop := (xe25 d).ok
theorem Rd.x25 {w : World} {cs : List Value} {d : DX25} (h : Rd w ShX25 cs d) : cs = xf25 d ∧ xq25 d := by
  obtain ⟨kind, part, ⟨rk, rt, x, u1⟩, late, at_, er, u⟩ := d
  obtain ⟨c1, d1, rfl, ⟨rfl, h1⟩, c2, d2, rfl, ⟨rfl, h2⟩, c3, d3, rfl, ⟨c31, d31, rfl, ⟨rfl, h31⟩, c32, d32, rfl, ⟨rfl, h32⟩, c33, d33, rfl, ⟨rfl, h33⟩, h34⟩, c4, d4, rfl, h4, c5, d5, rfl, ⟨rfl, h5⟩, c6, d6, rfl, ⟨rfl, h6⟩, h7⟩ := h
  have h34' : d33 = [] := h34
  have h4' : c4 = [.bool late] := h4
  have h7' : d6 = [] := h7
  subst h34' h4' h7'
  exact ⟨rfl, evof_ok25 (bounds_i64 h2) (bounds_i64 h31) (bounds_i64 h32) (bounds_i64 h5) (bounds_i64 h6)⟩
theorem Rd.xs25 {w : World} {a : Option Addr} {n c : Nat} {l : List DX25} (h : Rd w (.sl ShX25) [.slice a n c] l) : n = l.length ∧ n ≤ c ∧ c ≤ maxLen ∧ RowG w 8 xf25 a l ∧ ∀ d ∈ l, xq25 d :=
  Rd.rowG (s := ShX25) 8 rfl (by decide) xf25 xq25 (fun w cs d h => Rd.x25 h) h

theorem At.eight {w : World} {g : Nat} {a b c d e f h i : Value} (q : At w g [a, b, c, d, e, f, h, i]) : g < w.heap.size ∧ w.cell? ⟨g, 0, none⟩ = some a ∧ w.cell? ⟨g, 1, none⟩ = some b ∧ w.cell? ⟨g, 2, none⟩ = some c ∧ w.cell? ⟨g, 3, none⟩ = some d ∧ w.cell? ⟨g, 4, none⟩ = some e ∧ w.cell? ⟨g, 5, none⟩ = some f ∧ w.cell? ⟨g, 6, none⟩ = some h ∧ w.cell? ⟨g, 7, none⟩ = some i :=
  ⟨q.1, (q.2 0 (by simp)).1, (q.2 1 (by simp)).1, (q.2 2 (by simp)).1, (q.2 3 (by simp)).1, (q.2 4 (by simp)).1, (q.2 5 (by simp)).1, (q.2 6 (by simp)).1, (q.2 7 (by simp)).1⟩
theorem RowX.cells {w : World} {b off : Nat} {l : List DX25} (h : RowG w 8 xf25 (some ⟨b, off, none⟩) l) (i : Nat) (hi : i < l.length) {x0 x1 x2 x3 x4 x5 x6 x7 : Value} (he : xf25 l[i] = [x0, x1, x2, x3, x4, x5, x6, x7]) :
    b < w.heap.size ∧ w.cell? ⟨b, off + i * 8, none⟩ = some x0 ∧ w.cell? ⟨b, off + i * 8 + 1, none⟩ = some x1 ∧ w.cell? ⟨b, off + i * 8 + 2, none⟩ = some x2 ∧ w.cell? ⟨b, off + i * 8 + 3, none⟩ = some x3 ∧ w.cell? ⟨b, off + i * 8 + 4, none⟩ = some x4 ∧ w.cell? ⟨b, off + i * 8 + 5, none⟩ = some x5 ∧ w.cell? ⟨b, off + i * 8 + 6, none⟩ = some x6 ∧ w.cell? ⟨b, off + i * 8 + 7, none⟩ = some x7 := by
  obtain ⟨h1, h2⟩ := RowG.cell h i hi
  rw [he] at h2
  exact ⟨h1, h2 0 (by omega), h2 1 (by omega), h2 2 (by omega), h2 3 (by omega), h2 4 (by omega), h2 5 (by omega), h2 6 (by omega), h2 7 (by omega)⟩
set_option maxRecDepth 100000 in
set_option maxHeartbeats 1000000 in
theorem law_ofx (kind part rk rt : Int) (x : ByteArray) (late : Bool) (at_ er : Int) (w : World) : Calls Tryz.prog 24 #[.agg #[.int .i64 kind, .int .i64 part, .int .i64 rk, .int .i64 rt, .string x, .bool late, .int .i64 at_, .int .i64 er]] w fun e w' => e = .returned (evv (evof25 kind part rk rt x.data.toList late at_ er)) ∧ Below w.heap.size w w' := by
  unfold evof25
  by_cases h1 : kind = 1
  · rw [if_pos h1]
    subst h1
    go_enter Tryz.func24, Tryz.ntmps24
    go_wp2
    go_ret
    exact ⟨rfl, (Below.refl _ _).alloc (Nat.le_refl _) _⟩
  · rw [if_neg h1]
    by_cases h2 : kind = 2
    · rw [if_pos h2]
      subst h2
      go_enter Tryz.func24, Tryz.ntmps24
      go_wp2
      go_ret
      exact ⟨rfl, (Below.refl _ _).alloc (Nat.le_refl _) _⟩
    · rw [if_neg h2]
      go_enter Tryz.func24, Tryz.ntmps24
      go_wp2
      go_ret
      exact ⟨rfl, (Below.refl _ _).alloc (Nat.le_refl _) _⟩
end Go.Proofs.YtmimfkhkilijcaaGreat
