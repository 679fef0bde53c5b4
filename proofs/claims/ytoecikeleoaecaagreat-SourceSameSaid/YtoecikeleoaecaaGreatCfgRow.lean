/- Rows of choices, and of rules, that come in. -/
import Derived.Test.YtoecikeleoaecaaGreatKBase
import Derived.Test.YtoecikeleoaecaaGreatKRul
namespace Go.Proofs.YtoecikeleoaecaaGreat
set_option maxRecDepth 4000
open Go.ChangeShapes Go.WideShapes Go.ChangeAt Go.RowKit
set_option linter.unusedVariables false
set_option linter.unusedSimpArgs false

def chc (x : Bool × Int) : List Value := [.bool x.1, .int .i64 x.2]
theorem RowC.cells {w : World} {b off : Nat} {l : List (Bool × Int)} (h : RowG w 2 chc (some ⟨b, off, none⟩) l) (k : Nat) (hk : k < l.length) :
    b < w.heap.size ∧ w.cell? ⟨b, off + k * 2, none⟩ = some (.bool l[k].1) ∧ w.cell? ⟨b, off + k * 2 + 1, none⟩ = some (.int .i64 l[k].2) := by
  obtain ⟨h1, h2⟩ := RowG.cell h k hk
  exact ⟨h1, h2 0 (by omega), h2 1 (by omega)⟩
theorem RowG.map {α β : Type} {w : World} {m : Nat} {f : β → List Value} {g : α → β} {a : Option Addr} {l : List α} (h : RowG w m (fun x => f (g x)) a l) : RowG w m f a (l.map g) :=
  ⟨fun i hi => by
    have hi' : i < l.length := by simpa using hi
    obtain ⟨b, off, h1, h2, h3⟩ := h.at_ i hi'
    exact ⟨b, off, h1, h2, fun j hj => by rw [List.getElem_map]; exact h3 j hj⟩⟩
abbrev ShC : Sh := .pair .bool (.pair (.int .i64) .unit)
def toC (d : Bool × Int × Unit) : Bool × Int := (d.1, d.2.1)
def chq (d : Bool × Int × Unit) : Prop := in64 d.2.1
def chf (d : Bool × Int × Unit) : List Value := chc (toC d)
theorem Rd.ch {w : World} {cs : List Value} {d : Bool × Int × Unit} (h : Rd w ShC cs d) : cs = chf d ∧ chq d := by
  obtain ⟨t, n, u⟩ := d
  obtain ⟨c1, d1, rfl, h1, c2, d2, rfl, ⟨rfl, h2⟩, h3⟩ := h
  have h1' : c1 = [.bool t] := h1
  have h3' : d2 = [] := h3
  subst h1' h3'
  exact ⟨rfl, bounds_i64 h2⟩
theorem Rd.chs {w : World} {a : Option Addr} {n c : Nat} {l : List (Bool × Int × Unit)} (h : Rd w (.sl ShC) [.slice a n c] l) :
    n = (l.map toC).length ∧ n ≤ c ∧ c ≤ maxLen ∧ RowG w 2 chc a (l.map toC) ∧ ∀ x ∈ l.map toC, in64 x.2 := by
  have hR : n = l.length ∧ n ≤ c ∧ c ≤ maxLen ∧ RowG w 2 chf a l ∧ ∀ x ∈ l, chq x := Rd.rowG (s := ShC) 2 rfl (by decide) chf chq (fun w cs d h => Rd.ch h) h
  obtain ⟨h1, h2, h3, h4, h5⟩ := hR
  refine ⟨by simpa using h1, h2, h3, RowG.map (f := chc) (g := toC) h4, fun x hx => ?_⟩
  obtain ⟨y, hy, rfl⟩ := List.mem_map.1 hx
  exact h5 y hy
abbrev ShU : Sh := .pair (.int .i64) (.pair (.int .i64) (.pair (.int .i64) (.pair (.int .i64) (.pair (.int .i64) .unit))))
def toU (d : Int × Int × Int × Int × Int × Unit) : Rul := ⟨d.1, d.2.1, d.2.2.1, d.2.2.2.1, d.2.2.2.2.1⟩
def ruq (d : Int × Int × Int × Int × Int × Unit) : Prop := (toU d).Fits
def ruf (d : Int × Int × Int × Int × Int × Unit) : List Value := (toU d).cells
theorem Rd.ru {w : World} {cs : List Value} {d : Int × Int × Int × Int × Int × Unit} (h : Rd w ShU cs d) : cs = ruf d ∧ ruq d := by
  obtain ⟨k, b, p, n, s, u⟩ := d
  obtain ⟨c1, d1, rfl, ⟨rfl, h1⟩, c2, d2, rfl, ⟨rfl, h2⟩, c3, d3, rfl, ⟨rfl, h3⟩, c4, d4, rfl, ⟨rfl, h4⟩, c5, d5, rfl, ⟨rfl, h5⟩, h6⟩ := h
  have h6' : d5 = [] := h6
  subst h6'
  exact ⟨rfl, ⟨bounds_i64 h1, bounds_i64 h2, bounds_i64 h3, bounds_i64 h4, bounds_i64 h5⟩⟩
end Go.Proofs.YtoecikeleoaecaaGreat
