/- Choices and sources that come in. -/
import Derived.Test.YtfgfjofbghfdpaaDoorChoice2
import Derived.Test.YtfgfjofbghfdpaaDoorConf8
namespace Go.Proofs.YtfgfjofbghfdpaaDoor
set_option maxRecDepth 4000
open Go.ChangeShapes Go.WideShapes Go.ChangeAt Go.RowKit
open PWord
set_option linter.unusedVariables false
set_option linter.unusedSimpArgs false

theorem RowG.map {α β : Type} {w : World} {m : Nat} {f : β → List Value} {g : α → β} {a : Option Addr} {l : List α} (h : RowG w m (fun x => f (g x)) a l) : RowG w m f a (l.map g) :=
  ⟨fun i hi => by
    have hi' : i < l.length := by simpa using hi
    obtain ⟨b, off, h1, h2, h3⟩ := h.at_ i hi'
    exact ⟨b, off, h1, h2, fun j hj => by rw [List.getElem_map]; exact h3 j hj⟩⟩

abbrev ShC : Sh := .pair .bool (.pair (.int .i64) .unit)
def toC (d : Bool × Int × Unit) : Bool × Int := (d.1, d.2.1)
def chq (d : Bool × Int × Unit) : Prop := in64 d.2.1
def chf (d : Bool × Int × Unit) : List Value := chc (toC d)
theorem Rd.ch {w : World} {cs : List Value} {d : Bool × Int × Unit} (h : Rd w ShC cs d) : cs = chf d ∧ chq d := by
  obtain ⟨t, n, u⟩ := d
  obtain ⟨c1, d1, rfl, h1, c2, d2, rfl, ⟨rfl, h2⟩, h3⟩ := h
  have h1' : c1 = [.bool t] := h1
  have h3' : d2 = [] := h3
  subst h1' h3'
  exact ⟨rfl, bounds_i64 h2⟩
theorem Rd.chs {w : World} {a : Option Addr} {n c : Nat} {l : List (Bool × Int × Unit)} (h : Rd w (.sl ShC) [.slice a n c] l) :
    n = (l.map toC).length ∧ n ≤ c ∧ c ≤ maxLen ∧ RowG w 2 chc a (l.map toC) ∧ ∀ x ∈ l.map toC, in64 x.2 := by
  have hR : n = l.length ∧ n ≤ c ∧ c ≤ maxLen ∧ RowG w 2 chf a l ∧ ∀ x ∈ l, chq x := Rd.rowG (s := ShC) 2 rfl (by decide) chf chq (fun w cs d h => Rd.ch h) h
  obtain ⟨h1, h2, h3, h4, h5⟩ := hR
  refine ⟨by simpa using h1, h2, h3, RowG.map (f := chc) (g := toC) h4, fun x hx => ?_⟩
  obtain ⟨y, hy, rfl⟩ := List.mem_map.1 hx
  exact h5 y hy

abbrev ShU : Sh := .pair (.int .i64) (.pair (.int .i64) (.pair (.int .i64) (.pair (.int .i64) (.pair (.int .i64) .unit))))
def toU (d : Int × Int × Int × Int × Int × Unit) : Rul := ⟨d.1, d.2.1, d.2.2.1, d.2.2.2.1, d.2.2.2.2.1⟩
def ruq (d : Int × Int × Int × Int × Int × Unit) : Prop := (toU d).Fits
def ruf (d : Int × Int × Int × Int × Int × Unit) : List Value := (toU d).cells
theorem Rd.ru {w : World} {cs : List Value} {d : Int × Int × Int × Int × Int × Unit} (h : Rd w ShU cs d) : cs = ruf d ∧ ruq d := by
  obtain ⟨k, b, p, n, s, u⟩ := d
  obtain ⟨c1, d1, rfl, ⟨rfl, h1⟩, c2, d2, rfl, ⟨rfl, h2⟩, c3, d3, rfl, ⟨rfl, h3⟩, c4, d4, rfl, ⟨rfl, h4⟩, c5, d5, rfl, ⟨rfl, h5⟩, h6⟩ := h
  have h6' : d5 = [] := h6
  subst h6'
  exact ⟨rfl, ⟨bounds_i64 h1, bounds_i64 h2, bounds_i64 h3, bounds_i64 h4, bounds_i64 h5⟩⟩
/-- A source that comes in. -/
theorem Rd.cfg {w : World} {c0 : Array Value} {d : (List (Int × Int × Int × Int × Int × Unit)) × Int × Int × Unit} (h : Rd w (.pair (.sl ShU) (.pair (.int .i64) (.pair (.int .i64) .unit))) c0.toList d) :
    ∃ (a : Option Addr) (n cap : Nat) (c : Cfg), c0 = #[.slice a n cap, .int .i64 c.timeout, .int .i64 c.drift] ∧ c.Fits ∧ n = c.rules.length ∧ n ≤ cap ∧ cap ≤ maxLen ∧ RowU w a c.rules := by
  obtain ⟨l, t, dr, u⟩ := d
  obtain ⟨c1, d1, e0, h1, c2, d2, e1, ⟨e2, h2⟩, c3, d3, e3, ⟨e4, h3⟩, h4⟩ := h
  have h4' : d3 = [] := h4
  subst h4' e4 e3 e2 e1
  have hv : ∃ a n cap, c1 = [.slice a n cap] := by
    rcases h1 with ⟨rfl, _⟩ | ⟨x, cap, el, rfl, _⟩
    · exact ⟨_, _, _, rfl⟩
    · exact ⟨_, _, _, rfl⟩
  obtain ⟨a, n, cap, rfl⟩ := hv
  have hR : n = l.length ∧ n ≤ cap ∧ cap ≤ maxLen ∧ RowG w 5 ruf a l ∧ ∀ x ∈ l, ruq x := Rd.rowG (s := ShU) 5 rfl (by decide) ruf ruq (fun w cs d h => Rd.ru h) h1
  obtain ⟨g1, g2, g3, g4, g5⟩ := hR
  refine ⟨a, n, cap, ⟨l.map toU, t, dr⟩, ?_, ⟨fun r hr => ?_, bounds_i64 h2, bounds_i64 h3⟩, by simpa using g1, g2, g3, RowG.map (f := Rul.cells) (g := toU) g4⟩
  · apply Array.ext'
    rw [e0]
    rfl
  · obtain ⟨y, hy, rfl⟩ := List.mem_map.1 hr
    exact g5 y hy
end Go.Proofs.YtfgfjofbghfdpaaDoor
