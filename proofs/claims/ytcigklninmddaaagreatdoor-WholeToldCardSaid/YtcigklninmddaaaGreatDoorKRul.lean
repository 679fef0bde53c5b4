/- A rule: which way, and what it goes by. -/
import Derived.Test.YtcigklninmddaaaGreatDoorKBase
import Derived.WalkKit
import Derived.ProofKit
import Derived.OpenShut
import Derived.Handy
import Derived.IntWalk
import Derived.Outline
import Derived.Lib.Hide
import Derived.WalkLawsBesides
namespace Go.Proofs.YtcigklninmddaaaGreatDoor
set_option maxRecDepth 4000
open Go.ChangeShapes Go.WideShapes Go.ChangeAt Go.RowKit
set_option linter.unusedVariables false

/-- A rule: which way, and what it goes by. -/
structure Rul where
  kind : Int
  bound : Int
  pct : Int
  win : Int
  sign : Int
def Rul.cells (r : Rul) : List Value := [.int .i64 r.kind, .int .i64 r.bound, .int .i64 r.pct, .int .i64 r.win, .int .i64 r.sign]
def Rul.val (r : Rul) : Value := .agg #[.int .i64 r.kind, .int .i64 r.bound, .int .i64 r.pct, .int .i64 r.win, .int .i64 r.sign]
def in64 (n : Int) : Prop := -9223372036854775808 ≤ n ∧ n ≤ 9223372036854775807
structure Rul.Fits (r : Rul) : Prop where
  kind : in64 r.kind
  bound : in64 r.bound
  pct : in64 r.pct
  win : in64 r.win
  sign : in64 r.sign
/-- The error of a rule, 0 of none. -/
def rcheck (r : Rul) : Int :=
  if r.kind = 0 then (if r.bound < 0 then 7 else 0)
  else if r.kind = 1 then (if r.sign < 0 ∨ 1114111 < r.sign then 7 else 0)
  else if r.kind = 2 then (if r.pct < 0 ∨ 100 < r.pct ∨ r.win < 1 ∨ 4096 < r.win then 7 else 0)
  else 3
theorem rcheck_some {r : Rul} (h : rcheck r = 0) : (r.kind = 0 ∧ 0 ≤ r.bound) ∨ (r.kind = 1 ∧ 0 ≤ r.sign ∧ r.sign ≤ 1114111) ∨ (r.kind = 2 ∧ (0 ≤ r.pct ∧ r.pct ≤ 100) ∧ 1 ≤ r.win ∧ r.win ≤ 4096) := by
  unfold rcheck at h
  (repeat' split at h) <;> omega
end Go.Proofs.YtcigklninmddaaaGreatDoor

/- gen: Check; the document's Check. -/
namespace Go.Proofs.YtcigklninmddaaaGreatDoor
set_option maxRecDepth 4000
open Go.ChangeShapes Go.WideShapes Go.ChangeAt Go.RowKit
set_option linter.unusedVariables false
set_option linter.unusedSimpArgs false

end Go.Proofs.YtcigklninmddaaaGreatDoor
