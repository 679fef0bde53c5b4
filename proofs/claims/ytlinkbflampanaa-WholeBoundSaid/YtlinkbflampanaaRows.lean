/-
  No cell of these rows narrows 'for every input' (looked for: loops, veiled, ifaces, maps, wideKeys, modest, calm, conditions, laid).
  DERIVED. THE GIVEN ROWS OF THIS SEAT. 5 by the template 'for every input the law returns true; each argument reads behind the call as it read before'; 0 by the template 'total and deterministic' (their statements: YtlinkbflampanaaTotals.lean).
  GIVEN WITH THE SEED: the statements are not yours to turn. If you find one false, say at which input.
  Laid BY PROGRAM, IN A SANDBOX (cutbox-rows.mjs): the forced cells as the released guide's own fill.sh prints them over the translation 4eefdf472d69d5cb… (all of the seat's roots in one cut). By AI agents, Wed Nov 11 2026. No macro, syntax, notation, axiom, sorry.
-/
import Derived.Test.YtlinkbflampanaaChecked
import GoSem.Claim
import GoSem.ClaimJoined
import GoSem.ClaimMapViews
import Derived.JoinedTies
import Derived.KernelRfl
namespace Go.Proofs.Ytlinkbflampanaa
/- THE CELL 'sum', in the pinned program and in every row, IS THE sha256 OF THE DUMP (.gsa) THAT YtlinkbflampanaaProg.lean LOADS. Nothing in Lean hashes anything: it is a label: what it is worth is what the hold of that sum in a sandbox is worth. -/
noncomputable def Try.pinned : Pinned := { name := "ytlinkbflampanaa", sum := "4eefdf472d69d5cb2285fb611ede29a40ee2392de984edb7220e4dbab8015f22", checked := Try.checked }
namespace Rows
def none {H : Type} : Left H := { results := [], args := [] }

/-- 'tidewaiterlaw09.ClampRises': WHATEVER THE INPUT: true; the input reads as it did. -/
def clampRisesSpec : ChangeSpec := { name := "clampRises", fn := fun _ => fun
  | [d] => { results := [.lit (.bool true)], args := [d] }
  | _ => none }
def clampRisesRow : OpenClaim := { program := "ytlinkbflampanaa", sum := "4eefdf472d69d5cb2285fb611ede29a40ee2392de984edb7220e4dbab8015f22", func := "tidewaiter/tidewaiterlaw09.ClampRises", spec := "clampRises", apart := false }
def ClampRisesSaid : Prop := clampRisesRow.holds Try.pinned (OpenSpec.ofChange clampRisesSpec)

/-- ITS FALSE NEIGHBOUR: 'it returns false'. Refute it at one input. -/
def clampRisesWrong : ChangeSpec := { name := "clampRises", fn := fun _ => fun
  | [d] => { results := [.lit (.bool false)], args := [d] }
  | _ => none }
def ClampRisesWrongFalsely : Prop := clampRisesRow.holds Try.pinned (OpenSpec.ofChange clampRisesWrong)

/-- 'tidewaiterlaw09.ClampAgain': WHATEVER THE INPUT: true; the input reads as it did. -/
def clampAgainSpec : ChangeSpec := { name := "clampAgain", fn := fun _ => fun
  | [d] => { results := [.lit (.bool true)], args := [d] }
  | _ => none }
def clampAgainRow : OpenClaim := { program := "ytlinkbflampanaa", sum := "4eefdf472d69d5cb2285fb611ede29a40ee2392de984edb7220e4dbab8015f22", func := "tidewaiter/tidewaiterlaw09.ClampAgain", spec := "clampAgain", apart := false }
def ClampAgainSaid : Prop := clampAgainRow.holds Try.pinned (OpenSpec.ofChange clampAgainSpec)

/-- ITS FALSE NEIGHBOUR: 'it returns false'. Refute it at one input. -/
def clampAgainWrong : ChangeSpec := { name := "clampAgain", fn := fun _ => fun
  | [d] => { results := [.lit (.bool false)], args := [d] }
  | _ => none }
def ClampAgainWrongFalsely : Prop := clampAgainRow.holds Try.pinned (OpenSpec.ofChange clampAgainWrong)

/-- 'tidewaiterlaw10.BoundedNows': WHATEVER THE INPUT: true; the input reads as it did. -/
def boundedNowsSpec : ChangeSpec := { name := "boundedNows", fn := fun _ => fun
  | [d1, d2] => { results := [.lit (.bool true)], args := [d1, d2] }
  | _ => none }
def boundedNowsRow : OpenClaim := { program := "ytlinkbflampanaa", sum := "4eefdf472d69d5cb2285fb611ede29a40ee2392de984edb7220e4dbab8015f22", func := "tidewaiter/tidewaiterlaw10.BoundedNows", spec := "boundedNows", apart := false }
def BoundedNowsSaid : Prop := boundedNowsRow.holds Try.pinned (OpenSpec.ofChange boundedNowsSpec)

/-- ITS FALSE NEIGHBOUR: 'it returns false'. Refute it at one input. -/
def boundedNowsWrong : ChangeSpec := { name := "boundedNows", fn := fun _ => fun
  | [d1, d2] => { results := [.lit (.bool false)], args := [d1, d2] }
  | _ => none }
def BoundedNowsWrongFalsely : Prop := boundedNowsRow.holds Try.pinned (OpenSpec.ofChange boundedNowsWrong)

/-- 'tidewaiterlaw10.BoundedTrue': WHATEVER THE INPUT: true; the input reads as it did. -/
def boundedTrueSpec : ChangeSpec := { name := "boundedTrue", fn := fun _ => fun
  | [d1, d2] => { results := [.lit (.bool true)], args := [d1, d2] }
  | _ => none }
def boundedTrueRow : OpenClaim := { program := "ytlinkbflampanaa", sum := "4eefdf472d69d5cb2285fb611ede29a40ee2392de984edb7220e4dbab8015f22", func := "tidewaiter/tidewaiterlaw10.BoundedTrue", spec := "boundedTrue", apart := false }
def BoundedTrueSaid : Prop := boundedTrueRow.holds Try.pinned (OpenSpec.ofChange boundedTrueSpec)

/-- ITS FALSE NEIGHBOUR: 'it returns false'. Refute it at one input. -/
def boundedTrueWrong : ChangeSpec := { name := "boundedTrue", fn := fun _ => fun
  | [d1, d2] => { results := [.lit (.bool false)], args := [d1, d2] }
  | _ => none }
def BoundedTrueWrongFalsely : Prop := boundedTrueRow.holds Try.pinned (OpenSpec.ofChange boundedTrueWrong)

/-- 'tidewaitertop.WholeBound': WHATEVER THE INPUT: true; the input reads as it did. -/
def wholeBoundSpec : ChangeSpec := { name := "wholeBound", fn := fun _ => fun
  | [d1, d2] => { results := [.lit (.bool true)], args := [d1, d2] }
  | _ => none }
def wholeBoundRow : OpenClaim := { program := "ytlinkbflampanaa", sum := "4eefdf472d69d5cb2285fb611ede29a40ee2392de984edb7220e4dbab8015f22", func := "tidewaiter/tidewaitertop.WholeBound", spec := "wholeBound", apart := false }
def WholeBoundSaid : Prop := wholeBoundRow.holds Try.pinned (OpenSpec.ofChange wholeBoundSpec)

/-- ITS FALSE NEIGHBOUR: 'it returns false'. Refute it at one input. -/
def wholeBoundWrong : ChangeSpec := { name := "wholeBound", fn := fun _ => fun
  | [d1, d2] => { results := [.lit (.bool false)], args := [d1, d2] }
  | _ => none }
def WholeBoundWrongFalsely : Prop := wholeBoundRow.holds Try.pinned (OpenSpec.ofChange wholeBoundWrong)

/- THE SECOND FORM. 'bulk': how many values and letters a reading holds, each counted each time it is reached (what is shared counts as often as it is met; a slice's spare places count too). A statement '..UptoSaid' is the law's where the arguments, and the package variables that the reading takes, are together of bulk at most 1048576: NARROWER than '..Said'. Prove '..Said' where nothing that the law and all that it calls make is longer than what came in: it says more and counts as full. Else prove '..UptoSaid'. A law counts once. -/
mutual
def uptoBulk {H : Type} : DataW H → Nat
  | .lit (.string bytes) => bytes.length + 1
  | .lit _ => 1
  | .nil => 1
  | .ptr d => uptoBulk d + 1
  | .slice elems spare => uptoBulkAll elems + uptoBulkAll spare + 1
  | .agg parts => uptoBulkAll parts + 1
  | .iface _ d => uptoBulk d + 1
  | .map entries => uptoBulkEntries entries + 1
  | .held _ => 1
def uptoBulkAll {H : Type} : List (DataW H) → Nat
  | [] => 0
  | d :: r => uptoBulk d + uptoBulkAll r
def uptoBulkEntries {H : Type} : List (Lit × DataW H) → Nat
  | [] => 0
  | x :: r => uptoBulkEntry x + uptoBulkEntries r
def uptoBulkEntry {H : Type} : Lit × DataW H → Nat
  | (.string bytes, d) => bytes.length + uptoBulk d + 1
  | (_, d) => uptoBulk d + 1
 end
def uptoSmall : (H : Type) → List (DataW H) → Bool := fun _ ds => decide (uptoBulkAll ds ≤ 1048576)
def OpenSpec.upto (s : _root_.Go.ChangeSpec) : _root_.Go.OpenSpec := { _root_.Go.OpenSpec.ofChange s with cond := some uptoSmall }

/-- 'tidewaiterlaw09.ClampRises', WHERE WHAT IT READS IS OF BULK AT MOST 1048576: true; the input reads as it did. -/
def clampRisesUptoRow : OpenClaim := { program := "ytlinkbflampanaa", sum := "4eefdf472d69d5cb2285fb611ede29a40ee2392de984edb7220e4dbab8015f22", func := "tidewaiter/tidewaiterlaw09.ClampRises", spec := "clampRises", apart := false, narrowed := true }
def ClampRisesUptoSaid : Prop := clampRisesUptoRow.holds Try.pinned (OpenSpec.upto clampRisesSpec)

/-- 'tidewaiterlaw09.ClampAgain', WHERE WHAT IT READS IS OF BULK AT MOST 1048576: true; the input reads as it did. -/
def clampAgainUptoRow : OpenClaim := { program := "ytlinkbflampanaa", sum := "4eefdf472d69d5cb2285fb611ede29a40ee2392de984edb7220e4dbab8015f22", func := "tidewaiter/tidewaiterlaw09.ClampAgain", spec := "clampAgain", apart := false, narrowed := true }
def ClampAgainUptoSaid : Prop := clampAgainUptoRow.holds Try.pinned (OpenSpec.upto clampAgainSpec)

/-- 'tidewaiterlaw10.BoundedNows', WHERE WHAT IT READS IS OF BULK AT MOST 1048576: true; the input reads as it did. -/
def boundedNowsUptoRow : OpenClaim := { program := "ytlinkbflampanaa", sum := "4eefdf472d69d5cb2285fb611ede29a40ee2392de984edb7220e4dbab8015f22", func := "tidewaiter/tidewaiterlaw10.BoundedNows", spec := "boundedNows", apart := false, narrowed := true }
def BoundedNowsUptoSaid : Prop := boundedNowsUptoRow.holds Try.pinned (OpenSpec.upto boundedNowsSpec)

/-- 'tidewaiterlaw10.BoundedTrue', WHERE WHAT IT READS IS OF BULK AT MOST 1048576: true; the input reads as it did. -/
def boundedTrueUptoRow : OpenClaim := { program := "ytlinkbflampanaa", sum := "4eefdf472d69d5cb2285fb611ede29a40ee2392de984edb7220e4dbab8015f22", func := "tidewaiter/tidewaiterlaw10.BoundedTrue", spec := "boundedTrue", apart := false, narrowed := true }
def BoundedTrueUptoSaid : Prop := boundedTrueUptoRow.holds Try.pinned (OpenSpec.upto boundedTrueSpec)

/-- 'tidewaitertop.WholeBound', WHERE WHAT IT READS IS OF BULK AT MOST 1048576: true; the input reads as it did. -/
def wholeBoundUptoRow : OpenClaim := { program := "ytlinkbflampanaa", sum := "4eefdf472d69d5cb2285fb611ede29a40ee2392de984edb7220e4dbab8015f22", func := "tidewaiter/tidewaitertop.WholeBound", spec := "wholeBound", apart := false, narrowed := true }
def WholeBoundUptoSaid : Prop := wholeBoundUptoRow.holds Try.pinned (OpenSpec.upto wholeBoundSpec)

end Rows
end Go.Proofs.Ytlinkbflampanaa
