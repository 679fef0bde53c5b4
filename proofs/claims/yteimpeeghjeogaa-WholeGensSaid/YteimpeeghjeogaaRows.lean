/-
  No cell of these rows narrows 'for every input' (looked for: loops, veiled, ifaces, maps, wideKeys, modest, calm, conditions, laid).
  DERIVED. THE GIVEN ROWS OF THIS SEAT. 5 by the template 'for every input the law returns true; each argument reads behind the call as it read before'; 0 by the template 'total and deterministic' (their statements: YteimpeeghjeogaaTotals.lean).
  GIVEN WITH THE SEED: the statements are not yours to turn. If you find one false, say at which input.
  Laid BY PROGRAM, IN A SANDBOX (cutbox-rows.mjs): the forced cells as the released guide's own fill.sh prints them over the translation 7c8dbd6778fb1a8f… (all of the seat's roots in one cut). By AI agents, Wed Nov 11 2026. No macro, syntax, notation, axiom, sorry.
-/
import Derived.Test.YteimpeeghjeogaaChecked
import GoSem.Claim
import GoSem.ClaimJoined
import GoSem.ClaimMapViews
import Derived.JoinedTies
import Derived.KernelRfl
namespace Go.Proofs.Yteimpeeghjeogaa
/- THE CELL 'sum', in the pinned program and in every row, IS THE sha256 OF THE DUMP (.gsa) THAT YteimpeeghjeogaaProg.lean LOADS. Nothing in Lean hashes anything: it is a label: what it is worth is what the hold of that sum in a sandbox is worth. -/
noncomputable def Try.pinned : Pinned := { name := "yteimpeeghjeogaa", sum := "7c8dbd6778fb1a8f7543b363fd29c975178120db26ca1984302cfebf6edfeac0", checked := Try.checked }
namespace Rows
def none {H : Type} : Left H := { results := [], args := [] }

/-- 'tidewaiterlaw13.GenOf': WHATEVER THE INPUT: true; the input reads as it did. -/
def genOfSpec : ChangeSpec := { name := "genOf", fn := fun _ => fun
  | [d] => { results := [.lit (.bool true)], args := [d] }
  | _ => none }
def genOfRow : OpenClaim := { program := "yteimpeeghjeogaa", sum := "7c8dbd6778fb1a8f7543b363fd29c975178120db26ca1984302cfebf6edfeac0", func := "tidewaiter/tidewaiterlaw13.GenOf", spec := "genOf", unfollowed := true, recurses := true, apart := false }
def GenOfSaid : Prop := genOfRow.holds Try.pinned (OpenSpec.ofChange genOfSpec)

/-- ITS FALSE NEIGHBOUR: 'it returns false'. Refute it at one input. -/
def genOfWrong : ChangeSpec := { name := "genOf", fn := fun _ => fun
  | [d] => { results := [.lit (.bool false)], args := [d] }
  | _ => none }
def GenOfWrongFalsely : Prop := genOfRow.holds Try.pinned (OpenSpec.ofChange genOfWrong)

/-- 'tidewaiterlaw13.GenNows': WHATEVER THE INPUT: true; the input reads as it did. -/
def genNowsSpec : ChangeSpec := { name := "genNows", fn := fun _ => fun
  | [d1, d2] => { results := [.lit (.bool true)], args := [d1, d2] }
  | _ => none }
def genNowsRow : OpenClaim := { program := "yteimpeeghjeogaa", sum := "7c8dbd6778fb1a8f7543b363fd29c975178120db26ca1984302cfebf6edfeac0", func := "tidewaiter/tidewaiterlaw13.GenNows", spec := "genNows", unfollowed := true, recurses := true, apart := false }
def GenNowsSaid : Prop := genNowsRow.holds Try.pinned (OpenSpec.ofChange genNowsSpec)

/-- ITS FALSE NEIGHBOUR: 'it returns false'. Refute it at one input. -/
def genNowsWrong : ChangeSpec := { name := "genNows", fn := fun _ => fun
  | [d1, d2] => { results := [.lit (.bool false)], args := [d1, d2] }
  | _ => none }
def GenNowsWrongFalsely : Prop := genNowsRow.holds Try.pinned (OpenSpec.ofChange genNowsWrong)

/-- 'tidewaiterlaw14.ClockGoes': WHATEVER THE INPUT: true; the input reads as it did. -/
def clockGoesSpec : ChangeSpec := { name := "clockGoes", fn := fun _ => fun
  | [d1, d2, d3] => { results := [.lit (.bool true)], args := [d1, d2, d3] }
  | _ => none }
def clockGoesRow : OpenClaim := { program := "yteimpeeghjeogaa", sum := "7c8dbd6778fb1a8f7543b363fd29c975178120db26ca1984302cfebf6edfeac0", func := "tidewaiter/tidewaiterlaw14.ClockGoes", spec := "clockGoes", apart := false }
def ClockGoesSaid : Prop := clockGoesRow.holds Try.pinned (OpenSpec.ofChange clockGoesSpec)

/-- ITS FALSE NEIGHBOUR: 'it returns false'. Refute it at one input. -/
def clockGoesWrong : ChangeSpec := { name := "clockGoes", fn := fun _ => fun
  | [d1, d2, d3] => { results := [.lit (.bool false)], args := [d1, d2, d3] }
  | _ => none }
def ClockGoesWrongFalsely : Prop := clockGoesRow.holds Try.pinned (OpenSpec.ofChange clockGoesWrong)

/-- 'tidewaiterlaw14.ClockParts': WHATEVER THE INPUT: true; the input reads as it did. -/
def clockPartsSpec : ChangeSpec := { name := "clockParts", fn := fun _ => fun
  | [d1, d2] => { results := [.lit (.bool true)], args := [d1, d2] }
  | _ => none }
def clockPartsRow : OpenClaim := { program := "yteimpeeghjeogaa", sum := "7c8dbd6778fb1a8f7543b363fd29c975178120db26ca1984302cfebf6edfeac0", func := "tidewaiter/tidewaiterlaw14.ClockParts", spec := "clockParts", apart := false }
def ClockPartsSaid : Prop := clockPartsRow.holds Try.pinned (OpenSpec.ofChange clockPartsSpec)

/-- ITS FALSE NEIGHBOUR: 'it returns false'. Refute it at one input. -/
def clockPartsWrong : ChangeSpec := { name := "clockParts", fn := fun _ => fun
  | [d1, d2] => { results := [.lit (.bool false)], args := [d1, d2] }
  | _ => none }
def ClockPartsWrongFalsely : Prop := clockPartsRow.holds Try.pinned (OpenSpec.ofChange clockPartsWrong)

/-- 'tidewaitertop.WholeGens': WHATEVER THE INPUT: true; the input reads as it did. -/
def wholeGensSpec : ChangeSpec := { name := "wholeGens", fn := fun _ => fun
  | [d1, d2, d3] => { results := [.lit (.bool true)], args := [d1, d2, d3] }
  | _ => none }
def wholeGensRow : OpenClaim := { program := "yteimpeeghjeogaa", sum := "7c8dbd6778fb1a8f7543b363fd29c975178120db26ca1984302cfebf6edfeac0", func := "tidewaiter/tidewaitertop.WholeGens", spec := "wholeGens", unfollowed := true, recurses := true, apart := false }
def WholeGensSaid : Prop := wholeGensRow.holds Try.pinned (OpenSpec.ofChange wholeGensSpec)

/-- ITS FALSE NEIGHBOUR: 'it returns false'. Refute it at one input. -/
def wholeGensWrong : ChangeSpec := { name := "wholeGens", fn := fun _ => fun
  | [d1, d2, d3] => { results := [.lit (.bool false)], args := [d1, d2, d3] }
  | _ => none }
def WholeGensWrongFalsely : Prop := wholeGensRow.holds Try.pinned (OpenSpec.ofChange wholeGensWrong)

/- THE SECOND FORM. 'bulk': how many values and letters a reading holds, each counted each time it is reached (what is shared counts as often as it is met; a slice's spare places count too). A statement '..UptoSaid' is the law's where the arguments, and the package variables that the reading takes, are together of bulk at most 1048576: NARROWER than '..Said'. Prove '..Said' where nothing that the law and all that it calls make is longer than what came in: it says more and counts as full. Else prove '..UptoSaid'. A law counts once. -/
mutual
def uptoBulk {H : Type} : DataW H → Nat
  | .lit (.string bytes) => bytes.length + 1
  | .lit _ => 1
  | .nil => 1
  | .ptr d => uptoBulk d + 1
  | .slice elems spare => uptoBulkAll elems + uptoBulkAll spare + 1
  | .agg parts => uptoBulkAll parts + 1
  | .iface _ d => uptoBulk d + 1
  | .map entries => uptoBulkEntries entries + 1
  | .held _ => 1
def uptoBulkAll {H : Type} : List (DataW H) → Nat
  | [] => 0
  | d :: r => uptoBulk d + uptoBulkAll r
def uptoBulkEntries {H : Type} : List (Lit × DataW H) → Nat
  | [] => 0
  | x :: r => uptoBulkEntry x + uptoBulkEntries r
def uptoBulkEntry {H : Type} : Lit × DataW H → Nat
  | (.string bytes, d) => bytes.length + uptoBulk d + 1
  | (_, d) => uptoBulk d + 1
 end
def uptoSmall : (H : Type) → List (DataW H) → Bool := fun _ ds => decide (uptoBulkAll ds ≤ 1048576)
def OpenSpec.upto (s : _root_.Go.ChangeSpec) : _root_.Go.OpenSpec := { _root_.Go.OpenSpec.ofChange s with cond := some uptoSmall }

/-- 'tidewaiterlaw13.GenOf', WHERE WHAT IT READS IS OF BULK AT MOST 1048576: true; the input reads as it did. -/
def genOfUptoRow : OpenClaim := { program := "yteimpeeghjeogaa", sum := "7c8dbd6778fb1a8f7543b363fd29c975178120db26ca1984302cfebf6edfeac0", func := "tidewaiter/tidewaiterlaw13.GenOf", spec := "genOf", unfollowed := true, recurses := true, apart := false, narrowed := true }
def GenOfUptoSaid : Prop := genOfUptoRow.holds Try.pinned (OpenSpec.upto genOfSpec)

/-- 'tidewaiterlaw13.GenNows', WHERE WHAT IT READS IS OF BULK AT MOST 1048576: true; the input reads as it did. -/
def genNowsUptoRow : OpenClaim := { program := "yteimpeeghjeogaa", sum := "7c8dbd6778fb1a8f7543b363fd29c975178120db26ca1984302cfebf6edfeac0", func := "tidewaiter/tidewaiterlaw13.GenNows", spec := "genNows", unfollowed := true, recurses := true, apart := false, narrowed := true }
def GenNowsUptoSaid : Prop := genNowsUptoRow.holds Try.pinned (OpenSpec.upto genNowsSpec)

/-- 'tidewaiterlaw14.ClockGoes', WHERE WHAT IT READS IS OF BULK AT MOST 1048576: true; the input reads as it did. -/
def clockGoesUptoRow : OpenClaim := { program := "yteimpeeghjeogaa", sum := "7c8dbd6778fb1a8f7543b363fd29c975178120db26ca1984302cfebf6edfeac0", func := "tidewaiter/tidewaiterlaw14.ClockGoes", spec := "clockGoes", apart := false, narrowed := true }
def ClockGoesUptoSaid : Prop := clockGoesUptoRow.holds Try.pinned (OpenSpec.upto clockGoesSpec)

/-- 'tidewaiterlaw14.ClockParts', WHERE WHAT IT READS IS OF BULK AT MOST 1048576: true; the input reads as it did. -/
def clockPartsUptoRow : OpenClaim := { program := "yteimpeeghjeogaa", sum := "7c8dbd6778fb1a8f7543b363fd29c975178120db26ca1984302cfebf6edfeac0", func := "tidewaiter/tidewaiterlaw14.ClockParts", spec := "clockParts", apart := false, narrowed := true }
def ClockPartsUptoSaid : Prop := clockPartsUptoRow.holds Try.pinned (OpenSpec.upto clockPartsSpec)

/-- 'tidewaitertop.WholeGens', WHERE WHAT IT READS IS OF BULK AT MOST 1048576: true; the input reads as it did. -/
def wholeGensUptoRow : OpenClaim := { program := "yteimpeeghjeogaa", sum := "7c8dbd6778fb1a8f7543b363fd29c975178120db26ca1984302cfebf6edfeac0", func := "tidewaiter/tidewaitertop.WholeGens", spec := "wholeGens", unfollowed := true, recurses := true, apart := false, narrowed := true }
def WholeGensUptoSaid : Prop := wholeGensUptoRow.holds Try.pinned (OpenSpec.upto wholeGensSpec)

end Rows
end Go.Proofs.Yteimpeeghjeogaa
