/-
  No cell of these rows narrows 'for every input' (looked for: loops, veiled, ifaces, maps, wideKeys, modest, calm, conditions, laid).
  DERIVED. THE GIVEN ROWS OF THIS SEAT. 5 by the template 'for every input the law returns true; each argument reads behind the call as it read before'; 0 by the template 'total and deterministic' (their statements: YthlhbkcbemgkeaaTotals.lean).
  GIVEN WITH THE SEED: the statements are not yours to turn. If you find one false, say at which input.
  Laid BY PROGRAM, IN A SANDBOX (cutbox-rows.mjs): the forced cells as the released guide's own fill.sh prints them over the translation c8b2b34b82047a6c… (all of the seat's roots in one cut). By AI agents, Wed Nov 11 2026. No macro, syntax, notation, axiom, sorry.
-/
import Derived.Test.YthlhbkcbemgkeaaChecked
import GoSem.Claim
import GoSem.ClaimJoined
import GoSem.ClaimMapViews
import Derived.JoinedTies
import Derived.KernelRfl
namespace Go.Proofs.Ythlhbkcbemgkeaa
/- THE CELL 'sum', in the pinned program and in every row, IS THE sha256 OF THE DUMP (.gsa) THAT YthlhbkcbemgkeaaProg.lean LOADS. Nothing in Lean hashes anything: it is a label: what it is worth is what the hold of that sum in a sandbox is worth. -/
noncomputable def Try.pinned : Pinned := { name := "ythlhbkcbemgkeaa", sum := "c8b2b34b82047a6c9497e21103def2ebef731ae97dcd4660a2a2964d7b828e32", checked := Try.checked }
namespace Rows
def none {H : Type} : Left H := { results := [], args := [] }

/-- 'tidewaiterlaw07.RingPushes': WHATEVER THE INPUT: true; the input reads as it did. -/
def ringPushesSpec : ChangeSpec := { name := "ringPushes", fn := fun _ => fun
  | [d1, d2] => { results := [.lit (.bool true)], args := [d1, d2] }
  | _ => none }
def ringPushesRow : OpenClaim := { program := "ythlhbkcbemgkeaa", sum := "c8b2b34b82047a6c9497e21103def2ebef731ae97dcd4660a2a2964d7b828e32", func := "tidewaiter/tidewaiterlaw07.RingPushes", spec := "ringPushes", apart := false }
def RingPushesSaid : Prop := ringPushesRow.holds Try.pinned (OpenSpec.ofChange ringPushesSpec)

/-- ITS FALSE NEIGHBOUR: 'it returns false'. Refute it at one input. -/
def ringPushesWrong : ChangeSpec := { name := "ringPushes", fn := fun _ => fun
  | [d1, d2] => { results := [.lit (.bool false)], args := [d1, d2] }
  | _ => none }
def RingPushesWrongFalsely : Prop := ringPushesRow.holds Try.pinned (OpenSpec.ofChange ringPushesWrong)

/-- 'tidewaiterlaw07.RingAt': WHATEVER THE INPUT: true; the input reads as it did. -/
def ringAtSpec : ChangeSpec := { name := "ringAt", fn := fun _ => fun
  | [d1, d2, d3] => { results := [.lit (.bool true)], args := [d1, d2, d3] }
  | _ => none }
def ringAtRow : OpenClaim := { program := "ythlhbkcbemgkeaa", sum := "c8b2b34b82047a6c9497e21103def2ebef731ae97dcd4660a2a2964d7b828e32", func := "tidewaiter/tidewaiterlaw07.RingAt", spec := "ringAt", apart := false }
def RingAtSaid : Prop := ringAtRow.holds Try.pinned (OpenSpec.ofChange ringAtSpec)

/-- ITS FALSE NEIGHBOUR: 'it returns false'. Refute it at one input. -/
def ringAtWrong : ChangeSpec := { name := "ringAt", fn := fun _ => fun
  | [d1, d2, d3] => { results := [.lit (.bool false)], args := [d1, d2, d3] }
  | _ => none }
def RingAtWrongFalsely : Prop := ringAtRow.holds Try.pinned (OpenSpec.ofChange ringAtWrong)

/-- 'tidewaiterlaw08.HistDoes': WHATEVER THE INPUT: true; the input reads as it did. -/
def histDoesSpec : ChangeSpec := { name := "histDoes", fn := fun _ => fun
  | [d1, d2] => { results := [.lit (.bool true)], args := [d1, d2] }
  | _ => none }
def histDoesRow : OpenClaim := { program := "ythlhbkcbemgkeaa", sum := "c8b2b34b82047a6c9497e21103def2ebef731ae97dcd4660a2a2964d7b828e32", func := "tidewaiter/tidewaiterlaw08.HistDoes", spec := "histDoes", inPlace := ["slices.overlaps[tidewaiter/hist.row]"], unfollowed := true, recurses := true, apart := false }
def HistDoesSaid : Prop := histDoesRow.holds Try.pinned (OpenSpec.ofChange histDoesSpec)

/-- ITS FALSE NEIGHBOUR: 'it returns false'. Refute it at one input. -/
def histDoesWrong : ChangeSpec := { name := "histDoes", fn := fun _ => fun
  | [d1, d2] => { results := [.lit (.bool false)], args := [d1, d2] }
  | _ => none }
def HistDoesWrongFalsely : Prop := histDoesRow.holds Try.pinned (OpenSpec.ofChange histDoesWrong)

/-- 'tidewaiterlaw08.HistOrder': WHATEVER THE INPUT: true; the input reads as it did. -/
def histOrderSpec : ChangeSpec := { name := "histOrder", fn := fun _ => fun
  | [d] => { results := [.lit (.bool true)], args := [d] }
  | _ => none }
def histOrderRow : OpenClaim := { program := "ythlhbkcbemgkeaa", sum := "c8b2b34b82047a6c9497e21103def2ebef731ae97dcd4660a2a2964d7b828e32", func := "tidewaiter/tidewaiterlaw08.HistOrder", spec := "histOrder", inPlace := ["slices.overlaps[tidewaiter/hist.row]"], unfollowed := true, recurses := true, apart := false }
def HistOrderSaid : Prop := histOrderRow.holds Try.pinned (OpenSpec.ofChange histOrderSpec)

/-- ITS FALSE NEIGHBOUR: 'it returns false'. Refute it at one input. -/
def histOrderWrong : ChangeSpec := { name := "histOrder", fn := fun _ => fun
  | [d] => { results := [.lit (.bool false)], args := [d] }
  | _ => none }
def HistOrderWrongFalsely : Prop := histOrderRow.holds Try.pinned (OpenSpec.ofChange histOrderWrong)

/-- 'tidewaitertop.WholeWindow': WHATEVER THE INPUT: true; the input reads as it did. -/
def wholeWindowSpec : ChangeSpec := { name := "wholeWindow", fn := fun _ => fun
  | [d1, d2] => { results := [.lit (.bool true)], args := [d1, d2] }
  | _ => none }
def wholeWindowRow : OpenClaim := { program := "ythlhbkcbemgkeaa", sum := "c8b2b34b82047a6c9497e21103def2ebef731ae97dcd4660a2a2964d7b828e32", func := "tidewaiter/tidewaitertop.WholeWindow", spec := "wholeWindow", inPlace := ["slices.overlaps[tidewaiter/hist.row]"], unfollowed := true, recurses := true, apart := false }
def WholeWindowSaid : Prop := wholeWindowRow.holds Try.pinned (OpenSpec.ofChange wholeWindowSpec)

/-- ITS FALSE NEIGHBOUR: 'it returns false'. Refute it at one input. -/
def wholeWindowWrong : ChangeSpec := { name := "wholeWindow", fn := fun _ => fun
  | [d1, d2] => { results := [.lit (.bool false)], args := [d1, d2] }
  | _ => none }
def WholeWindowWrongFalsely : Prop := wholeWindowRow.holds Try.pinned (OpenSpec.ofChange wholeWindowWrong)

/- THE SECOND FORM. 'bulk': how many values and letters a reading holds, each counted each time it is reached (what is shared counts as often as it is met; a slice's spare places count too). A statement '..UptoSaid' is the law's where the arguments, and the package variables that the reading takes, are together of bulk at most 1048576: NARROWER than '..Said'. Prove '..Said' where nothing that the law and all that it calls make is longer than what came in: it says more and counts as full. Else prove '..UptoSaid'. A law counts once. -/
mutual
def uptoBulk {H : Type} : DataW H → Nat
  | .lit (.string bytes) => bytes.length + 1
  | .lit _ => 1
  | .nil => 1
  | .ptr d => uptoBulk d + 1
  | .slice elems spare => uptoBulkAll elems + uptoBulkAll spare + 1
  | .agg parts => uptoBulkAll parts + 1
  | .iface _ d => uptoBulk d + 1
  | .map entries => uptoBulkEntries entries + 1
  | .held _ => 1
def uptoBulkAll {H : Type} : List (DataW H) → Nat
  | [] => 0
  | d :: r => uptoBulk d + uptoBulkAll r
def uptoBulkEntries {H : Type} : List (Lit × DataW H) → Nat
  | [] => 0
  | x :: r => uptoBulkEntry x + uptoBulkEntries r
def uptoBulkEntry {H : Type} : Lit × DataW H → Nat
  | (.string bytes, d) => bytes.length + uptoBulk d + 1
  | (_, d) => uptoBulk d + 1
 end
def uptoSmall : (H : Type) → List (DataW H) → Bool := fun _ ds => decide (uptoBulkAll ds ≤ 1048576)
def OpenSpec.upto (s : _root_.Go.ChangeSpec) : _root_.Go.OpenSpec := { _root_.Go.OpenSpec.ofChange s with cond := some uptoSmall }

/-- 'tidewaiterlaw07.RingPushes', WHERE WHAT IT READS IS OF BULK AT MOST 1048576: true; the input reads as it did. -/
def ringPushesUptoRow : OpenClaim := { program := "ythlhbkcbemgkeaa", sum := "c8b2b34b82047a6c9497e21103def2ebef731ae97dcd4660a2a2964d7b828e32", func := "tidewaiter/tidewaiterlaw07.RingPushes", spec := "ringPushes", apart := false, narrowed := true }
def RingPushesUptoSaid : Prop := ringPushesUptoRow.holds Try.pinned (OpenSpec.upto ringPushesSpec)

/-- 'tidewaiterlaw07.RingAt', WHERE WHAT IT READS IS OF BULK AT MOST 1048576: true; the input reads as it did. -/
def ringAtUptoRow : OpenClaim := { program := "ythlhbkcbemgkeaa", sum := "c8b2b34b82047a6c9497e21103def2ebef731ae97dcd4660a2a2964d7b828e32", func := "tidewaiter/tidewaiterlaw07.RingAt", spec := "ringAt", apart := false, narrowed := true }
def RingAtUptoSaid : Prop := ringAtUptoRow.holds Try.pinned (OpenSpec.upto ringAtSpec)

/-- 'tidewaiterlaw08.HistDoes', WHERE WHAT IT READS IS OF BULK AT MOST 1048576: true; the input reads as it did. -/
def histDoesUptoRow : OpenClaim := { program := "ythlhbkcbemgkeaa", sum := "c8b2b34b82047a6c9497e21103def2ebef731ae97dcd4660a2a2964d7b828e32", func := "tidewaiter/tidewaiterlaw08.HistDoes", spec := "histDoes", inPlace := ["slices.overlaps[tidewaiter/hist.row]"], unfollowed := true, recurses := true, apart := false, narrowed := true }
def HistDoesUptoSaid : Prop := histDoesUptoRow.holds Try.pinned (OpenSpec.upto histDoesSpec)

/-- 'tidewaiterlaw08.HistOrder', WHERE WHAT IT READS IS OF BULK AT MOST 1048576: true; the input reads as it did. -/
def histOrderUptoRow : OpenClaim := { program := "ythlhbkcbemgkeaa", sum := "c8b2b34b82047a6c9497e21103def2ebef731ae97dcd4660a2a2964d7b828e32", func := "tidewaiter/tidewaiterlaw08.HistOrder", spec := "histOrder", inPlace := ["slices.overlaps[tidewaiter/hist.row]"], unfollowed := true, recurses := true, apart := false, narrowed := true }
def HistOrderUptoSaid : Prop := histOrderUptoRow.holds Try.pinned (OpenSpec.upto histOrderSpec)

/-- 'tidewaitertop.WholeWindow', WHERE WHAT IT READS IS OF BULK AT MOST 1048576: true; the input reads as it did. -/
def wholeWindowUptoRow : OpenClaim := { program := "ythlhbkcbemgkeaa", sum := "c8b2b34b82047a6c9497e21103def2ebef731ae97dcd4660a2a2964d7b828e32", func := "tidewaiter/tidewaitertop.WholeWindow", spec := "wholeWindow", inPlace := ["slices.overlaps[tidewaiter/hist.row]"], unfollowed := true, recurses := true, apart := false, narrowed := true }
def WholeWindowUptoSaid : Prop := wholeWindowUptoRow.holds Try.pinned (OpenSpec.upto wholeWindowSpec)

end Rows
end Go.Proofs.Ythlhbkcbemgkeaa
