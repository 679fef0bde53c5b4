/-
  No cell of these rows narrows 'for every input' (looked for: loops, veiled, ifaces, maps, wideKeys, modest, calm, conditions, laid).
  DERIVED. THE GIVEN ROWS OF THIS SEAT. 5 by the template 'for every input the law returns true; each argument reads behind the call as it read before'; 0 by the template 'total and deterministic' (their statements: YthpnkjnieljdiaaTotals.lean).
  GIVEN WITH THE SEED: the statements are not yours to turn. If you find one false, say at which input.
  Laid BY PROGRAM, IN A SANDBOX (cutbox-rows.mjs): the forced cells as the released guide's own fill.sh prints them over the translation 6beb1e5700ef4fd5… (all of the seat's roots in one cut). By AI agents, Wed Nov 11 2026. No macro, syntax, notation, axiom, sorry.
-/
import Derived.Test.YthpnkjnieljdiaaChecked
import GoSem.Claim
import GoSem.ClaimJoined
import GoSem.ClaimMapViews
import Derived.JoinedTies
import Derived.KernelRfl
namespace Go.Proofs.Ythpnkjnieljdiaa
/- THE CELL 'sum', in the pinned program and in every row, IS THE sha256 OF THE DUMP (.gsa) THAT YthpnkjnieljdiaaProg.lean LOADS. Nothing in Lean hashes anything: it is a label: what it is worth is what the hold of that sum in a sandbox is worth. -/
noncomputable def Try.pinned : Pinned := { name := "ythpnkjnieljdiaa", sum := "6beb1e5700ef4fd512324686486d3475933724e421e51db200498b89ffde9d9d", checked := Try.checked }
namespace Rows
def none {H : Type} : Left H := { results := [], args := [] }

/-- 'tidewaiterlaw11.PunctNows': WHATEVER THE INPUT: true; the input reads as it did. -/
def punctNowsSpec : ChangeSpec := { name := "punctNows", fn := fun _ => fun
  | [d1, d2] => { results := [.lit (.bool true)], args := [d1, d2] }
  | _ => none }
def punctNowsRow : OpenClaim := { program := "ythpnkjnieljdiaa", sum := "6beb1e5700ef4fd512324686486d3475933724e421e51db200498b89ffde9d9d", func := "tidewaiter/tidewaiterlaw11.PunctNows", spec := "punctNows", apart := false }
def PunctNowsSaid : Prop := punctNowsRow.holds Try.pinned (OpenSpec.ofChange punctNowsSpec)

/-- ITS FALSE NEIGHBOUR: 'it returns false'. Refute it at one input. -/
def punctNowsWrong : ChangeSpec := { name := "punctNows", fn := fun _ => fun
  | [d1, d2] => { results := [.lit (.bool false)], args := [d1, d2] }
  | _ => none }
def PunctNowsWrongFalsely : Prop := punctNowsRow.holds Try.pinned (OpenSpec.ofChange punctNowsWrong)

/-- 'tidewaiterlaw11.PunctMute': WHATEVER THE INPUT: true; the input reads as it did. -/
def punctMuteSpec : ChangeSpec := { name := "punctMute", fn := fun _ => fun
  | [d1, d2] => { results := [.lit (.bool true)], args := [d1, d2] }
  | _ => none }
def punctMuteRow : OpenClaim := { program := "ythpnkjnieljdiaa", sum := "6beb1e5700ef4fd512324686486d3475933724e421e51db200498b89ffde9d9d", func := "tidewaiter/tidewaiterlaw11.PunctMute", spec := "punctMute", apart := false }
def PunctMuteSaid : Prop := punctMuteRow.holds Try.pinned (OpenSpec.ofChange punctMuteSpec)

/-- ITS FALSE NEIGHBOUR: 'it returns false'. Refute it at one input. -/
def punctMuteWrong : ChangeSpec := { name := "punctMute", fn := fun _ => fun
  | [d1, d2] => { results := [.lit (.bool false)], args := [d1, d2] }
  | _ => none }
def PunctMuteWrongFalsely : Prop := punctMuteRow.holds Try.pinned (OpenSpec.ofChange punctMuteWrong)

/-- 'tidewaiterlaw12.PercentNows': WHATEVER THE INPUT: true; the input reads as it did. -/
def percentNowsSpec : ChangeSpec := { name := "percentNows", fn := fun _ => fun
  | [d1, d2, d3] => { results := [.lit (.bool true)], args := [d1, d2, d3] }
  | _ => none }
def percentNowsRow : OpenClaim := { program := "ythpnkjnieljdiaa", sum := "6beb1e5700ef4fd512324686486d3475933724e421e51db200498b89ffde9d9d", func := "tidewaiter/tidewaiterlaw12.PercentNows", spec := "percentNows", inPlace := ["slices.overlaps[tidewaiter/hist.row]"], unfollowed := true, recurses := true, apart := false }
def PercentNowsSaid : Prop := percentNowsRow.holds Try.pinned (OpenSpec.ofChange percentNowsSpec)

/-- ITS FALSE NEIGHBOUR: 'it returns false'. Refute it at one input. -/
def percentNowsWrong : ChangeSpec := { name := "percentNows", fn := fun _ => fun
  | [d1, d2, d3] => { results := [.lit (.bool false)], args := [d1, d2, d3] }
  | _ => none }
def PercentNowsWrongFalsely : Prop := percentNowsRow.holds Try.pinned (OpenSpec.ofChange percentNowsWrong)

/-- 'tidewaiterlaw12.PercentWide': WHATEVER THE INPUT: true; the input reads as it did. -/
def percentWideSpec : ChangeSpec := { name := "percentWide", fn := fun _ => fun
  | [d1, d2] => { results := [.lit (.bool true)], args := [d1, d2] }
  | _ => none }
def percentWideRow : OpenClaim := { program := "ythpnkjnieljdiaa", sum := "6beb1e5700ef4fd512324686486d3475933724e421e51db200498b89ffde9d9d", func := "tidewaiter/tidewaiterlaw12.PercentWide", spec := "percentWide", inPlace := ["slices.overlaps[tidewaiter/hist.row]"], unfollowed := true, recurses := true, apart := false }
def PercentWideSaid : Prop := percentWideRow.holds Try.pinned (OpenSpec.ofChange percentWideSpec)

/-- ITS FALSE NEIGHBOUR: 'it returns false'. Refute it at one input. -/
def percentWideWrong : ChangeSpec := { name := "percentWide", fn := fun _ => fun
  | [d1, d2] => { results := [.lit (.bool false)], args := [d1, d2] }
  | _ => none }
def PercentWideWrongFalsely : Prop := percentWideRow.holds Try.pinned (OpenSpec.ofChange percentWideWrong)

/-- 'tidewaitertop.WholeWays': WHATEVER THE INPUT: true; the input reads as it did. -/
def wholeWaysSpec : ChangeSpec := { name := "wholeWays", fn := fun _ => fun
  | [d1, d2, d3] => { results := [.lit (.bool true)], args := [d1, d2, d3] }
  | _ => none }
def wholeWaysRow : OpenClaim := { program := "ythpnkjnieljdiaa", sum := "6beb1e5700ef4fd512324686486d3475933724e421e51db200498b89ffde9d9d", func := "tidewaiter/tidewaitertop.WholeWays", spec := "wholeWays", inPlace := ["slices.overlaps[tidewaiter/hist.row]"], unfollowed := true, recurses := true, apart := false }
def WholeWaysSaid : Prop := wholeWaysRow.holds Try.pinned (OpenSpec.ofChange wholeWaysSpec)

/-- ITS FALSE NEIGHBOUR: 'it returns false'. Refute it at one input. -/
def wholeWaysWrong : ChangeSpec := { name := "wholeWays", fn := fun _ => fun
  | [d1, d2, d3] => { results := [.lit (.bool false)], args := [d1, d2, d3] }
  | _ => none }
def WholeWaysWrongFalsely : Prop := wholeWaysRow.holds Try.pinned (OpenSpec.ofChange wholeWaysWrong)

/- THE SECOND FORM. 'bulk': how many values and letters a reading holds, each counted each time it is reached (what is shared counts as often as it is met; a slice's spare places count too). A statement '..UptoSaid' is the law's where the arguments, and the package variables that the reading takes, are together of bulk at most 1048576: NARROWER than '..Said'. Prove '..Said' where nothing that the law and all that it calls make is longer than what came in: it says more and counts as full. Else prove '..UptoSaid'. A law counts once. -/
mutual
def uptoBulk {H : Type} : DataW H → Nat
  | .lit (.string bytes) => bytes.length + 1
  | .lit _ => 1
  | .nil => 1
  | .ptr d => uptoBulk d + 1
  | .slice elems spare => uptoBulkAll elems + uptoBulkAll spare + 1
  | .agg parts => uptoBulkAll parts + 1
  | .iface _ d => uptoBulk d + 1
  | .map entries => uptoBulkEntries entries + 1
  | .held _ => 1
def uptoBulkAll {H : Type} : List (DataW H) → Nat
  | [] => 0
  | d :: r => uptoBulk d + uptoBulkAll r
def uptoBulkEntries {H : Type} : List (Lit × DataW H) → Nat
  | [] => 0
  | x :: r => uptoBulkEntry x + uptoBulkEntries r
def uptoBulkEntry {H : Type} : Lit × DataW H → Nat
  | (.string bytes, d) => bytes.length + uptoBulk d + 1
  | (_, d) => uptoBulk d + 1
 end
def uptoSmall : (H : Type) → List (DataW H) → Bool := fun _ ds => decide (uptoBulkAll ds ≤ 1048576)
def OpenSpec.upto (s : _root_.Go.ChangeSpec) : _root_.Go.OpenSpec := { _root_.Go.OpenSpec.ofChange s with cond := some uptoSmall }

/-- 'tidewaiterlaw11.PunctNows', WHERE WHAT IT READS IS OF BULK AT MOST 1048576: true; the input reads as it did. -/
def punctNowsUptoRow : OpenClaim := { program := "ythpnkjnieljdiaa", sum := "6beb1e5700ef4fd512324686486d3475933724e421e51db200498b89ffde9d9d", func := "tidewaiter/tidewaiterlaw11.PunctNows", spec := "punctNows", apart := false, narrowed := true }
def PunctNowsUptoSaid : Prop := punctNowsUptoRow.holds Try.pinned (OpenSpec.upto punctNowsSpec)

/-- 'tidewaiterlaw11.PunctMute', WHERE WHAT IT READS IS OF BULK AT MOST 1048576: true; the input reads as it did. -/
def punctMuteUptoRow : OpenClaim := { program := "ythpnkjnieljdiaa", sum := "6beb1e5700ef4fd512324686486d3475933724e421e51db200498b89ffde9d9d", func := "tidewaiter/tidewaiterlaw11.PunctMute", spec := "punctMute", apart := false, narrowed := true }
def PunctMuteUptoSaid : Prop := punctMuteUptoRow.holds Try.pinned (OpenSpec.upto punctMuteSpec)

/-- 'tidewaiterlaw12.PercentNows', WHERE WHAT IT READS IS OF BULK AT MOST 1048576: true; the input reads as it did. -/
def percentNowsUptoRow : OpenClaim := { program := "ythpnkjnieljdiaa", sum := "6beb1e5700ef4fd512324686486d3475933724e421e51db200498b89ffde9d9d", func := "tidewaiter/tidewaiterlaw12.PercentNows", spec := "percentNows", inPlace := ["slices.overlaps[tidewaiter/hist.row]"], unfollowed := true, recurses := true, apart := false, narrowed := true }
def PercentNowsUptoSaid : Prop := percentNowsUptoRow.holds Try.pinned (OpenSpec.upto percentNowsSpec)

/-- 'tidewaiterlaw12.PercentWide', WHERE WHAT IT READS IS OF BULK AT MOST 1048576: true; the input reads as it did. -/
def percentWideUptoRow : OpenClaim := { program := "ythpnkjnieljdiaa", sum := "6beb1e5700ef4fd512324686486d3475933724e421e51db200498b89ffde9d9d", func := "tidewaiter/tidewaiterlaw12.PercentWide", spec := "percentWide", inPlace := ["slices.overlaps[tidewaiter/hist.row]"], unfollowed := true, recurses := true, apart := false, narrowed := true }
def PercentWideUptoSaid : Prop := percentWideUptoRow.holds Try.pinned (OpenSpec.upto percentWideSpec)

/-- 'tidewaitertop.WholeWays', WHERE WHAT IT READS IS OF BULK AT MOST 1048576: true; the input reads as it did. -/
def wholeWaysUptoRow : OpenClaim := { program := "ythpnkjnieljdiaa", sum := "6beb1e5700ef4fd512324686486d3475933724e421e51db200498b89ffde9d9d", func := "tidewaiter/tidewaitertop.WholeWays", spec := "wholeWays", inPlace := ["slices.overlaps[tidewaiter/hist.row]"], unfollowed := true, recurses := true, apart := false, narrowed := true }
def WholeWaysUptoSaid : Prop := wholeWaysUptoRow.holds Try.pinned (OpenSpec.upto wholeWaysSpec)

end Rows
end Go.Proofs.Ythpnkjnieljdiaa
