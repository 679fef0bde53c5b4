/-
  No cell of these rows narrows 'for every input' (looked for: loops, veiled, ifaces, maps, wideKeys, modest, calm, conditions, laid).
  DERIVED. THE GIVEN ROWS OF THIS SEAT. 5 by the template 'for every input the law returns true; each argument reads behind the call as it read before'; 0 by the template 'total and deterministic' (their statements: YtiahiadipmmgcaaTotals.lean).
  GIVEN WITH THE SEED: the statements are not yours to turn. If you find one false, say at which input.
  Laid BY PROGRAM, IN A SANDBOX (cutbox-rows.mjs): the forced cells as the released guide's own fill.sh prints them over the translation ecfd6ab4eb4e02e0… (all of the seat's roots in one cut). By AI agents, Wed Nov 11 2026. No macro, syntax, notation, axiom, sorry.
-/
import Derived.Test.YtiahiadipmmgcaaChecked
import GoSem.Claim
import GoSem.ClaimJoined
import GoSem.ClaimMapViews
import Derived.JoinedTies
import Derived.KernelRfl
namespace Go.Proofs.Ytiahiadipmmgcaa
/- THE CELL 'sum', in the pinned program and in every row, IS THE sha256 OF THE DUMP (.gsa) THAT YtiahiadipmmgcaaProg.lean LOADS. Nothing in Lean hashes anything: it is a label: what it is worth is what the hold of that sum in a sandbox is worth. -/
noncomputable def Try.pinned : Pinned := { name := "ytiahiadipmmgcaa", sum := "ecfd6ab4eb4e02e0fd078d4b17f8f245f40422261c081d5f6f4f897e5adc9d37", checked := Try.checked }
namespace Rows
def none {H : Type} : Left H := { results := [], args := [] }

/-- 'tidewaiterlaw15.IdleDoes': WHATEVER THE INPUT: true; the input reads as it did. -/
def idleDoesSpec : ChangeSpec := { name := "idleDoes", fn := fun _ => fun
  | [d1, d2, d3] => { results := [.lit (.bool true)], args := [d1, d2, d3] }
  | _ => none }
def idleDoesRow : OpenClaim := { program := "ytiahiadipmmgcaa", sum := "ecfd6ab4eb4e02e0fd078d4b17f8f245f40422261c081d5f6f4f897e5adc9d37", func := "tidewaiter/tidewaiterlaw15.IdleDoes", spec := "idleDoes", apart := false }
def IdleDoesSaid : Prop := idleDoesRow.holds Try.pinned (OpenSpec.ofChange idleDoesSpec)

/-- ITS FALSE NEIGHBOUR: 'it returns false'. Refute it at one input. -/
def idleDoesWrong : ChangeSpec := { name := "idleDoes", fn := fun _ => fun
  | [d1, d2, d3] => { results := [.lit (.bool false)], args := [d1, d2, d3] }
  | _ => none }
def IdleDoesWrongFalsely : Prop := idleDoesRow.holds Try.pinned (OpenSpec.ofChange idleDoesWrong)

/-- 'tidewaiterlaw15.IdleKept': WHATEVER THE INPUT: true; the input reads as it did. -/
def idleKeptSpec : ChangeSpec := { name := "idleKept", fn := fun _ => fun
  | [d1, d2] => { results := [.lit (.bool true)], args := [d1, d2] }
  | _ => none }
def idleKeptRow : OpenClaim := { program := "ytiahiadipmmgcaa", sum := "ecfd6ab4eb4e02e0fd078d4b17f8f245f40422261c081d5f6f4f897e5adc9d37", func := "tidewaiter/tidewaiterlaw15.IdleKept", spec := "idleKept", apart := false }
def IdleKeptSaid : Prop := idleKeptRow.holds Try.pinned (OpenSpec.ofChange idleKeptSpec)

/-- ITS FALSE NEIGHBOUR: 'it returns false'. Refute it at one input. -/
def idleKeptWrong : ChangeSpec := { name := "idleKept", fn := fun _ => fun
  | [d1, d2] => { results := [.lit (.bool false)], args := [d1, d2] }
  | _ => none }
def IdleKeptWrongFalsely : Prop := idleKeptRow.holds Try.pinned (OpenSpec.ofChange idleKeptWrong)

/-- 'tidewaiterlaw16.TreeDoes': WHATEVER THE INPUT: true; the input reads as it did. -/
def treeDoesSpec : ChangeSpec := { name := "treeDoes", fn := fun _ => fun
  | [d1, d2] => { results := [.lit (.bool true)], args := [d1, d2] }
  | _ => none }
def treeDoesRow : OpenClaim := { program := "ytiahiadipmmgcaa", sum := "ecfd6ab4eb4e02e0fd078d4b17f8f245f40422261c081d5f6f4f897e5adc9d37", func := "tidewaiter/tidewaiterlaw16.TreeDoes", spec := "treeDoes", apart := false }
def TreeDoesSaid : Prop := treeDoesRow.holds Try.pinned (OpenSpec.ofChange treeDoesSpec)

/-- ITS FALSE NEIGHBOUR: 'it returns false'. Refute it at one input. -/
def treeDoesWrong : ChangeSpec := { name := "treeDoes", fn := fun _ => fun
  | [d1, d2] => { results := [.lit (.bool false)], args := [d1, d2] }
  | _ => none }
def TreeDoesWrongFalsely : Prop := treeDoesRow.holds Try.pinned (OpenSpec.ofChange treeDoesWrong)

/-- 'tidewaiterlaw16.TreeSorts': WHATEVER THE INPUT: true; the input reads as it did. -/
def treeSortsSpec : ChangeSpec := { name := "treeSorts", fn := fun _ => fun
  | [d] => { results := [.lit (.bool true)], args := [d] }
  | _ => none }
def treeSortsRow : OpenClaim := { program := "ytiahiadipmmgcaa", sum := "ecfd6ab4eb4e02e0fd078d4b17f8f245f40422261c081d5f6f4f897e5adc9d37", func := "tidewaiter/tidewaiterlaw16.TreeSorts", spec := "treeSorts", apart := false }
def TreeSortsSaid : Prop := treeSortsRow.holds Try.pinned (OpenSpec.ofChange treeSortsSpec)

/-- ITS FALSE NEIGHBOUR: 'it returns false'. Refute it at one input. -/
def treeSortsWrong : ChangeSpec := { name := "treeSorts", fn := fun _ => fun
  | [d] => { results := [.lit (.bool false)], args := [d] }
  | _ => none }
def TreeSortsWrongFalsely : Prop := treeSortsRow.holds Try.pinned (OpenSpec.ofChange treeSortsWrong)

/-- 'tidewaitertop.WholeSilent': WHATEVER THE INPUT: true; the input reads as it did. -/
def wholeSilentSpec : ChangeSpec := { name := "wholeSilent", fn := fun _ => fun
  | [d1, d2, d3] => { results := [.lit (.bool true)], args := [d1, d2, d3] }
  | _ => none }
def wholeSilentRow : OpenClaim := { program := "ytiahiadipmmgcaa", sum := "ecfd6ab4eb4e02e0fd078d4b17f8f245f40422261c081d5f6f4f897e5adc9d37", func := "tidewaiter/tidewaitertop.WholeSilent", spec := "wholeSilent", apart := false }
def WholeSilentSaid : Prop := wholeSilentRow.holds Try.pinned (OpenSpec.ofChange wholeSilentSpec)

/-- ITS FALSE NEIGHBOUR: 'it returns false'. Refute it at one input. -/
def wholeSilentWrong : ChangeSpec := { name := "wholeSilent", fn := fun _ => fun
  | [d1, d2, d3] => { results := [.lit (.bool false)], args := [d1, d2, d3] }
  | _ => none }
def WholeSilentWrongFalsely : Prop := wholeSilentRow.holds Try.pinned (OpenSpec.ofChange wholeSilentWrong)

/- THE SECOND FORM. 'bulk': how many values and letters a reading holds, each counted each time it is reached (what is shared counts as often as it is met; a slice's spare places count too). A statement '..UptoSaid' is the law's where the arguments, and the package variables that the reading takes, are together of bulk at most 1048576: NARROWER than '..Said'. Prove '..Said' where nothing that the law and all that it calls make is longer than what came in: it says more and counts as full. Else prove '..UptoSaid'. A law counts once. -/
mutual
def uptoBulk {H : Type} : DataW H → Nat
  | .lit (.string bytes) => bytes.length + 1
  | .lit _ => 1
  | .nil => 1
  | .ptr d => uptoBulk d + 1
  | .slice elems spare => uptoBulkAll elems + uptoBulkAll spare + 1
  | .agg parts => uptoBulkAll parts + 1
  | .iface _ d => uptoBulk d + 1
  | .map entries => uptoBulkEntries entries + 1
  | .held _ => 1
def uptoBulkAll {H : Type} : List (DataW H) → Nat
  | [] => 0
  | d :: r => uptoBulk d + uptoBulkAll r
def uptoBulkEntries {H : Type} : List (Lit × DataW H) → Nat
  | [] => 0
  | x :: r => uptoBulkEntry x + uptoBulkEntries r
def uptoBulkEntry {H : Type} : Lit × DataW H → Nat
  | (.string bytes, d) => bytes.length + uptoBulk d + 1
  | (_, d) => uptoBulk d + 1
 end
def uptoSmall : (H : Type) → List (DataW H) → Bool := fun _ ds => decide (uptoBulkAll ds ≤ 1048576)
def OpenSpec.upto (s : _root_.Go.ChangeSpec) : _root_.Go.OpenSpec := { _root_.Go.OpenSpec.ofChange s with cond := some uptoSmall }

/-- 'tidewaiterlaw15.IdleDoes', WHERE WHAT IT READS IS OF BULK AT MOST 1048576: true; the input reads as it did. -/
def idleDoesUptoRow : OpenClaim := { program := "ytiahiadipmmgcaa", sum := "ecfd6ab4eb4e02e0fd078d4b17f8f245f40422261c081d5f6f4f897e5adc9d37", func := "tidewaiter/tidewaiterlaw15.IdleDoes", spec := "idleDoes", apart := false, narrowed := true }
def IdleDoesUptoSaid : Prop := idleDoesUptoRow.holds Try.pinned (OpenSpec.upto idleDoesSpec)

/-- 'tidewaiterlaw15.IdleKept', WHERE WHAT IT READS IS OF BULK AT MOST 1048576: true; the input reads as it did. -/
def idleKeptUptoRow : OpenClaim := { program := "ytiahiadipmmgcaa", sum := "ecfd6ab4eb4e02e0fd078d4b17f8f245f40422261c081d5f6f4f897e5adc9d37", func := "tidewaiter/tidewaiterlaw15.IdleKept", spec := "idleKept", apart := false, narrowed := true }
def IdleKeptUptoSaid : Prop := idleKeptUptoRow.holds Try.pinned (OpenSpec.upto idleKeptSpec)

/-- 'tidewaiterlaw16.TreeDoes', WHERE WHAT IT READS IS OF BULK AT MOST 1048576: true; the input reads as it did. -/
def treeDoesUptoRow : OpenClaim := { program := "ytiahiadipmmgcaa", sum := "ecfd6ab4eb4e02e0fd078d4b17f8f245f40422261c081d5f6f4f897e5adc9d37", func := "tidewaiter/tidewaiterlaw16.TreeDoes", spec := "treeDoes", apart := false, narrowed := true }
def TreeDoesUptoSaid : Prop := treeDoesUptoRow.holds Try.pinned (OpenSpec.upto treeDoesSpec)

/-- 'tidewaiterlaw16.TreeSorts', WHERE WHAT IT READS IS OF BULK AT MOST 1048576: true; the input reads as it did. -/
def treeSortsUptoRow : OpenClaim := { program := "ytiahiadipmmgcaa", sum := "ecfd6ab4eb4e02e0fd078d4b17f8f245f40422261c081d5f6f4f897e5adc9d37", func := "tidewaiter/tidewaiterlaw16.TreeSorts", spec := "treeSorts", apart := false, narrowed := true }
def TreeSortsUptoSaid : Prop := treeSortsUptoRow.holds Try.pinned (OpenSpec.upto treeSortsSpec)

/-- 'tidewaitertop.WholeSilent', WHERE WHAT IT READS IS OF BULK AT MOST 1048576: true; the input reads as it did. -/
def wholeSilentUptoRow : OpenClaim := { program := "ytiahiadipmmgcaa", sum := "ecfd6ab4eb4e02e0fd078d4b17f8f245f40422261c081d5f6f4f897e5adc9d37", func := "tidewaiter/tidewaitertop.WholeSilent", spec := "wholeSilent", apart := false, narrowed := true }
def WholeSilentUptoSaid : Prop := wholeSilentUptoRow.holds Try.pinned (OpenSpec.upto wholeSilentSpec)

end Rows
end Go.Proofs.Ytiahiadipmmgcaa
