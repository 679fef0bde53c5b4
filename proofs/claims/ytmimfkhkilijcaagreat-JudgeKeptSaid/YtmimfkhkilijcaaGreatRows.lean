/-
  No cell of these rows narrows 'for every input' (looked for: loops, veiled, ifaces, maps, wideKeys, modest, calm, conditions, laid).
  DERIVED. THE GIVEN ROWS OF THIS SEAT. 5 by the template 'for every input the law returns true; each argument reads behind the call as it read before'; 0 by the template 'total and deterministic' (their statements: YtmimfkhkilijcaaGreatTotals.lean).
  GIVEN WITH THE SEED: the statements are not yours to turn. If you find one false, say at which input.
  Laid BY PROGRAM, IN A SANDBOX (cutbox-rows.mjs): the forced cells as the released guide's own fill.sh prints them over the translation 34c5086c5f517a15… (all of the seat's roots in one cut). By AI agents, Wed Nov 11 2026. No macro, syntax, notation, axiom, sorry.
-/
import Derived.Test.YtmimfkhkilijcaaGreatChecked
import GoSem.Claim
import GoSem.ClaimJoined
import GoSem.ClaimMapViews
import Derived.JoinedTies
import Derived.KernelRfl
namespace Go.Proofs.YtmimfkhkilijcaaGreat
/- THE CELL 'sum', in the pinned program and in every row, IS THE sha256 OF THE DUMP (.gsa) THAT YtmimfkhkilijcaaGreatProg.lean LOADS. Nothing in Lean hashes anything: it is a label: what it is worth is what the hold of that sum in a sandbox is worth. -/
noncomputable def Tryz.pinned : Pinned := { name := "ytmimfkhkilijcaagreat", sum := "34c5086c5f517a159c132b43ae9f6944977cf44de81b3c140590595a1c9396ee", checked := Tryz.checked }
namespace Rows
def none {H : Type} : Left H := { results := [], args := [] }

/-- 'tidewaiterlaw25.JudgeTrue': WHATEVER THE INPUT: true; the input reads as it did. -/
def judgeTrueSpec : ChangeSpec := { name := "judgeTrue", fn := fun _ => fun
  | [d] => { results := [.lit (.bool true)], args := [d] }
  | _ => none }
def judgeTrueRow : OpenClaim := { program := "ytmimfkhkilijcaagreat", sum := "34c5086c5f517a159c132b43ae9f6944977cf44de81b3c140590595a1c9396ee", func := "tidewaiter/tidewaiterlaw25.JudgeTrue", spec := "judgeTrue", unfollowed := true, recurses := true, apart := false }
def JudgeTrueSaid : Prop := judgeTrueRow.holds Tryz.pinned (OpenSpec.ofChange judgeTrueSpec)

/-- ITS FALSE NEIGHBOUR: 'it returns false'. Refute it at one input. -/
def judgeTrueWrong : ChangeSpec := { name := "judgeTrue", fn := fun _ => fun
  | [d] => { results := [.lit (.bool false)], args := [d] }
  | _ => none }
def JudgeTrueWrongFalsely : Prop := judgeTrueRow.holds Tryz.pinned (OpenSpec.ofChange judgeTrueWrong)

/-- 'tidewaiterlaw25.JudgeNone': WHATEVER THE INPUT: true; the input reads as it did. -/
def judgeNoneSpec : ChangeSpec := { name := "judgeNone", fn := fun _ => fun
  | [d] => { results := [.lit (.bool true)], args := [d] }
  | _ => none }
def judgeNoneRow : OpenClaim := { program := "ytmimfkhkilijcaagreat", sum := "34c5086c5f517a159c132b43ae9f6944977cf44de81b3c140590595a1c9396ee", func := "tidewaiter/tidewaiterlaw25.JudgeNone", spec := "judgeNone", unfollowed := true, recurses := true, apart := false }
def JudgeNoneSaid : Prop := judgeNoneRow.holds Tryz.pinned (OpenSpec.ofChange judgeNoneSpec)

/-- ITS FALSE NEIGHBOUR: 'it returns false'. Refute it at one input. -/
def judgeNoneWrong : ChangeSpec := { name := "judgeNone", fn := fun _ => fun
  | [d] => { results := [.lit (.bool false)], args := [d] }
  | _ => none }
def JudgeNoneWrongFalsely : Prop := judgeNoneRow.holds Tryz.pinned (OpenSpec.ofChange judgeNoneWrong)

/-- 'tidewaiterlaw25.JudgeEnds': WHATEVER THE INPUT: true; the input reads as it did. -/
def judgeEndsSpec : ChangeSpec := { name := "judgeEnds", fn := fun _ => fun
  | [d] => { results := [.lit (.bool true)], args := [d] }
  | _ => none }
def judgeEndsRow : OpenClaim := { program := "ytmimfkhkilijcaagreat", sum := "34c5086c5f517a159c132b43ae9f6944977cf44de81b3c140590595a1c9396ee", func := "tidewaiter/tidewaiterlaw25.JudgeEnds", spec := "judgeEnds", unfollowed := true, recurses := true, apart := false }
def JudgeEndsSaid : Prop := judgeEndsRow.holds Tryz.pinned (OpenSpec.ofChange judgeEndsSpec)

/-- ITS FALSE NEIGHBOUR: 'it returns false'. Refute it at one input. -/
def judgeEndsWrong : ChangeSpec := { name := "judgeEnds", fn := fun _ => fun
  | [d] => { results := [.lit (.bool false)], args := [d] }
  | _ => none }
def JudgeEndsWrongFalsely : Prop := judgeEndsRow.holds Tryz.pinned (OpenSpec.ofChange judgeEndsWrong)

/-- 'tidewaiterlaw25.JudgeRows': WHATEVER THE INPUT: true; the input reads as it did. -/
def judgeRowsSpec : ChangeSpec := { name := "judgeRows", fn := fun _ => fun
  | [d1, d2] => { results := [.lit (.bool true)], args := [d1, d2] }
  | _ => none }
def judgeRowsRow : OpenClaim := { program := "ytmimfkhkilijcaagreat", sum := "34c5086c5f517a159c132b43ae9f6944977cf44de81b3c140590595a1c9396ee", func := "tidewaiter/tidewaiterlaw25.JudgeRows", spec := "judgeRows", unfollowed := true, recurses := true, apart := false }
def JudgeRowsSaid : Prop := judgeRowsRow.holds Tryz.pinned (OpenSpec.ofChange judgeRowsSpec)

/-- ITS FALSE NEIGHBOUR: 'it returns false'. Refute it at one input. -/
def judgeRowsWrong : ChangeSpec := { name := "judgeRows", fn := fun _ => fun
  | [d1, d2] => { results := [.lit (.bool false)], args := [d1, d2] }
  | _ => none }
def JudgeRowsWrongFalsely : Prop := judgeRowsRow.holds Tryz.pinned (OpenSpec.ofChange judgeRowsWrong)

/-- 'tidewaiterlaw25.JudgeKept': WHATEVER THE INPUT: true; the input reads as it did. -/
def judgeKeptSpec : ChangeSpec := { name := "judgeKept", fn := fun _ => fun
  | [d1, d2] => { results := [.lit (.bool true)], args := [d1, d2] }
  | _ => none }
def judgeKeptRow : OpenClaim := { program := "ytmimfkhkilijcaagreat", sum := "34c5086c5f517a159c132b43ae9f6944977cf44de81b3c140590595a1c9396ee", func := "tidewaiter/tidewaiterlaw25.JudgeKept", spec := "judgeKept", unfollowed := true, recurses := true, apart := false }
def JudgeKeptSaid : Prop := judgeKeptRow.holds Tryz.pinned (OpenSpec.ofChange judgeKeptSpec)

/-- ITS FALSE NEIGHBOUR: 'it returns false'. Refute it at one input. -/
def judgeKeptWrong : ChangeSpec := { name := "judgeKept", fn := fun _ => fun
  | [d1, d2] => { results := [.lit (.bool false)], args := [d1, d2] }
  | _ => none }
def JudgeKeptWrongFalsely : Prop := judgeKeptRow.holds Tryz.pinned (OpenSpec.ofChange judgeKeptWrong)

/- THE SECOND FORM. 'bulk': how many values and letters a reading holds, each counted each time it is reached (what is shared counts as often as it is met; a slice's spare places count too). A statement '..UptoSaid' is the law's where the arguments, and the package variables that the reading takes, are together of bulk at most 1048576: NARROWER than '..Said'. Prove '..Said' where nothing that the law and all that it calls make is longer than what came in: it says more and counts as full. Else prove '..UptoSaid'. A law counts once. -/
mutual
def uptoBulk {H : Type} : DataW H → Nat
  | .lit (.string bytes) => bytes.length + 1
  | .lit _ => 1
  | .nil => 1
  | .ptr d => uptoBulk d + 1
  | .slice elems spare => uptoBulkAll elems + uptoBulkAll spare + 1
  | .agg parts => uptoBulkAll parts + 1
  | .iface _ d => uptoBulk d + 1
  | .map entries => uptoBulkEntries entries + 1
  | .held _ => 1
def uptoBulkAll {H : Type} : List (DataW H) → Nat
  | [] => 0
  | d :: r => uptoBulk d + uptoBulkAll r
def uptoBulkEntries {H : Type} : List (Lit × DataW H) → Nat
  | [] => 0
  | x :: r => uptoBulkEntry x + uptoBulkEntries r
def uptoBulkEntry {H : Type} : Lit × DataW H → Nat
  | (.string bytes, d) => bytes.length + uptoBulk d + 1
  | (_, d) => uptoBulk d + 1
 end
def uptoSmall : (H : Type) → List (DataW H) → Bool := fun _ ds => decide (uptoBulkAll ds ≤ 1048576)
def OpenSpec.upto (s : _root_.Go.ChangeSpec) : _root_.Go.OpenSpec := { _root_.Go.OpenSpec.ofChange s with cond := some uptoSmall }

/-- 'tidewaiterlaw25.JudgeTrue', WHERE WHAT IT READS IS OF BULK AT MOST 1048576: true; the input reads as it did. -/
def judgeTrueUptoRow : OpenClaim := { program := "ytmimfkhkilijcaagreat", sum := "34c5086c5f517a159c132b43ae9f6944977cf44de81b3c140590595a1c9396ee", func := "tidewaiter/tidewaiterlaw25.JudgeTrue", spec := "judgeTrue", unfollowed := true, recurses := true, apart := false, narrowed := true }
def JudgeTrueUptoSaid : Prop := judgeTrueUptoRow.holds Tryz.pinned (OpenSpec.upto judgeTrueSpec)

/-- 'tidewaiterlaw25.JudgeNone', WHERE WHAT IT READS IS OF BULK AT MOST 1048576: true; the input reads as it did. -/
def judgeNoneUptoRow : OpenClaim := { program := "ytmimfkhkilijcaagreat", sum := "34c5086c5f517a159c132b43ae9f6944977cf44de81b3c140590595a1c9396ee", func := "tidewaiter/tidewaiterlaw25.JudgeNone", spec := "judgeNone", unfollowed := true, recurses := true, apart := false, narrowed := true }
def JudgeNoneUptoSaid : Prop := judgeNoneUptoRow.holds Tryz.pinned (OpenSpec.upto judgeNoneSpec)

/-- 'tidewaiterlaw25.JudgeEnds', WHERE WHAT IT READS IS OF BULK AT MOST 1048576: true; the input reads as it did. -/
def judgeEndsUptoRow : OpenClaim := { program := "ytmimfkhkilijcaagreat", sum := "34c5086c5f517a159c132b43ae9f6944977cf44de81b3c140590595a1c9396ee", func := "tidewaiter/tidewaiterlaw25.JudgeEnds", spec := "judgeEnds", unfollowed := true, recurses := true, apart := false, narrowed := true }
def JudgeEndsUptoSaid : Prop := judgeEndsUptoRow.holds Tryz.pinned (OpenSpec.upto judgeEndsSpec)

/-- 'tidewaiterlaw25.JudgeRows', WHERE WHAT IT READS IS OF BULK AT MOST 1048576: true; the input reads as it did. -/
def judgeRowsUptoRow : OpenClaim := { program := "ytmimfkhkilijcaagreat", sum := "34c5086c5f517a159c132b43ae9f6944977cf44de81b3c140590595a1c9396ee", func := "tidewaiter/tidewaiterlaw25.JudgeRows", spec := "judgeRows", unfollowed := true, recurses := true, apart := false, narrowed := true }
def JudgeRowsUptoSaid : Prop := judgeRowsUptoRow.holds Tryz.pinned (OpenSpec.upto judgeRowsSpec)

/-- 'tidewaiterlaw25.JudgeKept', WHERE WHAT IT READS IS OF BULK AT MOST 1048576: true; the input reads as it did. -/
def judgeKeptUptoRow : OpenClaim := { program := "ytmimfkhkilijcaagreat", sum := "34c5086c5f517a159c132b43ae9f6944977cf44de81b3c140590595a1c9396ee", func := "tidewaiter/tidewaiterlaw25.JudgeKept", spec := "judgeKept", unfollowed := true, recurses := true, apart := false, narrowed := true }
def JudgeKeptUptoSaid : Prop := judgeKeptUptoRow.holds Tryz.pinned (OpenSpec.upto judgeKeptSpec)

end Rows
end Go.Proofs.YtmimfkhkilijcaaGreat
