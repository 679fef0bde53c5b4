/-
  No cell of these rows narrows 'for every input' (looked for: loops, veiled, ifaces, maps, wideKeys, modest, calm, conditions, laid).
  DERIVED. THE GIVEN ROWS OF THIS SEAT. 9 by the template 'for every input the law returns true; each argument reads behind the call as it read before'; 0 by the template 'total and deterministic' (their statements: YtoecikeleoaecaaGreatTotals.lean).
  GIVEN WITH THE SEED: the statements are not yours to turn. If you find one false, say at which input.
  Laid BY PROGRAM, IN A SANDBOX (cutbox-rows.mjs): the forced cells as the released guide's own fill.sh prints them over the translation df5866f1a09be864… (all of the seat's roots in one cut). By AI agents, Wed Nov 11 2026. No macro, syntax, notation, axiom, sorry.
-/
import Derived.Test.YtoecikeleoaecaaGreatChecked
import GoSem.Claim
import GoSem.ClaimJoined
import GoSem.ClaimMapViews
import Derived.JoinedTies
import Derived.KernelRfl
namespace Go.Proofs.YtoecikeleoaecaaGreat
/- THE CELL 'sum', in the pinned program and in every row, IS THE sha256 OF THE DUMP (.gsa) THAT YtoecikeleoaecaaGreatProg.lean LOADS. Nothing in Lean hashes anything: it is a label: what it is worth is what the hold of that sum in a sandbox is worth. -/
noncomputable def Tryz.pinned : Pinned := { name := "ytoecikeleoaecaagreat", sum := "df5866f1a09be8644dd48745aed0792cc8240b04c545599dfa26ae21295e03cc", checked := Tryz.checked }
namespace Rows
def none {H : Type} : Left H := { results := [], args := [] }

/-- 'tidewaiterlaw23.SourceRuns': WHATEVER THE INPUT: true; the input reads as it did. -/
def sourceRunsSpec : ChangeSpec := { name := "sourceRuns", fn := fun _ => fun
  | [d] => { results := [.lit (.bool true)], args := [d] }
  | _ => none }
def sourceRunsRow : OpenClaim := { program := "ytoecikeleoaecaagreat", sum := "df5866f1a09be8644dd48745aed0792cc8240b04c545599dfa26ae21295e03cc", func := "tidewaiter/tidewaiterlaw23.SourceRuns", spec := "sourceRuns", unfollowed := true, recurses := true, apart := false }
def SourceRunsSaid : Prop := sourceRunsRow.holds Tryz.pinned (OpenSpec.ofChange sourceRunsSpec)

/-- ITS FALSE NEIGHBOUR: 'it returns false'. Refute it at one input. -/
def sourceRunsWrong : ChangeSpec := { name := "sourceRuns", fn := fun _ => fun
  | [d] => { results := [.lit (.bool false)], args := [d] }
  | _ => none }
def SourceRunsWrongFalsely : Prop := sourceRunsRow.holds Tryz.pinned (OpenSpec.ofChange sourceRunsWrong)

/-- 'tidewaiterlaw23.SourceTells': WHATEVER THE INPUT: true; the input reads as it did. -/
def sourceTellsSpec : ChangeSpec := { name := "sourceTells", fn := fun _ => fun
  | [d1, d2] => { results := [.lit (.bool true)], args := [d1, d2] }
  | _ => none }
def sourceTellsRow : OpenClaim := { program := "ytoecikeleoaecaagreat", sum := "df5866f1a09be8644dd48745aed0792cc8240b04c545599dfa26ae21295e03cc", func := "tidewaiter/tidewaiterlaw23.SourceTells", spec := "sourceTells", unfollowed := true, recurses := true, apart := false }
def SourceTellsSaid : Prop := sourceTellsRow.holds Tryz.pinned (OpenSpec.ofChange sourceTellsSpec)

/-- ITS FALSE NEIGHBOUR: 'it returns false'. Refute it at one input. -/
def sourceTellsWrong : ChangeSpec := { name := "sourceTells", fn := fun _ => fun
  | [d1, d2] => { results := [.lit (.bool false)], args := [d1, d2] }
  | _ => none }
def SourceTellsWrongFalsely : Prop := sourceTellsRow.holds Tryz.pinned (OpenSpec.ofChange sourceTellsWrong)

/-- 'tidewaiterlaw23.SourceFree': WHATEVER THE INPUT: true; the input reads as it did. -/
def sourceFreeSpec : ChangeSpec := { name := "sourceFree", fn := fun _ => fun
  | [d] => { results := [.lit (.bool true)], args := [d] }
  | _ => none }
def sourceFreeRow : OpenClaim := { program := "ytoecikeleoaecaagreat", sum := "df5866f1a09be8644dd48745aed0792cc8240b04c545599dfa26ae21295e03cc", func := "tidewaiter/tidewaiterlaw23.SourceFree", spec := "sourceFree", unfollowed := true, recurses := true, apart := false }
def SourceFreeSaid : Prop := sourceFreeRow.holds Tryz.pinned (OpenSpec.ofChange sourceFreeSpec)

/-- ITS FALSE NEIGHBOUR: 'it returns false'. Refute it at one input. -/
def sourceFreeWrong : ChangeSpec := { name := "sourceFree", fn := fun _ => fun
  | [d] => { results := [.lit (.bool false)], args := [d] }
  | _ => none }
def SourceFreeWrongFalsely : Prop := sourceFreeRow.holds Tryz.pinned (OpenSpec.ofChange sourceFreeWrong)

/-- 'tidewaiterlaw23.SourceSame': WHATEVER THE INPUT: true; the input reads as it did. -/
def sourceSameSpec : ChangeSpec := { name := "sourceSame", fn := fun _ => fun
  | [d] => { results := [.lit (.bool true)], args := [d] }
  | _ => none }
def sourceSameRow : OpenClaim := { program := "ytoecikeleoaecaagreat", sum := "df5866f1a09be8644dd48745aed0792cc8240b04c545599dfa26ae21295e03cc", func := "tidewaiter/tidewaiterlaw23.SourceSame", spec := "sourceSame", unfollowed := true, recurses := true, apart := false }
def SourceSameSaid : Prop := sourceSameRow.holds Tryz.pinned (OpenSpec.ofChange sourceSameSpec)

/-- ITS FALSE NEIGHBOUR: 'it returns false'. Refute it at one input. -/
def sourceSameWrong : ChangeSpec := { name := "sourceSame", fn := fun _ => fun
  | [d] => { results := [.lit (.bool false)], args := [d] }
  | _ => none }
def SourceSameWrongFalsely : Prop := sourceSameRow.holds Tryz.pinned (OpenSpec.ofChange sourceSameWrong)

/-- 'tidewaiterlaw24.ModelRuns': WHATEVER THE INPUT: true; the input reads as it did. -/
def modelRunsSpec : ChangeSpec := { name := "modelRuns", fn := fun _ => fun
  | [d] => { results := [.lit (.bool true)], args := [d] }
  | _ => none }
def modelRunsRow : OpenClaim := { program := "ytoecikeleoaecaagreat", sum := "df5866f1a09be8644dd48745aed0792cc8240b04c545599dfa26ae21295e03cc", func := "tidewaiter/tidewaiterlaw24.ModelRuns", spec := "modelRuns", unfollowed := true, recurses := true, apart := false }
def ModelRunsSaid : Prop := modelRunsRow.holds Tryz.pinned (OpenSpec.ofChange modelRunsSpec)

/-- ITS FALSE NEIGHBOUR: 'it returns false'. Refute it at one input. -/
def modelRunsWrong : ChangeSpec := { name := "modelRuns", fn := fun _ => fun
  | [d] => { results := [.lit (.bool false)], args := [d] }
  | _ => none }
def ModelRunsWrongFalsely : Prop := modelRunsRow.holds Tryz.pinned (OpenSpec.ofChange modelRunsWrong)

/-- 'tidewaiterlaw24.ModelSource': WHATEVER THE INPUT: true; the input reads as it did. -/
def modelSourceSpec : ChangeSpec := { name := "modelSource", fn := fun _ => fun
  | [d] => { results := [.lit (.bool true)], args := [d] }
  | _ => none }
def modelSourceRow : OpenClaim := { program := "ytoecikeleoaecaagreat", sum := "df5866f1a09be8644dd48745aed0792cc8240b04c545599dfa26ae21295e03cc", func := "tidewaiter/tidewaiterlaw24.ModelSource", spec := "modelSource", unfollowed := true, recurses := true, apart := false }
def ModelSourceSaid : Prop := modelSourceRow.holds Tryz.pinned (OpenSpec.ofChange modelSourceSpec)

/-- ITS FALSE NEIGHBOUR: 'it returns false'. Refute it at one input. -/
def modelSourceWrong : ChangeSpec := { name := "modelSource", fn := fun _ => fun
  | [d] => { results := [.lit (.bool false)], args := [d] }
  | _ => none }
def ModelSourceWrongFalsely : Prop := modelSourceRow.holds Tryz.pinned (OpenSpec.ofChange modelSourceWrong)

/-- 'tidewaiterlaw24.ModelForks': WHATEVER THE INPUT: true; the input reads as it did. -/
def modelForksSpec : ChangeSpec := { name := "modelForks", fn := fun _ => fun
  | [d1, d2] => { results := [.lit (.bool true)], args := [d1, d2] }
  | _ => none }
def modelForksRow : OpenClaim := { program := "ytoecikeleoaecaagreat", sum := "df5866f1a09be8644dd48745aed0792cc8240b04c545599dfa26ae21295e03cc", func := "tidewaiter/tidewaiterlaw24.ModelForks", spec := "modelForks", unfollowed := true, recurses := true, apart := false }
def ModelForksSaid : Prop := modelForksRow.holds Tryz.pinned (OpenSpec.ofChange modelForksSpec)

/-- ITS FALSE NEIGHBOUR: 'it returns false'. Refute it at one input. -/
def modelForksWrong : ChangeSpec := { name := "modelForks", fn := fun _ => fun
  | [d1, d2] => { results := [.lit (.bool false)], args := [d1, d2] }
  | _ => none }
def ModelForksWrongFalsely : Prop := modelForksRow.holds Tryz.pinned (OpenSpec.ofChange modelForksWrong)

/-- 'tidewaitertop.WholeTurned': WHATEVER THE INPUT: true; the input reads as it did. -/
def wholeTurnedSpec : ChangeSpec := { name := "wholeTurned", fn := fun _ => fun
  | [d] => { results := [.lit (.bool true)], args := [d] }
  | _ => none }
def wholeTurnedRow : OpenClaim := { program := "ytoecikeleoaecaagreat", sum := "df5866f1a09be8644dd48745aed0792cc8240b04c545599dfa26ae21295e03cc", func := "tidewaiter/tidewaitertop.WholeTurned", spec := "wholeTurned", unfollowed := true, recurses := true, apart := false }
def WholeTurnedSaid : Prop := wholeTurnedRow.holds Tryz.pinned (OpenSpec.ofChange wholeTurnedSpec)

/-- ITS FALSE NEIGHBOUR: 'it returns false'. Refute it at one input. -/
def wholeTurnedWrong : ChangeSpec := { name := "wholeTurned", fn := fun _ => fun
  | [d] => { results := [.lit (.bool false)], args := [d] }
  | _ => none }
def WholeTurnedWrongFalsely : Prop := wholeTurnedRow.holds Tryz.pinned (OpenSpec.ofChange wholeTurnedWrong)

/-- 'tidewaitertop.WholeLonger': WHATEVER THE INPUT: true; the input reads as it did. -/
def wholeLongerSpec : ChangeSpec := { name := "wholeLonger", fn := fun _ => fun
  | [d1, d2] => { results := [.lit (.bool true)], args := [d1, d2] }
  | _ => none }
def wholeLongerRow : OpenClaim := { program := "ytoecikeleoaecaagreat", sum := "df5866f1a09be8644dd48745aed0792cc8240b04c545599dfa26ae21295e03cc", func := "tidewaiter/tidewaitertop.WholeLonger", spec := "wholeLonger", unfollowed := true, recurses := true, apart := false }
def WholeLongerSaid : Prop := wholeLongerRow.holds Tryz.pinned (OpenSpec.ofChange wholeLongerSpec)

/-- ITS FALSE NEIGHBOUR: 'it returns false'. Refute it at one input. -/
def wholeLongerWrong : ChangeSpec := { name := "wholeLonger", fn := fun _ => fun
  | [d1, d2] => { results := [.lit (.bool false)], args := [d1, d2] }
  | _ => none }
def WholeLongerWrongFalsely : Prop := wholeLongerRow.holds Tryz.pinned (OpenSpec.ofChange wholeLongerWrong)

/- THE SECOND FORM. 'bulk': how many values and letters a reading holds, each counted each time it is reached (what is shared counts as often as it is met; a slice's spare places count too). A statement '..UptoSaid' is the law's where the arguments, and the package variables that the reading takes, are together of bulk at most 1048576: NARROWER than '..Said'. Prove '..Said' where nothing that the law and all that it calls make is longer than what came in: it says more and counts as full. Else prove '..UptoSaid'. A law counts once. -/
mutual
def uptoBulk {H : Type} : DataW H → Nat
  | .lit (.string bytes) => bytes.length + 1
  | .lit _ => 1
  | .nil => 1
  | .ptr d => uptoBulk d + 1
  | .slice elems spare => uptoBulkAll elems + uptoBulkAll spare + 1
  | .agg parts => uptoBulkAll parts + 1
  | .iface _ d => uptoBulk d + 1
  | .map entries => uptoBulkEntries entries + 1
  | .held _ => 1
def uptoBulkAll {H : Type} : List (DataW H) → Nat
  | [] => 0
  | d :: r => uptoBulk d + uptoBulkAll r
def uptoBulkEntries {H : Type} : List (Lit × DataW H) → Nat
  | [] => 0
  | x :: r => uptoBulkEntry x + uptoBulkEntries r
def uptoBulkEntry {H : Type} : Lit × DataW H → Nat
  | (.string bytes, d) => bytes.length + uptoBulk d + 1
  | (_, d) => uptoBulk d + 1
 end
def uptoSmall : (H : Type) → List (DataW H) → Bool := fun _ ds => decide (uptoBulkAll ds ≤ 1048576)
def OpenSpec.upto (s : _root_.Go.ChangeSpec) : _root_.Go.OpenSpec := { _root_.Go.OpenSpec.ofChange s with cond := some uptoSmall }

/-- 'tidewaiterlaw23.SourceRuns', WHERE WHAT IT READS IS OF BULK AT MOST 1048576: true; the input reads as it did. -/
def sourceRunsUptoRow : OpenClaim := { program := "ytoecikeleoaecaagreat", sum := "df5866f1a09be8644dd48745aed0792cc8240b04c545599dfa26ae21295e03cc", func := "tidewaiter/tidewaiterlaw23.SourceRuns", spec := "sourceRuns", unfollowed := true, recurses := true, apart := false, narrowed := true }
def SourceRunsUptoSaid : Prop := sourceRunsUptoRow.holds Tryz.pinned (OpenSpec.upto sourceRunsSpec)

/-- 'tidewaiterlaw23.SourceTells', WHERE WHAT IT READS IS OF BULK AT MOST 1048576: true; the input reads as it did. -/
def sourceTellsUptoRow : OpenClaim := { program := "ytoecikeleoaecaagreat", sum := "df5866f1a09be8644dd48745aed0792cc8240b04c545599dfa26ae21295e03cc", func := "tidewaiter/tidewaiterlaw23.SourceTells", spec := "sourceTells", unfollowed := true, recurses := true, apart := false, narrowed := true }
def SourceTellsUptoSaid : Prop := sourceTellsUptoRow.holds Tryz.pinned (OpenSpec.upto sourceTellsSpec)

/-- 'tidewaiterlaw23.SourceFree', WHERE WHAT IT READS IS OF BULK AT MOST 1048576: true; the input reads as it did. -/
def sourceFreeUptoRow : OpenClaim := { program := "ytoecikeleoaecaagreat", sum := "df5866f1a09be8644dd48745aed0792cc8240b04c545599dfa26ae21295e03cc", func := "tidewaiter/tidewaiterlaw23.SourceFree", spec := "sourceFree", unfollowed := true, recurses := true, apart := false, narrowed := true }
def SourceFreeUptoSaid : Prop := sourceFreeUptoRow.holds Tryz.pinned (OpenSpec.upto sourceFreeSpec)

/-- 'tidewaiterlaw23.SourceSame', WHERE WHAT IT READS IS OF BULK AT MOST 1048576: true; the input reads as it did. -/
def sourceSameUptoRow : OpenClaim := { program := "ytoecikeleoaecaagreat", sum := "df5866f1a09be8644dd48745aed0792cc8240b04c545599dfa26ae21295e03cc", func := "tidewaiter/tidewaiterlaw23.SourceSame", spec := "sourceSame", unfollowed := true, recurses := true, apart := false, narrowed := true }
def SourceSameUptoSaid : Prop := sourceSameUptoRow.holds Tryz.pinned (OpenSpec.upto sourceSameSpec)

/-- 'tidewaiterlaw24.ModelRuns', WHERE WHAT IT READS IS OF BULK AT MOST 1048576: true; the input reads as it did. -/
def modelRunsUptoRow : OpenClaim := { program := "ytoecikeleoaecaagreat", sum := "df5866f1a09be8644dd48745aed0792cc8240b04c545599dfa26ae21295e03cc", func := "tidewaiter/tidewaiterlaw24.ModelRuns", spec := "modelRuns", unfollowed := true, recurses := true, apart := false, narrowed := true }
def ModelRunsUptoSaid : Prop := modelRunsUptoRow.holds Tryz.pinned (OpenSpec.upto modelRunsSpec)

/-- 'tidewaiterlaw24.ModelSource', WHERE WHAT IT READS IS OF BULK AT MOST 1048576: true; the input reads as it did. -/
def modelSourceUptoRow : OpenClaim := { program := "ytoecikeleoaecaagreat", sum := "df5866f1a09be8644dd48745aed0792cc8240b04c545599dfa26ae21295e03cc", func := "tidewaiter/tidewaiterlaw24.ModelSource", spec := "modelSource", unfollowed := true, recurses := true, apart := false, narrowed := true }
def ModelSourceUptoSaid : Prop := modelSourceUptoRow.holds Tryz.pinned (OpenSpec.upto modelSourceSpec)

/-- 'tidewaiterlaw24.ModelForks', WHERE WHAT IT READS IS OF BULK AT MOST 1048576: true; the input reads as it did. -/
def modelForksUptoRow : OpenClaim := { program := "ytoecikeleoaecaagreat", sum := "df5866f1a09be8644dd48745aed0792cc8240b04c545599dfa26ae21295e03cc", func := "tidewaiter/tidewaiterlaw24.ModelForks", spec := "modelForks", unfollowed := true, recurses := true, apart := false, narrowed := true }
def ModelForksUptoSaid : Prop := modelForksUptoRow.holds Tryz.pinned (OpenSpec.upto modelForksSpec)

/-- 'tidewaitertop.WholeTurned', WHERE WHAT IT READS IS OF BULK AT MOST 1048576: true; the input reads as it did. -/
def wholeTurnedUptoRow : OpenClaim := { program := "ytoecikeleoaecaagreat", sum := "df5866f1a09be8644dd48745aed0792cc8240b04c545599dfa26ae21295e03cc", func := "tidewaiter/tidewaitertop.WholeTurned", spec := "wholeTurned", unfollowed := true, recurses := true, apart := false, narrowed := true }
def WholeTurnedUptoSaid : Prop := wholeTurnedUptoRow.holds Tryz.pinned (OpenSpec.upto wholeTurnedSpec)

/-- 'tidewaitertop.WholeLonger', WHERE WHAT IT READS IS OF BULK AT MOST 1048576: true; the input reads as it did. -/
def wholeLongerUptoRow : OpenClaim := { program := "ytoecikeleoaecaagreat", sum := "df5866f1a09be8644dd48745aed0792cc8240b04c545599dfa26ae21295e03cc", func := "tidewaiter/tidewaitertop.WholeLonger", spec := "wholeLonger", unfollowed := true, recurses := true, apart := false, narrowed := true }
def WholeLongerUptoSaid : Prop := wholeLongerUptoRow.holds Tryz.pinned (OpenSpec.upto wholeLongerSpec)

end Rows
end Go.Proofs.YtoecikeleoaecaaGreat
