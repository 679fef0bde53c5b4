/-
  DERIVED. GIVEN WITH THE SEED: THE CARDS: each row of YtmimfkhkilijcaaGreatDoorRows.lean that lists a variable, with what it lists TIED to the program's text (the seventh form; the later family's looks); each row that meets fmt, with fmt's text TOLD by the authors' own Lean function (tested against real Go, not proved from fmt's source: count such statements apart). THE CARD IS WHAT COUNTS. Prove the row's statement (the work); the ties are given (YtmimfkhkilijcaaGreatDoorTie.lean); close each card by the builder's one call (the guide's Derived/Test/ToyasCard.lean, 'card_holds'). Laid BY PROGRAM, IN A SANDBOX (cutbox-door.mjs). By AI agents, Wed Nov 11 2026. No macro, syntax, notation, axiom, sorry.
-/
import Derived.Test.YtmimfkhkilijcaaGreatDoorRows
import GoSem.ClaimSeven
namespace Go.Proofs.YtmimfkhkilijcaaGreatDoor
namespace Rows

/-- THE TIED CARD OF 'tidewaiterlaw26.ReportBack'. -/
def reportBackCard : Claim7 := { stood := { row := reportBackRow, standIns := [], harness := (true, "f34b034395dfd515959581dbfbcff369fd0fa35cb42e9cdac567076c5ad1c4e0"), looks := true }, kinds := [], alts := [], laidByText := true, laidKinds := [.data, .data, .data, .data, .sentinel, .sentinel, .data, .pinned], laidTests := true, laidLooks := .later }
def ReportBackCardSaid : Prop := Claim7.holds Tryz.pinned (.plain (OpenSpec.ofChange reportBackSpec)) reportBackCard

/-- THE TIED CARD OF 'tidewaiterlaw26.ReportParses'. -/
def reportParsesCard : Claim7 := { stood := { row := reportParsesRow, standIns := [], harness := (true, "f34b034395dfd515959581dbfbcff369fd0fa35cb42e9cdac567076c5ad1c4e0"), looks := true }, kinds := [], alts := [], laidByText := true, laidKinds := [.data, .data, .data, .data, .sentinel, .sentinel, .data, .pinned], laidTests := true, laidLooks := .later }
def ReportParsesCardSaid : Prop := Claim7.holds Tryz.pinned (.plain (OpenSpec.ofChange reportParsesSpec)) reportParsesCard

/-- THE TIED CARD OF 'tidewaiterlaw26.ReportPlays'. -/
def reportPlaysCard : Claim7 := { stood := { row := reportPlaysRow, standIns := [], harness := (true, "f34b034395dfd515959581dbfbcff369fd0fa35cb42e9cdac567076c5ad1c4e0"), looks := true }, kinds := [], alts := [], laidByText := true, laidKinds := [.data, .data, .data, .data, .sentinel, .sentinel, .data, .pinned], laidTests := true, laidLooks := .later }
def ReportPlaysCardSaid : Prop := Claim7.holds Tryz.pinned (.plain (OpenSpec.ofChange reportPlaysSpec)) reportPlaysCard

/-- THE TIED CARD OF 'tidewaiterlaw26.ReportError'. -/
def reportErrorCard : Claim7 := { stood := { row := reportErrorRow, standIns := [], harness := (true, "f34b034395dfd515959581dbfbcff369fd0fa35cb42e9cdac567076c5ad1c4e0"), looks := true }, kinds := [], alts := [], laidByText := true, laidKinds := [.data, .data, .data, .data, .sentinel, .sentinel, .data, .pinned], laidTests := true, laidLooks := .later }
def ReportErrorCardSaid : Prop := Claim7.holds Tryz.pinned (.plain (OpenSpec.ofChange reportErrorSpec)) reportErrorCard

/-- THE TIED CARD OF 'tidewaitertop.WholeJudged'. -/
def wholeJudgedCard : Claim7 := { stood := { row := wholeJudgedRow, standIns := [], harness := (true, "f34b034395dfd515959581dbfbcff369fd0fa35cb42e9cdac567076c5ad1c4e0"), looks := true }, kinds := [], alts := [], laidByText := true, laidKinds := [.data, .data, .data, .data, .sentinel, .sentinel, .data, .pinned], laidTests := true, laidLooks := .later }
def WholeJudgedCardSaid : Prop := Claim7.holds Tryz.pinned (.plain (OpenSpec.ofChange wholeJudgedSpec)) wholeJudgedCard

/-- THE SECOND FORM's CARD OF 'tidewaiterlaw26.ReportBack'. -/
def reportBackUptoCard : Claim7 := { stood := { row := reportBackUptoRow, standIns := [], harness := (true, "f34b034395dfd515959581dbfbcff369fd0fa35cb42e9cdac567076c5ad1c4e0"), looks := true }, kinds := [], alts := [], laidByText := true, laidKinds := [.data, .data, .data, .data, .sentinel, .sentinel, .data, .pinned], laidTests := true, laidLooks := .later }
def ReportBackUptoCardSaid : Prop := Claim7.holds Tryz.pinned (.plain (OpenSpec.upto reportBackSpec)) reportBackUptoCard

/-- THE SECOND FORM's CARD OF 'tidewaiterlaw26.ReportParses'. -/
def reportParsesUptoCard : Claim7 := { stood := { row := reportParsesUptoRow, standIns := [], harness := (true, "f34b034395dfd515959581dbfbcff369fd0fa35cb42e9cdac567076c5ad1c4e0"), looks := true }, kinds := [], alts := [], laidByText := true, laidKinds := [.data, .data, .data, .data, .sentinel, .sentinel, .data, .pinned], laidTests := true, laidLooks := .later }
def ReportParsesUptoCardSaid : Prop := Claim7.holds Tryz.pinned (.plain (OpenSpec.upto reportParsesSpec)) reportParsesUptoCard

/-- THE SECOND FORM's CARD OF 'tidewaiterlaw26.ReportPlays'. -/
def reportPlaysUptoCard : Claim7 := { stood := { row := reportPlaysUptoRow, standIns := [], harness := (true, "f34b034395dfd515959581dbfbcff369fd0fa35cb42e9cdac567076c5ad1c4e0"), looks := true }, kinds := [], alts := [], laidByText := true, laidKinds := [.data, .data, .data, .data, .sentinel, .sentinel, .data, .pinned], laidTests := true, laidLooks := .later }
def ReportPlaysUptoCardSaid : Prop := Claim7.holds Tryz.pinned (.plain (OpenSpec.upto reportPlaysSpec)) reportPlaysUptoCard

/-- THE SECOND FORM's CARD OF 'tidewaiterlaw26.ReportError'. -/
def reportErrorUptoCard : Claim7 := { stood := { row := reportErrorUptoRow, standIns := [], harness := (true, "f34b034395dfd515959581dbfbcff369fd0fa35cb42e9cdac567076c5ad1c4e0"), looks := true }, kinds := [], alts := [], laidByText := true, laidKinds := [.data, .data, .data, .data, .sentinel, .sentinel, .data, .pinned], laidTests := true, laidLooks := .later }
def ReportErrorUptoCardSaid : Prop := Claim7.holds Tryz.pinned (.plain (OpenSpec.upto reportErrorSpec)) reportErrorUptoCard

/-- THE SECOND FORM's CARD OF 'tidewaitertop.WholeJudged'. -/
def wholeJudgedUptoCard : Claim7 := { stood := { row := wholeJudgedUptoRow, standIns := [], harness := (true, "f34b034395dfd515959581dbfbcff369fd0fa35cb42e9cdac567076c5ad1c4e0"), looks := true }, kinds := [], alts := [], laidByText := true, laidKinds := [.data, .data, .data, .data, .sentinel, .sentinel, .data, .pinned], laidTests := true, laidLooks := .later }
def WholeJudgedUptoCardSaid : Prop := Claim7.holds Tryz.pinned (.plain (OpenSpec.upto wholeJudgedSpec)) wholeJudgedUptoCard
end Rows
end Go.Proofs.YtmimfkhkilijcaaGreatDoor
