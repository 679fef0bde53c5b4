/-
  DERIVED. GIVEN WITH THE SEED: THE CARDS: each row of YtfgfjofbghfdpaaDoorRows.lean that lists a variable, with what it lists TIED to the program's text (the seventh form; the later family's looks); each row that meets fmt, with fmt's text TOLD by the authors' own Lean function (tested against real Go, not proved from fmt's source: count such statements apart). THE CARD IS WHAT COUNTS. Prove the row's statement (the work); the ties are given (YtfgfjofbghfdpaaDoorTie.lean); close each card by the builder's one call (the guide's Derived/Test/ToyasCard.lean, 'card_holds'). Laid BY PROGRAM, IN A SANDBOX (cutbox-door.mjs). By AI agents, Wed Nov 11 2026. No macro, syntax, notation, axiom, sorry.
-/
import Derived.Test.YtfgfjofbghfdpaaDoorRows
import GoSem.ClaimSeven
namespace Go.Proofs.YtfgfjofbghfdpaaDoor
namespace Rows

/-- THE TIED CARD OF 'tidewaiterlaw19.ConfigChecks'. -/
def configChecksCard : Claim7 := { stood := { row := configChecksRow, standIns := [], harness := (true, "d7a6271e969c04ccc742ff4780fe780b4f39d15061cd0cef91adad20f31743b7"), looks := true }, kinds := [], alts := [], laidByText := true, laidKinds := [.data, .data, .data, .data, .sentinel, .sentinel, .data, .pinned], laidTests := true, laidLooks := .later }
def ConfigChecksCardSaid : Prop := Claim7.holds Tryd.pinned (.plain (OpenSpec.ofChange configChecksSpec)) configChecksCard

/-- THE TIED CARD OF 'tidewaiterlaw19.ConfigBack'. -/
def configBackCard : Claim7 := { stood := { row := configBackRow, standIns := [], harness := (true, "d7a6271e969c04ccc742ff4780fe780b4f39d15061cd0cef91adad20f31743b7"), looks := true }, kinds := [], alts := [], laidByText := true, laidKinds := [.data, .data, .data, .data, .sentinel, .sentinel, .data, .pinned], laidTests := true, laidLooks := .later }
def ConfigBackCardSaid : Prop := Claim7.holds Tryd.pinned (.plain (OpenSpec.ofChange configBackSpec)) configBackCard

/-- THE TIED CARD OF 'tidewaiterlaw19.ConfigParses'. -/
def configParsesCard : Claim7 := { stood := { row := configParsesRow, standIns := [], harness := (true, "d7a6271e969c04ccc742ff4780fe780b4f39d15061cd0cef91adad20f31743b7"), looks := true }, kinds := [], alts := [], laidByText := true, laidKinds := [.data, .data, .data, .data, .sentinel, .sentinel, .data, .pinned], laidTests := true, laidLooks := .later }
def ConfigParsesCardSaid : Prop := Claim7.holds Tryd.pinned (.plain (OpenSpec.ofChange configParsesSpec)) configParsesCard

/-- THE TIED CARD OF 'tidewaiterlaw19.ConfigNumbers'. -/
def configNumbersCard : Claim7 := { stood := { row := configNumbersRow, standIns := [], harness := (true, "d7a6271e969c04ccc742ff4780fe780b4f39d15061cd0cef91adad20f31743b7"), looks := true }, kinds := [], alts := [], laidByText := true, laidKinds := [.data, .data, .data, .data, .sentinel, .sentinel, .data, .pinned], laidTests := true, laidLooks := .later }
def ConfigNumbersCardSaid : Prop := Claim7.holds Tryd.pinned (.plain (OpenSpec.ofChange configNumbersSpec)) configNumbersCard

/-- THE TIED CARD OF 'tidewaiterlaw20.ChoiceBack'. -/
def choiceBackCard : Claim7 := { stood := { row := choiceBackRow, standIns := [], harness := (true, "d7a6271e969c04ccc742ff4780fe780b4f39d15061cd0cef91adad20f31743b7"), looks := true }, kinds := [], alts := [], laidByText := true, laidKinds := [.data, .data, .data, .sentinel, .sentinel], laidTests := true, laidLooks := .later }
def ChoiceBackCardSaid : Prop := Claim7.holds Tryd.pinned (.plain (OpenSpec.ofChange choiceBackSpec)) choiceBackCard

/-- THE TIED CARD OF 'tidewaiterlaw20.ChoiceReads'. -/
def choiceReadsCard : Claim7 := { stood := { row := choiceReadsRow, standIns := [], harness := (true, "d7a6271e969c04ccc742ff4780fe780b4f39d15061cd0cef91adad20f31743b7"), looks := true }, kinds := [], alts := [], laidByText := true, laidKinds := [.data, .data, .data, .sentinel, .sentinel], laidTests := true, laidLooks := .later }
def ChoiceReadsCardSaid : Prop := Claim7.holds Tryd.pinned (.plain (OpenSpec.ofChange choiceReadsSpec)) choiceReadsCard

/-- THE TIED CARD OF 'tidewaiterlaw20.ChoiceRounds'. -/
def choiceRoundsCard : Claim7 := { stood := { row := choiceRoundsRow, standIns := [], harness := (true, "d7a6271e969c04ccc742ff4780fe780b4f39d15061cd0cef91adad20f31743b7"), looks := true }, kinds := [], alts := [], laidByText := true, laidKinds := [.data, .data, .data, .sentinel, .sentinel], laidTests := true, laidLooks := .later }
def ChoiceRoundsCardSaid : Prop := Claim7.holds Tryd.pinned (.plain (OpenSpec.ofChange choiceRoundsSpec)) choiceRoundsCard

/-- THE TIED CARD OF 'tidewaitertop.WholeWords'. -/
def wholeWordsCard : Claim7 := { stood := { row := wholeWordsRow, standIns := [], harness := (true, "d7a6271e969c04ccc742ff4780fe780b4f39d15061cd0cef91adad20f31743b7"), looks := true }, kinds := [], alts := [], laidByText := true, laidKinds := [.data, .data, .data, .data, .sentinel, .sentinel, .data, .pinned], laidTests := true, laidLooks := .later }
def WholeWordsCardSaid : Prop := Claim7.holds Tryd.pinned (.plain (OpenSpec.ofChange wholeWordsSpec)) wholeWordsCard

/-- THE SECOND FORM's CARD OF 'tidewaiterlaw19.ConfigChecks'. -/
def configChecksUptoCard : Claim7 := { stood := { row := configChecksUptoRow, standIns := [], harness := (true, "d7a6271e969c04ccc742ff4780fe780b4f39d15061cd0cef91adad20f31743b7"), looks := true }, kinds := [], alts := [], laidByText := true, laidKinds := [.data, .data, .data, .data, .sentinel, .sentinel, .data, .pinned], laidTests := true, laidLooks := .later }
def ConfigChecksUptoCardSaid : Prop := Claim7.holds Tryd.pinned (.plain (OpenSpec.upto configChecksSpec)) configChecksUptoCard

/-- THE SECOND FORM's CARD OF 'tidewaiterlaw19.ConfigBack'. -/
def configBackUptoCard : Claim7 := { stood := { row := configBackUptoRow, standIns := [], harness := (true, "d7a6271e969c04ccc742ff4780fe780b4f39d15061cd0cef91adad20f31743b7"), looks := true }, kinds := [], alts := [], laidByText := true, laidKinds := [.data, .data, .data, .data, .sentinel, .sentinel, .data, .pinned], laidTests := true, laidLooks := .later }
def ConfigBackUptoCardSaid : Prop := Claim7.holds Tryd.pinned (.plain (OpenSpec.upto configBackSpec)) configBackUptoCard

/-- THE SECOND FORM's CARD OF 'tidewaiterlaw19.ConfigParses'. -/
def configParsesUptoCard : Claim7 := { stood := { row := configParsesUptoRow, standIns := [], harness := (true, "d7a6271e969c04ccc742ff4780fe780b4f39d15061cd0cef91adad20f31743b7"), looks := true }, kinds := [], alts := [], laidByText := true, laidKinds := [.data, .data, .data, .data, .sentinel, .sentinel, .data, .pinned], laidTests := true, laidLooks := .later }
def ConfigParsesUptoCardSaid : Prop := Claim7.holds Tryd.pinned (.plain (OpenSpec.upto configParsesSpec)) configParsesUptoCard

/-- THE SECOND FORM's CARD OF 'tidewaiterlaw19.ConfigNumbers'. -/
def configNumbersUptoCard : Claim7 := { stood := { row := configNumbersUptoRow, standIns := [], harness := (true, "d7a6271e969c04ccc742ff4780fe780b4f39d15061cd0cef91adad20f31743b7"), looks := true }, kinds := [], alts := [], laidByText := true, laidKinds := [.data, .data, .data, .data, .sentinel, .sentinel, .data, .pinned], laidTests := true, laidLooks := .later }
def ConfigNumbersUptoCardSaid : Prop := Claim7.holds Tryd.pinned (.plain (OpenSpec.upto configNumbersSpec)) configNumbersUptoCard

/-- THE SECOND FORM's CARD OF 'tidewaiterlaw20.ChoiceBack'. -/
def choiceBackUptoCard : Claim7 := { stood := { row := choiceBackUptoRow, standIns := [], harness := (true, "d7a6271e969c04ccc742ff4780fe780b4f39d15061cd0cef91adad20f31743b7"), looks := true }, kinds := [], alts := [], laidByText := true, laidKinds := [.data, .data, .data, .sentinel, .sentinel], laidTests := true, laidLooks := .later }
def ChoiceBackUptoCardSaid : Prop := Claim7.holds Tryd.pinned (.plain (OpenSpec.upto choiceBackSpec)) choiceBackUptoCard

/-- THE SECOND FORM's CARD OF 'tidewaiterlaw20.ChoiceReads'. -/
def choiceReadsUptoCard : Claim7 := { stood := { row := choiceReadsUptoRow, standIns := [], harness := (true, "d7a6271e969c04ccc742ff4780fe780b4f39d15061cd0cef91adad20f31743b7"), looks := true }, kinds := [], alts := [], laidByText := true, laidKinds := [.data, .data, .data, .sentinel, .sentinel], laidTests := true, laidLooks := .later }
def ChoiceReadsUptoCardSaid : Prop := Claim7.holds Tryd.pinned (.plain (OpenSpec.upto choiceReadsSpec)) choiceReadsUptoCard

/-- THE SECOND FORM's CARD OF 'tidewaiterlaw20.ChoiceRounds'. -/
def choiceRoundsUptoCard : Claim7 := { stood := { row := choiceRoundsUptoRow, standIns := [], harness := (true, "d7a6271e969c04ccc742ff4780fe780b4f39d15061cd0cef91adad20f31743b7"), looks := true }, kinds := [], alts := [], laidByText := true, laidKinds := [.data, .data, .data, .sentinel, .sentinel], laidTests := true, laidLooks := .later }
def ChoiceRoundsUptoCardSaid : Prop := Claim7.holds Tryd.pinned (.plain (OpenSpec.upto choiceRoundsSpec)) choiceRoundsUptoCard

/-- THE SECOND FORM's CARD OF 'tidewaitertop.WholeWords'. -/
def wholeWordsUptoCard : Claim7 := { stood := { row := wholeWordsUptoRow, standIns := [], harness := (true, "d7a6271e969c04ccc742ff4780fe780b4f39d15061cd0cef91adad20f31743b7"), looks := true }, kinds := [], alts := [], laidByText := true, laidKinds := [.data, .data, .data, .data, .sentinel, .sentinel, .data, .pinned], laidTests := true, laidLooks := .later }
def WholeWordsUptoCardSaid : Prop := Claim7.holds Tryd.pinned (.plain (OpenSpec.upto wholeWordsSpec)) wholeWordsUptoCard
end Rows
end Go.Proofs.YtfgfjofbghfdpaaDoor
