/-
  DERIVED. GIVEN WITH THE SEED: THE CARDS: each row of YtfgmbmpbgokolaaDoorRows.lean that lists a variable, with what it lists TIED to the program's text (the seventh form; the later family's looks); each row that meets fmt, with fmt's text TOLD by the authors' own Lean function (tested against real Go, not proved from fmt's source: count such statements apart). THE CARD IS WHAT COUNTS. Prove the row's statement (the work); the ties are given (YtfgmbmpbgokolaaDoorTie.lean); close each card by the builder's one call (the guide's Derived/Test/ToyasCard.lean, 'card_holds'). Laid BY PROGRAM, IN A SANDBOX (cutbox-door.mjs). By AI agents, Wed Nov 11 2026. No macro, syntax, notation, axiom, sorry.
-/
import Derived.Test.YtfgmbmpbgokolaaDoorRows
import GoSem.ClaimSeven
namespace Go.Proofs.YtfgmbmpbgokolaaDoor
namespace Rows

/-- THE TIED CARD OF 'tidewaiterlaw04.QuoteSigns'. -/
def quoteSignsCard : Claim7 := { stood := { row := quoteSignsRow, standIns := [], harness := (true, "54649442ce34b78f9c77d7f6d8e6618e559a31405195d663fbcce74be35551a4"), looks := true }, kinds := [], alts := [], laidByText := true, laidKinds := [.data, .data, .data, .sentinel, .sentinel], laidTests := true, laidLooks := .later }
def QuoteSignsCardSaid : Prop := Claim7.holds Tryd.pinned (.plain (OpenSpec.ofChange quoteSignsSpec)) quoteSignsCard

/-- THE TIED CARD OF 'tidewaiterlaw04.QuoteBack'. -/
def quoteBackCard : Claim7 := { stood := { row := quoteBackRow, standIns := [], harness := (true, "54649442ce34b78f9c77d7f6d8e6618e559a31405195d663fbcce74be35551a4"), looks := true }, kinds := [], alts := [], laidByText := true, laidKinds := [.data, .data, .data, .sentinel, .sentinel], laidTests := true, laidLooks := .later }
def QuoteBackCardSaid : Prop := Claim7.holds Tryd.pinned (.plain (OpenSpec.ofChange quoteBackSpec)) quoteBackCard

/-- THE TIED CARD OF 'tidewaiterlaw04.QuoteOne'. -/
def quoteOneCard : Claim7 := { stood := { row := quoteOneRow, standIns := [], harness := (true, "54649442ce34b78f9c77d7f6d8e6618e559a31405195d663fbcce74be35551a4"), looks := true }, kinds := [], alts := [], laidByText := true, laidKinds := [.data, .data, .data, .sentinel, .sentinel], laidTests := true, laidLooks := .later }
def QuoteOneCardSaid : Prop := Claim7.holds Tryd.pinned (.plain (OpenSpec.ofChange quoteOneSpec)) quoteOneCard

/-- THE TIED CARD OF 'tidewaitertop.WholeSigns'. -/
def wholeSignsCard : Claim7 := { stood := { row := wholeSignsRow, standIns := [], harness := (true, "54649442ce34b78f9c77d7f6d8e6618e559a31405195d663fbcce74be35551a4"), looks := true }, kinds := [], alts := [], laidByText := true, laidKinds := [.data, .data, .data, .sentinel, .sentinel], laidTests := true, laidLooks := .later }
def WholeSignsCardSaid : Prop := Claim7.holds Tryd.pinned (.plain (OpenSpec.ofChange wholeSignsSpec)) wholeSignsCard

/-- THE SECOND FORM's CARD OF 'tidewaiterlaw04.QuoteSigns'. -/
def quoteSignsUptoCard : Claim7 := { stood := { row := quoteSignsUptoRow, standIns := [], harness := (true, "54649442ce34b78f9c77d7f6d8e6618e559a31405195d663fbcce74be35551a4"), looks := true }, kinds := [], alts := [], laidByText := true, laidKinds := [.data, .data, .data, .sentinel, .sentinel], laidTests := true, laidLooks := .later }
def QuoteSignsUptoCardSaid : Prop := Claim7.holds Tryd.pinned (.plain (OpenSpec.upto quoteSignsSpec)) quoteSignsUptoCard

/-- THE SECOND FORM's CARD OF 'tidewaiterlaw04.QuoteBack'. -/
def quoteBackUptoCard : Claim7 := { stood := { row := quoteBackUptoRow, standIns := [], harness := (true, "54649442ce34b78f9c77d7f6d8e6618e559a31405195d663fbcce74be35551a4"), looks := true }, kinds := [], alts := [], laidByText := true, laidKinds := [.data, .data, .data, .sentinel, .sentinel], laidTests := true, laidLooks := .later }
def QuoteBackUptoCardSaid : Prop := Claim7.holds Tryd.pinned (.plain (OpenSpec.upto quoteBackSpec)) quoteBackUptoCard

/-- THE SECOND FORM's CARD OF 'tidewaiterlaw04.QuoteOne'. -/
def quoteOneUptoCard : Claim7 := { stood := { row := quoteOneUptoRow, standIns := [], harness := (true, "54649442ce34b78f9c77d7f6d8e6618e559a31405195d663fbcce74be35551a4"), looks := true }, kinds := [], alts := [], laidByText := true, laidKinds := [.data, .data, .data, .sentinel, .sentinel], laidTests := true, laidLooks := .later }
def QuoteOneUptoCardSaid : Prop := Claim7.holds Tryd.pinned (.plain (OpenSpec.upto quoteOneSpec)) quoteOneUptoCard

/-- THE SECOND FORM's CARD OF 'tidewaitertop.WholeSigns'. -/
def wholeSignsUptoCard : Claim7 := { stood := { row := wholeSignsUptoRow, standIns := [], harness := (true, "54649442ce34b78f9c77d7f6d8e6618e559a31405195d663fbcce74be35551a4"), looks := true }, kinds := [], alts := [], laidByText := true, laidKinds := [.data, .data, .data, .sentinel, .sentinel], laidTests := true, laidLooks := .later }
def WholeSignsUptoCardSaid : Prop := Claim7.holds Tryd.pinned (.plain (OpenSpec.upto wholeSignsSpec)) wholeSignsUptoCard
end Rows
end Go.Proofs.YtfgmbmpbgokolaaDoor
