/- WNames: what is reached of them. -/
import Derived.Test.YtmimfkhkilijcaaGreatDoorPq34
set_option linter.unusedVariables false
set_option linter.unusedSimpArgs false
set_option maxRecDepth 100000
set_option maxHeartbeats 8000000
namespace Go.Proofs.YtmimfkhkilijcaaGreatDoor
open Go.ChangeShapes Go.WideShapes Go.ChangeAt Go.RowKit
structure Names (w : World) : Prop where
  n0 : w.cell? ⟨1,0,none⟩=some (.string ⟨#[98,111,117,110,100,101,100]⟩)
  n1 : w.cell? ⟨1,1,none⟩=some (.string ⟨#[109,97,114,107,101,100]⟩)
  n2 : w.cell? ⟨1,2,none⟩=some (.string ⟨#[112,101,114,99,101,110,116]⟩)
theorem Names.on {w w' : World} (h : Names w) (hb : Below w.heap.size w w') : Names w':=⟨cell_stays hb h.n0,cell_stays hb h.n1,cell_stays hb h.n2⟩
end Go.Proofs.YtmimfkhkilijcaaGreatDoor
