/- What the library's own variables, and config's names, hold. -/
import Derived.Test.YtfgfjofbghfdpaaDoorKBase
import Derived.Test.YtfgfjofbghfdpaaDoorShelf
import Derived.Lib.AppendIntMem
namespace Go.Proofs.YtfgfjofbghfdpaaDoor
set_option maxRecDepth 4000
open Go.ChangeShapes Go.WideShapes Go.ChangeAt Go.RowKit
set_option linter.unusedVariables false

/-- What the library's own variables hold. -/
structure EnvW (w : World) : Prop where
  pow : Lib.TabIs Tryd.prog w "internal/strconv.uint64pow10" .u64 Lib.pow10Tab
  syn : ∃ v, w.cell? ⟨2, 0, none⟩ = some v ∧ (v = .nilIface ∨ ∃ te pe, v = .iface te pe)
  rng : ∃ v, w.cell? ⟨3, 0, none⟩ = some v ∧ (v = .nilIface ∨ ∃ te pe, v = .iface te pe)
  max : ∃ m, w.cell? ⟨1, 0, none⟩ = some (.int .i64 m)
theorem cell_stays {w w' : World} (hb : Below w.heap.size w w') {p : Addr} {v : Value} (h : w.cell? p = some v) : w'.cell? p = some v := (hb.cell (cell_lt h)).trans h
theorem EnvW.on {w w' : World} (h : EnvW w) (hb : Below w.heap.size w w') : EnvW w' :=
  ⟨Lib.tabBelow_of_tabIs h.pow w' hb, h.syn.imp fun v hv => ⟨cell_stays hb hv.1, hv.2⟩, h.rng.imp fun v hv => ⟨cell_stays hb hv.1, hv.2⟩, h.max.imp fun m hm => cell_stays hb hm⟩

/-- What rules are called. -/
structure Names (w : World) : Prop where
  n0 : w.cell? ⟨0, 0, none⟩ = some (.string ⟨#[98, 111, 117, 110, 100, 101, 100]⟩)
  n1 : w.cell? ⟨0, 1, none⟩ = some (.string ⟨#[109, 97, 114, 107, 101, 100]⟩)
  n2 : w.cell? ⟨0, 2, none⟩ = some (.string ⟨#[112, 101, 114, 99, 101, 110, 116]⟩)
theorem Names.on {w w' : World} (h : Names w) (hb : Below w.heap.size w w') : Names w' := ⟨cell_stays hb h.n0, cell_stays hb h.n1, cell_stays hb h.n2⟩
theorem Names.lt {w : World} (h : Names w) : 0 < w.heap.size := cell_lt h.n0
end Go.Proofs.YtfgfjofbghfdpaaDoor
