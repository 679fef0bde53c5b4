/- What is known of a case that is small, and can be a source. -/
import Derived.Test.YtmimfkhkilijcaaGreatKJuP
import Derived.Test.YtmimfkhkilijcaaGreatKCase
import Derived.Test.YtmimfkhkilijcaaGreatKSrcC
import Derived.Test.YtmimfkhkilijcaaGreatKJuC
namespace Go.Proofs.YtmimfkhkilijcaaGreat
set_option maxRecDepth 4000
open Go.ChangeShapes Go.WideShapes Go.ChangeAt Go.RowKit
open PHist PRing PSat PClamp PBound PFrame PVar PCrc PSign PTree PEv
set_option linter.unusedVariables false
set_option linter.unusedSimpArgs false

/-- A source, and its events behind choices. -/
structure Good25 (rs : List Rul) (t d : Int) (ls : List ByteArray) : Prop where
  hn : (ls.map fun s => s.data.toList).length = rs.length
  h8 : rs.length ≤ 8
  ok : (St.new t d rs (ls.map fun s => s.data.toList)).Ok
  chk : ∀ r ∈ rs, rcheck r = 0
  fine : ∀ cs : List (Bool × Int), ∀ e ∈ St.newE t rs (ls.map fun s => s.data.toList) ++ (St.new t d rs (ls.map fun s => s.data.toList)).runE cs, Fine e
theorem good25 {w : World} {a : Option Addr} {n c : Nat} {t d : Int} {b : Option Addr} {m c2 : Nat} {q : Option Addr} {nq c3 : Nat} {rs : List Rul} {ls : List ByteArray} {cs : List (Bool × Int)} (hC : CaseC w a n c t d b m c2 q nq c3 rs ls cs) (hS : SmallC n m nq ls) (hz : nerr rs t d m = 0) : Good25 rs t d ls := by
  obtain ⟨hc0, hmn⟩ := nerr_zero hz
  have ht1 := ccheck_t hc0
  have hm := hC.hm
  have h8 := hS.1
  have hlen : (ls.map fun s => s.data.toList).length = rs.length := by rw [List.length_map]; omega
  have hr8 : rs.length ≤ 8 := by omega
  have hck : ∀ r ∈ rs, rcheck r = 0 ∧ r.Fits := fun r hr => ⟨ccheck_ok hc0 r hr, hC.hfit r hr⟩
  have hl : ∀ l ∈ (ls.map fun s => s.data.toList), l.length ≤ 400 := fun l hl => by
    obtain ⟨s, hs', rfl⟩ := List.mem_map.1 hl
    exact hS.2.2.2 s hs'
  have hok : (St.new t d rs (ls.map fun s => s.data.toList)).Ok := new_ok hlen (by omega) hck hl ⟨ht1.2.1, hC.ht.2⟩ ⟨ht1.2.2, hC.hd.2⟩
  refine ⟨hlen, hr8, hok, fun r hr => (hck r hr).1, fun cs e he => ?_⟩
  rcases List.mem_append.1 he with he | he
  · exact fine_new hlen hr8 hck hl ⟨ht1.2.1, hC.ht.2⟩ e he
  · exact fine_run cs hok e he
end Go.Proofs.YtmimfkhkilijcaaGreat
