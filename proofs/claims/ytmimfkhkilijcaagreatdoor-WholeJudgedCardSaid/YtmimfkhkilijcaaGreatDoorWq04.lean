/- Bytes: what is reached of them. -/
import Derived.Test.YtmimfkhkilijcaaGreatDoorWq01
set_option linter.unusedVariables false
set_option linter.unusedSimpArgs false
set_option maxRecDepth 100000
set_option maxHeartbeats 8000000
namespace Go.Proofs.YtmimfkhkilijcaaGreatDoor
open Go.ChangeShapes Go.WideShapes Go.ChangeAt Go.RowKit
theorem bytes_run (w : World) (s : ByteArray) : (convert 9 79 (.string s)).run Tryz.prog w = .ok (.slice (some ⟨w.heap.size,0,none⟩) s.size (grownCap w s.size 0 5)) (Lib.bytesWorld w 5 s) :=
  Lib.run_convert_string_bytes w 9 79 5 s Tryz.underlying9 Tryz.underlying79 Tryz.underlying5
theorem bytes_own (w : World) (s : ByteArray) (e : TypeId) (hs : s.size≤maxLen) : Own (Lib.bytesWorld w e s) w.heap.size 0 s.size (fun j=>.int .u8 ((s.data.toList.getD j 0).toNat : Int)):=by
  have h:=bytes_sl (B:=0) w s e (Nat.zero_le _) hs
  rcases h.2 with ⟨h1,_⟩|⟨g,off,cap,h1,_,h2,h3,_,h4,h5⟩
  · cases h1
  · simp at h1
    obtain ⟨⟨rfl,rfl⟩,rfl⟩:=h1
    refine ⟨h2,fun j hj=>?_,fun j hj=>(h5 j (by omega)).2⟩
    rw [h4 j (by omega)]
    have hj' : j<s.data.size:=hj
    simp [bv,List.getD,Array.getElem?_eq_getElem hj']
end Go.Proofs.YtmimfkhkilijcaaGreatDoor
