/- Cut: what is reached of them. -/
import Derived.Test.YtmimfkhkilijcaaGreatDoorPq01
import Derived.Laws.Strings2
import Derived.Laws.Strings3
import Derived.Laws.Slices
import Derived.Laws.Concat
import Derived.Lib.Strings
set_option linter.unusedVariables false
set_option linter.unusedSimpArgs false
set_option maxRecDepth 100000
set_option maxHeartbeats 8000000
namespace Go.Proofs.YtmimfkhkilijcaaGreatDoor
open Go.ChangeShapes Go.WideShapes Go.ChangeAt Go.RowKit
theorem ext_list (s : ByteArray) (i j : Nat) : s.extract i j=bstr ((s.data.toList.drop i).take (j - i)):=by
  apply ByteArray.ext
  apply Array.ext'
  rw [Lib.extract_data]
theorem cut_run {P : Program} (w : World) (t : TypeId) (s : ByteArray) (i j : Nat) (zi zj : Int) (hi : zi=i) (hj : zj=j) (ht : P.underlying t=some .string) (h1 : i≤j) (h2 : j≤s.size) :
    (Instr.slice t (.string s) (some (.int .i64 zi)) (some (.int .i64 zj)) none).run P w = .ok (.string (bstr ((s.data.toList.drop i).take (j - i)))) w:=by
  subst hi hj
  rw [run_slice_string w t s .i64 .i64 i j ht (by omega) (by omega) (by omega),← ext_list]
  rfl
theorem from_run {P : Program} (w : World) (t : TypeId) (s : ByteArray) (i : Nat) (zi : Int) (hi : zi=i) (ht : P.underlying t=some .string) (h2 : i≤s.size) :
    (Instr.slice t (.string s) (some (.int .i64 zi)) none none).run P w = .ok (.string (bstr (s.data.toList.drop i))) w:=by
  subst hi
  have e : bstr (s.data.toList.drop i)=s.extract i s.size:=by
    rw [ext_list,List.take_of_length_le (by simp)]
  rw [run_slice_string_from_if w t s .i64 i ht,if_pos (by omega),e]
  rfl
theorem cat_run {P : Program} (w : World) (a b c : ByteArray) (h : a.size+b.size≤9223372036854775807) (hc : a++b=c) : (Op.stringOp .add a b).run P w = .ok (.string c) w:=by
  subst hc
  exact run_string_add_sum w a b h
end Go.Proofs.YtmimfkhkilijcaaGreatDoor
