/- Parts of texts, as the walks ask for them. -/
import Derived.Test.YtmimfkhkilijcaaGreatKBase
import Derived.Laws.Strings2
import Derived.Laws.Strings3
import Derived.Laws.Slices
import Derived.Laws.Concat
import Derived.Lib.Strings
namespace Go.Proofs.YtmimfkhkilijcaaGreat
set_option maxRecDepth 4000
open Go.ChangeShapes Go.WideShapes Go.ChangeAt Go.RowKit
set_option linter.unusedVariables false

theorem ext_list (s : ByteArray) (i j : Nat) : s.extract i j = bstr ((s.data.toList.drop i).take (j - i)) := by
  apply ByteArray.ext
  apply Array.ext'
  rw [Lib.extract_data]

/-- A part of a text. -/
theorem cut_run {P : Program} (w : World) (t : TypeId) (s : ByteArray) (i j : Nat) (zi zj : Int) (hi : zi = i) (hj : zj = j) (ht : P.underlying t = some .string) (h1 : i ≤ j) (h2 : j ≤ s.size) :
    (Instr.slice t (.string s) (some (.int .i64 zi)) (some (.int .i64 zj)) none).run P w = .ok (.string (bstr ((s.data.toList.drop i).take (j - i)))) w := by
  subst hi hj
  rw [run_slice_string w t s .i64 .i64 i j ht (by omega) (by omega) (by omega), ← ext_list]
  rfl
/-- From a place on. -/
theorem from_run {P : Program} (w : World) (t : TypeId) (s : ByteArray) (i : Nat) (zi : Int) (hi : zi = i) (ht : P.underlying t = some .string) (h2 : i ≤ s.size) :
    (Instr.slice t (.string s) (some (.int .i64 zi)) none none).run P w = .ok (.string (bstr (s.data.toList.drop i))) w := by
  subst hi
  have e : bstr (s.data.toList.drop i) = s.extract i s.size := by
    rw [ext_list, List.take_of_length_le (by simp)]
  rw [run_slice_string_from_if w t s .i64 i ht, if_pos (by omega), e]
  rfl
/-- Up to a place. -/
theorem to_run {P : Program} (w : World) (t : TypeId) (s : ByteArray) (i : Nat) (zi : Int) (hi : zi = i) (ht : P.underlying t = some .string) (h2 : i ≤ s.size) :
    (Instr.slice t (.string s) none (some (.int .i64 zi)) none).run P w = .ok (.string (bstr (s.data.toList.take i))) w := by
  subst hi
  have e : bstr (s.data.toList.take i) = s.extract 0 i := by
    rw [ext_list]
    rfl
  rw [run_slice_string_to_if w t s .i64 i ht, if_pos (by omega), e]
  rfl

/-- Two texts, one behind the other. -/
theorem cat_run {P : Program} (w : World) (a b c : ByteArray) (h : a.size + b.size ≤ 9223372036854775807) (hc : a ++ b = c) : (Op.stringOp .add a b).run P w = .ok (.string c) w := by
  subst hc
  exact run_string_add_sum w a b h
end Go.Proofs.YtmimfkhkilijcaaGreat
