/- crc: sealed texts. -/
import Derived.Test.YtfgmbmpbgokolaaCrc
import Derived.Test.YtfgmbmpbgokolaaShelf
namespace Go.Proofs.Ytfgmbmpbgokolaa
open Go.ChangeShapes Go.WideShapes Go.ChangeAt Go.RowKit
open PCrc
set_option linter.unusedVariables false

theorem bstr_cat (s : ByteArray) (l : List UInt8) : s ++ bstr l = bstr (s.data.toList ++ l) := by
  apply ByteArray.ext
  simp

theorem four_text (n : Nat) (hn : n < 4294967296) (w : World) (N : Nat) (hN : w.heap.size = N) :
    (convert 38 9 (.slice (some ⟨N, 0, none⟩) 4 4)).run Try.prog (w.alloc (.cells #[.int .u8 ((n : Int) / 16777216), .int .u8 ((n : Int) / 65536 % 256), .int .u8 ((n : Int) / 256 % 256), .int .u8 ((n : Int) % 256)] 5)) =
      .ok (.string (bstr (four n))) (w.alloc (.cells #[.int .u8 ((n : Int) / 16777216), .int .u8 ((n : Int) / 65536 % 256), .int .u8 ((n : Int) / 256 % 256), .int .u8 ((n : Int) % 256)] 5)) := by
  subst hN
  have h := Sl.made (B := w.heap.size) w #[.int .u8 ((n : Int) / 16777216), .int .u8 ((n : Int) / 65536 % 256), .int .u8 ((n : Int) / 256 % 256), .int .u8 ((n : Int) % 256)] 5 1 4 4 (Nat.le_refl _) (Nat.le_refl _) (by decide) (by simp)
  refine sl_string (n := 4) (l := four n) ?_ 38 9 5 Try.underlying38 Try.underlying5 Try.underlying9 (B := w.heap.size)
  have e : bv (four n) = [.int .u8 ((n : Int) / 16777216), .int .u8 ((n : Int) / 65536 % 256), .int .u8 ((n : Int) / 256 % 256), .int .u8 ((n : Int) % 256)] := by
    simp [bv, four]
    omega
  rw [e]
  simpa using h

set_option maxRecDepth 100000 in
set_option maxHeartbeats 1000000 in
theorem crc_seal4 (g : Nat) (s : ByteArray) (w : World) (ht : Tab w g) (hs : s.size ≤ maxLen) :
    Calls Try.prog 39 #[.pointer (some ⟨g, 0, none⟩), .string s] w fun e w' => e = .returned (.string (bstr (four (PCrc.sum s.data.toList)))) ∧ Below w.heap.size w w' := by
  have hlt := sum_lt s.data.toList
  have HS := Lib.hid (crc_sum g s w ht hs)
  generalize PCrc.sum s.data.toList = n at *
  have kc := fun m => four_text n hlt (w.drewN m) w.heap.size rfl
  go_enter Try.func39, Try.ntmps39
  go_wp2_with (first | (go_at_call 46; refine HS.out.mono ?_; rintro e w' ⟨rfl, m, rfl⟩))
  go_ret
  exact ⟨rfl, (below_drewN (Below.refl _ _) _).alloc (Nat.le_refl _) _⟩

set_option maxRecDepth 100000 in
set_option maxHeartbeats 1000000 in
theorem crc_seal (g : Nat) (s : ByteArray) (w : World) (ht : Tab w g) (hs : s.size ≤ 140737488355328) :
    Calls Try.prog 26 #[.pointer (some ⟨g, 0, none⟩), .string s] w fun e w' => e = .returned (.string (bstr (sld s.data.toList))) ∧ Below w.heap.size w w' := by
  have HS := Lib.hid (crc_seal4 g s w ht (by unfold maxLen; omega))
  have h4 := four_len (PCrc.sum s.data.toList)
  go_enter Try.func26, Try.ntmps26
  go_wp2_with (first | (go_at_call 39; refine HS.out.mono ?_; rintro e w1 ⟨rfl, hb⟩))
  go_ret
  refine ⟨?_, hb⟩
  rw [bstr_cat]
  rfl

set_option maxHeartbeats 1000000 in
theorem str_clone (s : ByteArray) (w : World) (hs : s.size ≤ 281474976710656) :
    Calls Try.prog 42 #[.string s] w fun e w' => e = .returned (.string s) ∧ Below w.heap.size w w' := by
  have HC := Lib.hid (Try.stringslite_Clone s w hs)
  go_enter Try.func42, Try.ntmps42
  go_wp2_with (first | (go_at_call 48; refine HC.out.mono ?_; rintro e w1 ⟨rfl, hb⟩))
  go_ret
  exact ⟨rfl, hb⟩

theorem ext_take (s : ByteArray) (n : Nat) : (s.extract 0 n).data.toList = s.data.toList.take n := by
  rw [Lib.extract_data]
  simp
theorem ext_drop (s : ByteArray) (n : Nat) : (s.extract n s.size).data.toList = s.data.toList.drop n := by
  rw [Lib.extract_data]
  have : s.data.toList.length = s.size := by simp
  rw [List.take_of_length_le]
  rw [List.length_drop]
  omega
theorem ext_bstr (s : ByteArray) (a b : Nat) : s.extract a b = bstr (s.extract a b).data.toList := rfl

end Go.Proofs.Ytfgmbmpbgokolaa
