/- crc: sealed texts opened. -/
import Derived.Test.YtfgmbmpbgokolaaCrc2
import Derived.BigRegion
import Derived.Deep.RegionHeld3
namespace Go.Proofs.Ytfgmbmpbgokolaa
open Go.ChangeShapes Go.WideShapes Go.ChangeAt Go.RowKit
open PCrc
set_option linter.unusedVariables false

set_option maxRecDepth 100000 in
set_option maxHeartbeats 1000000 in
theorem crc_open (g : Nat) (s : ByteArray) (w : World) (ht : Tab w g) (hs : s.size ≤ 140737488355328) :
    Calls Try.prog 29 #[.pointer (some ⟨g, 0, none⟩), .string s] w fun e w' => e = .returned (.tuple #[.string (bstr (opened s.data.toList)), .bool (opn s.data.toList)]) ∧ Below w.heap.size w w' := by
  have hsl : s.data.toList.length = s.size := by simp
  by_cases h4 : s.size < 4
  · have ho : opn s.data.toList = false := by unfold opn; simp; omega
    have hod : opened s.data.toList = [] := by unfold opened; rw [ho]; rfl
    rw [ho, hod]
    clear ho hod hsl
    go_enter Try.func29, Try.ntmps29
    go_wp2
    generalize hcut : (s.size : Int) - 4 = c
    have hneg : c < 0 := by omega
    clear hcut h4
    go_region
    go_wp2
    go_ret2
    exact ⟨rfl, (Below.refl _ _).drew⟩
  · obtain ⟨m, hm⟩ : ∃ m, s.size = m + 4 := ⟨s.size - 4, by omega⟩
    have hc4 := fun w' (h : Tab w' g) => crc_seal4 g (s.extract 0 m) w' h (by unfold maxLen; simp; omega)
    have HC4 := Lib.hid hc4
    clear hc4
    have hcm : (s.size : Int) - 4 = (m : Int) := by omega
    have hms : m ≤ s.size := by omega
    have hnd : decide ((m : Int) < 0) = false := by simp
    clear hm h4
    go_enter Try.func29, Try.ntmps29
    go_wp2
    go_region_held3 (fun _ => True) (exact trivial) (first | (go_at_call 39; refine (HC4.out _ ht.drew).mono ?_; rintro e w1 ⟨rfl, hb⟩))
    have hb' : Below w.heap.size w w1 := ⟨hb.os, hb.tape, hb.output, hb.size, hb.block⟩
    have hd := ext_drop s m
    have hpos : (4 : Nat) ≤ s.data.toList.length := by omega
    have hlm : s.data.toList.length - 4 = m := by omega
    have hcl := fun w' => str_clone (s.extract 0 m) w' (by simp; omega)
    have HCL := Lib.hid hcl
    clear hcl
    have he : Hid (s.extract 0 m = bstr (s.data.toList.take m)) := by show _ = _; rw [ext_bstr s 0 m, ext_take]
    have HD := Lib.hid hd
    clear hd
    go_wp2_with (first | (go_at_call 42; refine (HCL.out _).mono ?_; rintro e w2 ⟨rfl, hb2⟩))
    · have h : (!((s.extract m s.size).toList == four (PCrc.sum (s.data.toList.take m)))) = true := by assumption
      have hq : s.data.toList.drop m ≠ four (PCrc.sum (s.data.toList.take m)) := by rw [Lib.toList_data, HD.out] at h; simpa using h
      have ho : opn s.data.toList = false := by unfold opn; rw [hlm, decide_eq_false_iff_not]; exact fun h => hq h.2
      have hod : opened s.data.toList = [] := by unfold opened; rw [ho]; rfl
      go_ret2
      exact ⟨by rw [ho, hod]; rfl, hb'⟩
    · have h : (!((s.extract m s.size).toList == four (PCrc.sum (s.data.toList.take m)))) = false := by assumption
      have hq : s.data.toList.drop m = four (PCrc.sum (s.data.toList.take m)) := by rw [Lib.toList_data, HD.out] at h; simpa using h
      have ho : opn s.data.toList = true := by unfold opn; rw [hlm, decide_eq_true_iff]; exact ⟨hpos, hq⟩
      have hod : opened s.data.toList = s.data.toList.take m := by unfold opened; rw [ho, hlm]; rfl
      go_ret2
      exact ⟨by rw [he.out, ho, hod]; rfl, hb'.trans (hb2.mono hb'.size)⟩
end Go.Proofs.Ytfgmbmpbgokolaa
