/- Contracts of sat's calls: sums of two. -/
import Derived.Test.YtiahiadipmmgcaaKSat
import Derived.Test.YtiahiadipmmgcaaKBase
namespace Go.Proofs.Ytiahiadipmmgcaa
set_option maxRecDepth 4000
open Go.ChangeShapes Go.WideShapes Go.ChangeAt Go.RowKit
open PSat

set_option maxHeartbeats 400000 in
theorem sat_add (a b : Int) (w : World) (ha : -9223372036854775808 ≤ a ∧ a ≤ 9223372036854775807) (hb : -9223372036854775808 ≤ b ∧ b ≤ 9223372036854775807) :
    Calls Try.prog 26 #[.int .i64 a, .int .i64 b] w fun e w' => e = .returned (.int .i64 (add a b)) ∧ w = w' := by
  obtain ⟨ha1, ha2⟩ := ha
  obtain ⟨hb1, hb2⟩ := hb
  go_enter Try.func26, Try.ntmps26
  go_wp2
  all_goals go_ret
  all_goals refine ⟨ret_int ?_, rfl⟩
  all_goals (unfold add clampI; (repeat' split) <;> omega)

end Go.Proofs.Ytiahiadipmmgcaa

/- clock: contracts of its calls. -/
namespace Go.Proofs.Ytiahiadipmmgcaa
set_option maxRecDepth 4000
open Go.ChangeShapes Go.WideShapes Go.ChangeAt Go.RowKit
open PSat
set_option linter.unusedVariables false
set_option linter.unusedSimpArgs false

/-- Block g is a clock that is at n. -/
def ClockC (w : World) (g : Nat) (n : Int) : Prop := At w g [.int .i64 n]
theorem ClockC.upd {S : Nat → Prop} {w w' : World} {g : Nat} {n : Int} (h : ClockC w g n) (hu : Upd S w w') (hn : ¬ S g) : ClockC w' g n := At.upd h hu hn
theorem ClockC.on {w w' : World} {g : Nat} {n : Int} (h : ClockC w g n) (hb : Below w.heap.size w w') : ClockC w' g n := At.on h hb
theorem ClockC.lt {w : World} {g : Nat} {n : Int} (h : ClockC w g n) : g < w.heap.size := h.1
theorem ClockC.made (w : World) (e : TypeId) : ClockC (w.alloc (.cells #[.int .i64 0] e)) w.heap.size 0 := At.alloc w [.int .i64 0] e
def CkPost (g : Nat) (n : Int) (w w' : World) : Prop := ClockC w' g n ∧ Upd (fun k => k = g) w w'

set_option maxHeartbeats 400000 in
theorem ck_now (g : Nat) (n : Int) (w : World) (h : ClockC w g n) :
    Calls Try.prog 25 #[.pointer (some ⟨g, 0, none⟩)] w fun e w' => e = .returned (.int .i64 n) ∧ w = w' := by
  obtain ⟨hg, c0, z0⟩ := At.one h
  go_enter Try.func25, Try.ntmps25
  go_wp2
  go_ret
  exact ⟨rfl, rfl⟩

set_option maxHeartbeats 400000 in
theorem ck_past (g : Nat) (n a : Int) (w : World) (h : ClockC w g n) :
    Calls Try.prog 29 #[.pointer (some ⟨g, 0, none⟩), .int .i64 a] w fun e w' => e = .returned (.bool (decide (a ≤ n))) ∧ w = w' := by
  obtain ⟨hg, c0, z0⟩ := At.one h
  go_enter Try.func29, Try.ntmps29
  go_wp2
  go_ret
  exact ⟨ret_bool (by simp), rfl⟩

set_option maxHeartbeats 400000 in
theorem ck_until (g : Nat) (n b : Int) (w : World) (h : ClockC w g n) (hn : -9223372036854775808 ≤ n ∧ n ≤ 9223372036854775807) (hb : -9223372036854775808 ≤ b ∧ b ≤ 9223372036854775807) :
    Calls Try.prog 27 #[.pointer (some ⟨g, 0, none⟩), .int .i64 b] w fun e w' => e = .returned (.int .i64 (add n (max b 0))) ∧ w = w' := by
  obtain ⟨hg, c0, z0⟩ := At.one h
  have HS := fun m hm => Lib.hid (sat_add n m w hn hm)
  by_cases h0 : 0 ≤ b
  · have HM := Lib.hid (show max b 0 = b by omega)
    have HS := HS b hb
    clear hb h
    rw [HM.out]
    generalize add n b = z at *
    go_enter Try.func27, Try.ntmps27
    go_wp2_with (go_at_call 26; refine HS.out.mono ?_; rintro e w' ⟨rfl, rfl⟩)
    go_ret
    exact ⟨rfl, rfl⟩
  have h1 : b < 0 := by omega
  have HM := Lib.hid (show max b 0 = 0 by omega)
  have HS := HS 0 (by omega)
  clear hb h h0
  rw [HM.out]
  generalize add n 0 = z at *
  go_enter Try.func27, Try.ntmps27
  go_wp2_with (go_at_call 26; refine HS.out.mono ?_; rintro e w' ⟨rfl, rfl⟩)
  go_ret
  exact ⟨rfl, rfl⟩

set_option maxHeartbeats 400000 in
theorem ck_go (g : Nat) (n b : Int) (w : World) (h : ClockC w g n) (hn : -9223372036854775808 ≤ n ∧ n ≤ 9223372036854775807) (hb : -9223372036854775808 ≤ b ∧ b ≤ 9223372036854775807) (h0 : 0 ≤ b) :
    Calls Try.prog 9 #[.pointer (some ⟨g, 0, none⟩), .int .i64 b] w fun e w' => e = .returned (.bool true) ∧ CkPost g (add n b) w w' := by
  obtain ⟨hg, c0, z0⟩ := At.one h
  have HH := Lib.hid h
  have HS := Lib.hid (sat_add n b w hn hb)
  clear h hb hn
  generalize add n b = z at *
  go_enter Try.func9, Try.ntmps9
  go_wp2_with (go_at_call 26; refine HS.out.mono ?_; rintro e w' ⟨rfl, rfl⟩)
  go_ret
  exact ⟨rfl, by unfold ClockC; simpa using At.set HH.out 0 (by simp) (.int .i64 z), (Upd.refl (fun k => k = g) w).setCell (p := ⟨g, 0, none⟩) (fun _ => rfl) _⟩
theorem ck_none (g : Nat) (n b : Int) (w : World) (h : ClockC w g n) (h0 : b < 0) :
    Calls Try.prog 9 #[.pointer (some ⟨g, 0, none⟩), .int .i64 b] w fun e w' => e = .returned (.bool false) ∧ w = w' := by
  clear h
  go_enter Try.func9, Try.ntmps9
  go_wp2
  go_ret
  exact ⟨rfl, rfl⟩
end Go.Proofs.Ytiahiadipmmgcaa
