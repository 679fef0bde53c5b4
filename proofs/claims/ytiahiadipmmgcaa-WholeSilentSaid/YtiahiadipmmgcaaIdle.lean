/- idle: contracts of its calls. -/
import Derived.Test.YtiahiadipmmgcaaKClock
namespace Go.Proofs.Ytiahiadipmmgcaa
set_option maxRecDepth 4000
open Go.ChangeShapes Go.WideShapes Go.ChangeAt Go.RowKit
open PSat
set_option linter.unusedVariables false
set_option linter.unusedSimpArgs false

/-- Block g is a status: what it is, its timeout, its deadline. -/
def IdleC (w : World) (g : Nat) (s t d : Int) : Prop := At w g [.int .i64 s, .int .i64 t, .int .i64 d]
theorem IdleC.upd {S : Nat → Prop} {w w' : World} {g : Nat} {s t d : Int} (h : IdleC w g s t d) (hu : Upd S w w') (hn : ¬ S g) : IdleC w' g s t d := At.upd h hu hn
theorem IdleC.on {w w' : World} {g : Nat} {s t d : Int} (h : IdleC w g s t d) (hb : Below w.heap.size w w') : IdleC w' g s t d := At.on h hb
theorem IdleC.lt {w : World} {g : Nat} {s t d : Int} (h : IdleC w g s t d) : g < w.heap.size := h.1
def IdPost (g : Nat) (s t d : Int) (w w' : World) : Prop := IdleC w' g s t d ∧ Upd (fun k => k = g) w w'
def IdNew (w : World) (t d : Int) (e : Ending) (w' : World) : Prop := e = .returned (.pointer (some ⟨w.heap.size, 0, none⟩)) ∧ IdleC w' w.heap.size 0 t d ∧ w'.heap.size = w.heap.size + 1 ∧ Below w.heap.size w w'

set_option maxHeartbeats 400000 in
theorem id_is (g : Nat) (s t d : Int) (w : World) (h : IdleC w g s t d) :
    Calls Try.prog 16 #[.pointer (some ⟨g, 0, none⟩)] w fun e w' => e = .returned (.int .i64 s) ∧ w = w' := by
  obtain ⟨hg, c0, z0, c1, z1, c2, z2⟩ := At.three h
  go_enter Try.func16, Try.ntmps16
  go_wp2
  go_ret
  exact ⟨rfl, rfl⟩

set_option maxHeartbeats 400000 in
theorem id_over (g : Nat) (s t d : Int) (w : World) (h : IdleC w g s t d) (h0 : 0 ≤ s ∧ s ≤ 3) :
    Calls Try.prog 17 #[.pointer (some ⟨g, 0, none⟩)] w fun e w' => e = .returned (.bool (decide (2 ≤ s))) ∧ w = w' := by
  obtain ⟨hg, c0, z0, c1, z1, c2, z2⟩ := At.three h
  go_enter Try.func17, Try.ntmps17
  go_wp2
  all_goals go_ret
  all_goals refine ⟨ret_bool ?_, rfl⟩
  all_goals (rw [Bool.eq_iff_iff]; simp <;> omega)

set_option maxHeartbeats 400000 in
theorem id_new (g : Nat) (n b : Int) (w : World) (h : ClockC w g n) (hn : -9223372036854775808 ≤ n ∧ n ≤ 9223372036854775807) (hb : -9223372036854775808 ≤ b ∧ b ≤ 9223372036854775807) (d : Int) (hd : add n (max b 0) = d) :
    Calls Try.prog 10 #[.pointer (some ⟨g, 0, none⟩), .int .i64 b] w fun e w' => IdNew w b d e w' := by
  have HU := Lib.hid (ck_until g n b w h hn hb)
  rw [hd] at HU
  have HA := Lib.hid (At.alloc w [.int .i64 0, .int .i64 b, .int .i64 d] 59)
  have HB := Lib.hid ((Below.refl w.heap.size w).alloc (Nat.le_refl _) (.cells #[.int .i64 0, .int .i64 b, .int .i64 d] 59))
  clear h hd hn hb
  go_enter Try.func10, Try.ntmps10
  go_wp2_with (go_at_call 27; refine HU.out.mono ?_; rintro e w' ⟨rfl, rfl⟩)
  go_ret
  exact ⟨rfl, HA.out, by simp, HB.out⟩

set_option maxHeartbeats 400000 in
theorem id_read (gc : Nat) (n : Int) (g : Nat) (s t d : Int) (w : World) (hc : ClockC w gc n) (hne : gc ≠ g) (hn : -9223372036854775808 ≤ n ∧ n ≤ 9223372036854775807) (hb : -9223372036854775808 ≤ t ∧ t ≤ 9223372036854775807) (h : IdleC w g s t d) (h0 : 0 ≤ s) (h1 : s < 2) (d' : Int) (hd : add n (max t 0) = d') :
    Calls Try.prog 14 #[.pointer (some ⟨g, 0, none⟩), .pointer (some ⟨gc, 0, none⟩)] w fun e w' => e = .returned (.bool true) ∧ IdPost g 0 t d' w w' := by
  obtain ⟨hg, c0, z0, c1, z1, c2, z2⟩ := At.three h
  have HO := Lib.hid (id_over g s t d w h ⟨h0, by omega⟩)
  have HU := Lib.hid (ck_until gc n t w hc hn hb)
  rw [hd] at HU
  have HH := Lib.hid h
  have hs2 : decide (2 ≤ s) = false := by simp; omega
  clear h hd hc hb hn h0 h1
  rw [hs2] at HO
  go_enter Try.func14, Try.ntmps14
  go_wp2_with (first | (go_at_call 17; refine HO.out.mono ?_; rintro e w' ⟨rfl, rfl⟩) | (go_at_call 27; refine HU.out.mono ?_; rintro e w' ⟨rfl, rfl⟩))
  go_ret
  exact ⟨rfl, by unfold IdleC; simpa using (At.set HH.out 0 (by simp) (.int .i64 0)).set 2 (by simp) (.int .i64 d'), ((Upd.refl (fun k => k = g) w).setCell (p := ⟨g, 0, none⟩) (fun _ => rfl) _).setCell (p := ⟨g, 2, none⟩) (fun _ => rfl) _⟩

set_option maxHeartbeats 400000 in
theorem id_read_over (gc : Nat) (g : Nat) (s t d : Int) (w : World) (h : IdleC w g s t d) (h0 : 2 ≤ s) (h1 : s ≤ 3) :
    Calls Try.prog 14 #[.pointer (some ⟨g, 0, none⟩), .pointer (some ⟨gc, 0, none⟩)] w fun e w' => e = .returned (.bool false) ∧ w = w' := by
  have HO := Lib.hid (id_over g s t d w h ⟨by omega, h1⟩)
  have hs2 : decide (2 ≤ s) = true := by simp; omega
  clear h h0 h1
  rw [hs2] at HO
  go_enter Try.func14, Try.ntmps14
  go_wp2_with (go_at_call 17; refine HO.out.mono ?_; rintro e w' ⟨rfl, rfl⟩)
  go_ret
  exact ⟨rfl, rfl⟩

set_option maxHeartbeats 400000 in
theorem id_tick (gc : Nat) (n : Int) (g : Nat) (t d : Int) (w : World) (hc : ClockC w gc n) (hne : gc ≠ g) (h : IdleC w g 0 t d) (h1 : d ≤ n) :
    Calls Try.prog 15 #[.pointer (some ⟨g, 0, none⟩), .pointer (some ⟨gc, 0, none⟩)] w fun e w' => e = .returned (.bool true) ∧ IdPost g 1 t d w w' := by
  obtain ⟨hg, c0, z0, c1, z1, c2, z2⟩ := At.three h
  have HP := Lib.hid (ck_past gc n d w hc)
  have HH := Lib.hid h
  have hs2 : decide (d ≤ n) = true := by simp; omega
  clear h hc h1
  rw [hs2] at HP
  go_enter Try.func15, Try.ntmps15
  go_wp2_with (go_at_call 29; refine HP.out.mono ?_; rintro e w' ⟨rfl, rfl⟩)
  go_ret
  exact ⟨rfl, by unfold IdleC; simpa using At.set HH.out 0 (by simp) (.int .i64 1), (Upd.refl (fun k => k = g) w).setCell (p := ⟨g, 0, none⟩) (fun _ => rfl) _⟩

set_option maxHeartbeats 400000 in
theorem id_tick_not (gc : Nat) (n : Int) (g : Nat) (s t d : Int) (w : World) (hc : ClockC w gc n) (h : IdleC w g s t d) (h1 : s = 0 → n < d) :
    Calls Try.prog 15 #[.pointer (some ⟨g, 0, none⟩), .pointer (some ⟨gc, 0, none⟩)] w fun e w' => e = .returned (.bool false) ∧ w = w' := by
  obtain ⟨hg, c0, z0, c1, z1, c2, z2⟩ := At.three h
  by_cases e0 : s = 0
  · subst e0
    have HP := Lib.hid (ck_past gc n d w hc)
    have hs2 : decide (d ≤ n) = false := by have := h1 rfl; simp; omega
    clear h hc h1
    rw [hs2] at HP
    go_enter Try.func15, Try.ntmps15
    go_wp2_with (go_at_call 29; refine HP.out.mono ?_; rintro e w' ⟨rfl, rfl⟩)
    go_ret
    exact ⟨rfl, rfl⟩
  · have hz : (s != 0) = true := by simpa using e0
    clear h hc h1
    go_enter Try.func15, Try.ntmps15
    go_wp2
    go_ret
    exact ⟨rfl, rfl⟩

set_option maxHeartbeats 400000 in
theorem id_stop (g : Nat) (s t d x : Int) (w : World) (h : IdleC w g s t d) (h0 : 0 ≤ s) (h1 : s < 2) :
    Calls Try.prog 28 #[.pointer (some ⟨g, 0, none⟩), .int .i64 x] w fun e w' => e = .returned (.bool true) ∧ IdPost g x t d w w' := by
  obtain ⟨hg, c0, z0, c1, z1, c2, z2⟩ := At.three h
  have HO := Lib.hid (id_over g s t d w h ⟨h0, by omega⟩)
  have HH := Lib.hid h
  have hs2 : decide (2 ≤ s) = false := by simp; omega
  clear h h0 h1
  rw [hs2] at HO
  go_enter Try.func28, Try.ntmps28
  go_wp2_with (go_at_call 17; refine HO.out.mono ?_; rintro e w' ⟨rfl, rfl⟩)
  go_ret
  exact ⟨rfl, by unfold IdleC; simpa using At.set HH.out 0 (by simp) (.int .i64 x), (Upd.refl (fun k => k = g) w).setCell (p := ⟨g, 0, none⟩) (fun _ => rfl) _⟩

set_option maxHeartbeats 400000 in
theorem id_stop_over (g : Nat) (s t d x : Int) (w : World) (h : IdleC w g s t d) (h0 : 2 ≤ s) (h1 : s ≤ 3) :
    Calls Try.prog 28 #[.pointer (some ⟨g, 0, none⟩), .int .i64 x] w fun e w' => e = .returned (.bool false) ∧ w = w' := by
  have HO := Lib.hid (id_over g s t d w h ⟨by omega, h1⟩)
  have hs2 : decide (2 ≤ s) = true := by simp; omega
  clear h h0 h1
  rw [hs2] at HO
  go_enter Try.func28, Try.ntmps28
  go_wp2_with (go_at_call 17; refine HO.out.mono ?_; rintro e w' ⟨rfl, rfl⟩)
  go_ret
  exact ⟨rfl, rfl⟩

set_option maxHeartbeats 400000 in
theorem id_end (g : Nat) (s t d : Int) (w : World) (h : IdleC w g s t d) (h0 : 0 ≤ s) (h1 : s < 2) :
    Calls Try.prog 12 #[.pointer (some ⟨g, 0, none⟩)] w fun e w' => e = .returned (.bool true) ∧ IdPost g 2 t d w w' := by
  have HS := Lib.hid (id_stop g s t d 2 w h h0 h1)
  clear h h0 h1
  go_enter Try.func12, Try.ntmps12
  go_wp2_with (go_at_call 28; refine HS.out.mono ?_; rintro e w' ⟨rfl, hp⟩)
  go_ret
  exact ⟨rfl, hp⟩
set_option maxHeartbeats 400000 in
theorem id_end_over (g : Nat) (s t d : Int) (w : World) (h : IdleC w g s t d) (h0 : 2 ≤ s) (h1 : s ≤ 3) :
    Calls Try.prog 12 #[.pointer (some ⟨g, 0, none⟩)] w fun e w' => e = .returned (.bool false) ∧ w = w' := by
  have HS := Lib.hid (id_stop_over g s t d 2 w h h0 h1)
  clear h h0 h1
  go_enter Try.func12, Try.ntmps12
  go_wp2_with (go_at_call 28; refine HS.out.mono ?_; rintro e w' ⟨rfl, rfl⟩)
  go_ret
  exact ⟨rfl, rfl⟩
set_option maxHeartbeats 400000 in
theorem id_fail (g : Nat) (s t d : Int) (w : World) (h : IdleC w g s t d) (h0 : 0 ≤ s) (h1 : s < 2) :
    Calls Try.prog 13 #[.pointer (some ⟨g, 0, none⟩)] w fun e w' => e = .returned (.bool true) ∧ IdPost g 3 t d w w' := by
  have HS := Lib.hid (id_stop g s t d 3 w h h0 h1)
  clear h h0 h1
  go_enter Try.func13, Try.ntmps13
  go_wp2_with (go_at_call 28; refine HS.out.mono ?_; rintro e w' ⟨rfl, hp⟩)
  go_ret
  exact ⟨rfl, hp⟩
set_option maxHeartbeats 400000 in
theorem id_fail_over (g : Nat) (s t d : Int) (w : World) (h : IdleC w g s t d) (h0 : 2 ≤ s) (h1 : s ≤ 3) :
    Calls Try.prog 13 #[.pointer (some ⟨g, 0, none⟩)] w fun e w' => e = .returned (.bool false) ∧ w = w' := by
  have HS := Lib.hid (id_stop_over g s t d 3 w h h0 h1)
  clear h h0 h1
  go_enter Try.func13, Try.ntmps13
  go_wp2_with (go_at_call 28; refine HS.out.mono ?_; rintro e w' ⟨rfl, rfl⟩)
  go_ret
  exact ⟨rfl, rfl⟩
end Go.Proofs.Ytiahiadipmmgcaa
