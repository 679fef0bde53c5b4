/- bounded: contracts of its calls, and of the document's own. -/
import Derived.Test.YthpnkjnieljdiaaClamp
import Derived.Test.YthpnkjnieljdiaaSatSub
import Derived.Test.YthpnkjnieljdiaaBoundPlain
import Derived.Deep.RegionHeld3
import Derived.Deep.RegionWith
namespace Go.Proofs.Ythpnkjnieljdiaa
open Go.ChangeShapes Go.WideShapes Go.ChangeAt Go.RowKit
open PSat PClamp PBound
set_option linter.unusedVariables false
set_option linter.unusedSimpArgs false

set_option maxHeartbeats 400000 in
theorem bo_new (b : Int) (w : World) :
    Calls Try.prog 21 #[.int .i64 b] w fun e w' => e = .returned (.pointer (some ⟨w.heap.size, 0, none⟩)) ∧ w' = w.alloc (.cells #[.int .i64 0, .bool false, .int .i64 b] 52) := by
  go_enter Try.func21, Try.ntmps21
  go_wp2
  go_ret
  exact ⟨rfl, rfl⟩

set_option maxHeartbeats 400000 in
theorem bo_after (m b : Int) (w : World) (hm : -9223372036854775808 ≤ m ∧ m ≤ 9223372036854775807) (hb : -9223372036854775808 ≤ b ∧ b ≤ 9223372036854775807) :
    Calls Try.prog 29 #[.int .i64 m, .int .i64 b] w fun e w' => e = .returned (.int .i64 (after m b)) ∧ w = w' := by
  have h1 := sub_in m b
  unfold inR at h1
  have HS := Lib.hid (show after m b = sub (sub m b) 1 from rfl)
  have HC := Lib.hid (sat_sub m b w hm hb)
  have HC2 := Lib.hid (sat_sub (sub m b) 1 w h1 (by omega))
  generalize sub m b = s at *
  generalize sub s 1 = s2 at *
  go_enter Try.func29, Try.ntmps29
  go_wp2_with (go_at_call 28; (with_reducible refine HC.out.mono ?_); rintro e w' ⟨rfl, rfl⟩)
  go_wp2_with (go_at_call 28; (with_reducible refine HC2.out.mono ?_); rintro e w' ⟨rfl, rfl⟩)
  go_ret
  exact ⟨ret_int (by rw [HS.out]), rfl⟩

def SeenTo (g : Nat) (m b : Int) (w w' : World) : Prop := ClampC w' g m [.int .i64 b] ∧ Upd (fun k => k = g) w w'

set_option maxHeartbeats 2000000 in
theorem bo_seen (g : Nat) (m b kd t : Int) (s : ByteArray) (w : World) (h : ClampC w g (after m b) [.int .i64 b]) (hb : -9223372036854775808 ≤ b ∧ b ≤ 9223372036854775807) (ht : -9223372036854775808 ≤ t ∧ t ≤ 9223372036854775807) (M : Int) (hM : (if m < t then t else m) = M) :
    Calls Try.prog 22 #[.pointer (some ⟨g, 0, none⟩), .agg #[.int .i64 kd, .int .i64 t, .string s]] w fun e w' => e = .returned (.tuple #[]) ∧ SeenTo g (after M b) b w w' := by
  have HU := after_up m t b
  rw [hM] at HU
  have HU := Lib.hid HU
  clear hM
  have hlt := h.lt
  have hne : g ≠ w.heap.size := by omega
  have hA := At.alloc w [.int .i64 kd, .int .i64 t, .string s] 27
  have h' := h.alloc (.cells #[.int .i64 kd, .int .i64 t, .string s] 27)
  have hu : Upd (fun k => k = g) w (w.alloc (.cells #[.int .i64 kd, .int .i64 t, .string s] 27)) := (Upd.refl _ w).alloc _
  go_enter Try.func22, Try.ntmps22
  go_wp2
  generalize hW : w.alloc (.cells #[.int .i64 kd, .int .i64 t, .string s] 27) = w1 at *
  change At w1 w.heap.size [.int .i64 kd, .int .i64 t, .string s] at hA
  obtain ⟨hr, r0, y0, r1, y1, r2, y2⟩ := hA.three
  have HH := Lib.hid h'
  obtain ⟨n0, b0, hat, hm⟩ := h'
  have c2 := (hat.2 2 (by simp)).1
  simp only [List.getElem_cons_zero, List.getElem_cons_succ] at c2
  have hg := hat.1
  clear hat hm h
  have HC := fun w => Lib.hid (bo_after t b w ht hb)
  have HM := Lib.hid (show after t b = after t b from rfl)
  generalize after t b = A at *
  go_region_with (first | (go_at_call 29; refine (HC _).out.mono ?_; rintro e w' ⟨rfl, rfl⟩) | (go_at_call 25; refine (cl_raise g _ A _ _ HH.out.drew).mono ?_; rintro e w' ⟨rfl, hrt⟩))
  all_goals
    obtain ⟨h1, h2⟩ := hrt
    rw [HU.out] at h1
    go_end0
    exact ⟨rfl, h1, hu.drew.trans h2 (fun i _ e => e)⟩
end Go.Proofs.Ythpnkjnieljdiaa
