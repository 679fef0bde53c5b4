/- clamp: contracts of its calls. -/
import Derived.Test.YthpnkjnieljdiaaSlots
import Derived.Test.YthpnkjnieljdiaaBase
import Derived.Test.YthpnkjnieljdiaaInts
import Derived.Test.YthpnkjnieljdiaaClampPlain
import Derived.WalkKit
import Derived.ProofKit
import Derived.OpenShut
import Derived.Handy
import Derived.BigQuiet
import Derived.BigRegion
import Derived.Deep.QuietTactic
import Derived.IntWalk
import Derived.Outline
import Derived.WalkLawsBesides
namespace Go.Proofs.Ythpnkjnieljdiaa
open Go.ChangeShapes Go.WideShapes Go.ChangeAt Go.RowKit
open PClamp
set_option linter.unusedVariables false
set_option linter.unusedSimpArgs false

/-- Block g begins with a number that only rises, now m (the least one: or none as yet); behind it these cells. -/
def ClampC (w : World) (g : Nat) (m : Int) (r : List Value) : Prop := ∃ (n : Int) (b : Bool), At w g (.int .i64 n :: .bool b :: r) ∧ (if b then n else -9223372036854775808) = m
theorem ClampC.upd {S : Nat → Prop} {w w' : World} {g : Nat} {m : Int} {r : List Value} (h : ClampC w g m r) (hu : Upd S w w') (hn : ¬ S g) : ClampC w' g m r := by
  obtain ⟨n, b, h1, h2⟩ := h
  exact ⟨n, b, h1.upd hu hn, h2⟩
theorem ClampC.on {w w' : World} {g : Nat} {m : Int} {r : List Value} (h : ClampC w g m r) (hb : Below w.heap.size w w') : ClampC w' g m r := by
  obtain ⟨n, b, h1, h2⟩ := h
  exact ⟨n, b, h1.on hb, h2⟩
theorem ClampC.lt {w : World} {g : Nat} {m : Int} {r : List Value} (h : ClampC w g m r) : g < w.heap.size := by
  obtain ⟨n, b, h1, h2⟩ := h
  exact h1.1
theorem ClampC.drewN {w : World} {g : Nat} {m : Int} {r : List Value} (h : ClampC w g m r) (k : Nat) : ClampC (w.drewN k) g m r := h.upd (S := fun _ => False) ((Upd.refl _ _).drewN k) id
theorem ClampC.drew {w : World} {g : Nat} {m : Int} {r : List Value} (h : ClampC w g m r) : ClampC w.drew g m r := h.upd (S := fun _ => False) ((Upd.refl _ _).drew) id
theorem ClampC.alloc {w : World} {g : Nat} {m : Int} {r : List Value} (h : ClampC w g m r) (o : Obj) : ClampC (w.alloc o) g m r := h.upd (S := fun _ => False) ((Upd.refl _ _).alloc o) id
theorem ClampC.made (w : World) (r : List Value) (e : TypeId) : ClampC (w.alloc (.cells (.int .i64 0 :: .bool false :: r).toArray e)) w.heap.size (-9223372036854775808) r := ⟨0, false, At.alloc w _ e, rfl⟩

/-- What Raise leaves: the greater one. -/
def RaiseTo (g : Nat) (m n : Int) (r : List Value) (w w' : World) : Prop := ClampC w' g (if m < n then n else m) r ∧ Upd (fun k => k = g) w w'

set_option maxHeartbeats 400000 in
theorem cl_now (g : Nat) (m : Int) (r : List Value) (w : World) (h : ClampC w g m r) :
    Calls Try.prog 13 #[.pointer (some ⟨g, 0, none⟩)] w fun e w' => e = .returned (.int .i64 m) ∧ w = w' := by
  obtain ⟨n, b, hat, rfl⟩ := h
  have hg := hat.1
  have h0 := hat.2 0 (by simp)
  have h1 := hat.2 1 (by simp)
  simp only [List.getElem_cons_zero, List.getElem_cons_succ] at h0 h1
  obtain ⟨c0, z0⟩ := h0
  obtain ⟨c1, z1⟩ := h1
  cases b
  · go_enter Try.func13, Try.ntmps13
    go_wp2
    go_ret
    exact ⟨rfl, rfl⟩
  · go_enter Try.func13, Try.ntmps13
    go_wp2
    go_ret
    exact ⟨rfl, rfl⟩

set_option maxHeartbeats 400000 in
theorem cl_raise (g : Nat) (m n : Int) (r : List Value) (w : World) (h : ClampC w g m r) :
    Calls Try.prog 25 #[.pointer (some ⟨g, 0, none⟩), .int .i64 n] w fun e w' => e = .returned (.bool (decide (m < n))) ∧ RaiseTo g m n r w w' := by
  have HC := Lib.hid h
  obtain ⟨n0, b, hat, hm⟩ := h
  have HM := Lib.hid hm
  have HA := Lib.hid hat
  have hg := hat.1
  have h0 := hat.2 0 (by simp)
  have h1 := hat.2 1 (by simp)
  simp only [List.getElem_cons_zero, List.getElem_cons_succ] at h0 h1
  obtain ⟨c0, z0⟩ := h0
  obtain ⟨c1, z1⟩ := h1
  clear hat hm
  by_cases hlt : m < n
  · go_enter Try.func25, Try.ntmps25
    go_wp2_with (go_at_call 13; refine (cl_now _ _ _ _ HC.out).mono ?_; rintro e w' ⟨rfl, rfl⟩)
    go_ret
    refine ⟨ret_bool (by simp [hlt]), ?_, ?_⟩
    · rw [if_pos hlt]
      refine ⟨n, true, ?_, rfl⟩
      have := (HA.out.set 0 (by simp) (.int .i64 n)).set 1 (by simp) (.bool true)
      simpa using this
    · exact ((Upd.refl (fun k => k = g) w).setCell (p := ⟨g, 0, none⟩) (fun _ => rfl) _).setCell (p := ⟨g, 1, none⟩) (fun _ => rfl) _
  · have hle : n ≤ m := by omega
    go_enter Try.func25, Try.ntmps25
    go_wp2_with (go_at_call 13; refine (cl_now _ _ _ _ HC.out).mono ?_; rintro e w' ⟨rfl, rfl⟩)
    go_ret
    refine ⟨ret_bool (by simp [hlt]), ?_, Upd.refl _ _⟩
    rw [if_neg (show ¬ m < n by omega)]
    exact HC.out

theorem cl_up (g : Nat) (m n : Int) (r : List Value) (w : World) (h : ClampC w g m r) (hlt : m < n) :
    Calls Try.prog 25 #[.pointer (some ⟨g, 0, none⟩), .int .i64 n] w fun e w' => e = .returned (.bool true) ∧ ClampC w' g n r ∧ Upd (fun k => k = g) w w' := by
  refine (cl_raise g m n r w h).mono ?_
  rintro e w' ⟨h1, h2, h3⟩
  rw [if_pos hlt] at h2
  simp [hlt] at h1
  exact ⟨h1, h2, h3⟩
theorem cl_stay (g : Nat) (m n : Int) (r : List Value) (w : World) (h : ClampC w g m r) (hlt : n ≤ m) :
    Calls Try.prog 25 #[.pointer (some ⟨g, 0, none⟩), .int .i64 n] w fun e w' => e = .returned (.bool false) ∧ w = w' := by
  have HC := Lib.hid h
  obtain ⟨n0, b, hat, hm⟩ := h
  have hg := hat.1
  have h0 := hat.2 0 (by simp)
  have h1 := hat.2 1 (by simp)
  simp only [List.getElem_cons_zero, List.getElem_cons_succ] at h0 h1
  obtain ⟨c0, z0⟩ := h0
  obtain ⟨c1, z1⟩ := h1
  clear hat hm
  go_enter Try.func25, Try.ntmps25
  go_wp2_with (go_at_call 13; refine (cl_now _ _ _ _ HC.out).mono ?_; rintro e w' ⟨rfl, rfl⟩)
  go_ret
  exact ⟨rfl, rfl⟩

/-- A row of numbers that is newly made. -/
theorem rowi_made (w : World) (l : List Int) (e : TypeId) (hl : l.length ≤ maxLen) (hb : ∀ x ∈ l, -9223372036854775808 ≤ x ∧ x ≤ 9223372036854775807) : RowI (w.alloc (.cells (iv l).toArray e)) .i64 (some ⟨w.heap.size, 0, none⟩) l := by
  have h := At.alloc w (iv l) e
  refine ⟨hl, fun i hi => ⟨_, 0, rfl, h.1, ?_⟩, fun x hx => by have := hb x hx; simp [Lit.wf, IntKind.min, IntKind.max, IntKind.bits, IntKind.signed]; omega⟩
  have := (h.2 i (by rw [iv_len]; exact hi)).1
  rw [Nat.zero_add, this]
  simp [iv]

def AllPost (R : List Int) (w : World) (e : Ending) (w' : World) : Prop :=
  ∃ a c, e = .returned (.slice a R.length c) ∧ RowI w' .i64 a R ∧ Below w.heap.size w w'

theorem iv_snoc' (l : List Int) (x : Int) : iv (l ++ [x]) = iv l ++ [.int .i64 x] := by simp [iv]
end Go.Proofs.Ythpnkjnieljdiaa
