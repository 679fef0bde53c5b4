/- clamp: contracts of its calls. -/
import Derived.Test.YtlinkbflampanaaSlots
import Derived.Test.YtlinkbflampanaaBase
import Derived.Test.YtlinkbflampanaaInts
import Derived.Test.YtlinkbflampanaaClampPlain
import Derived.WalkKit
import Derived.ProofKit
import Derived.OpenShut
import Derived.Handy
import Derived.BigQuiet
import Derived.BigRegion
import Derived.Deep.QuietTactic
import Derived.IntWalk
import Derived.Outline
import Derived.WalkLawsBesides
namespace Go.Proofs.Ytlinkbflampanaa
open Go.ChangeShapes Go.WideShapes Go.ChangeAt Go.RowKit
open PClamp
set_option linter.unusedVariables false
set_option linter.unusedSimpArgs false

/-- Block g begins with a number that only rises, now m (the least one: or none as yet); behind it these cells. -/
def ClampC (w : World) (g : Nat) (m : Int) (r : List Value) : Prop := ∃ (n : Int) (b : Bool), At w g (.int .i64 n :: .bool b :: r) ∧ (if b then n else -9223372036854775808) = m
theorem ClampC.upd {S : Nat → Prop} {w w' : World} {g : Nat} {m : Int} {r : List Value} (h : ClampC w g m r) (hu : Upd S w w') (hn : ¬ S g) : ClampC w' g m r := by
  obtain ⟨n, b, h1, h2⟩ := h
  exact ⟨n, b, h1.upd hu hn, h2⟩
theorem ClampC.on {w w' : World} {g : Nat} {m : Int} {r : List Value} (h : ClampC w g m r) (hb : Below w.heap.size w w') : ClampC w' g m r := by
  obtain ⟨n, b, h1, h2⟩ := h
  exact ⟨n, b, h1.on hb, h2⟩
theorem ClampC.lt {w : World} {g : Nat} {m : Int} {r : List Value} (h : ClampC w g m r) : g < w.heap.size := by
  obtain ⟨n, b, h1, h2⟩ := h
  exact h1.1
theorem ClampC.drewN {w : World} {g : Nat} {m : Int} {r : List Value} (h : ClampC w g m r) (k : Nat) : ClampC (w.drewN k) g m r := h.upd (S := fun _ => False) ((Upd.refl _ _).drewN k) id
theorem ClampC.drew {w : World} {g : Nat} {m : Int} {r : List Value} (h : ClampC w g m r) : ClampC w.drew g m r := h.upd (S := fun _ => False) ((Upd.refl _ _).drew) id
theorem ClampC.alloc {w : World} {g : Nat} {m : Int} {r : List Value} (h : ClampC w g m r) (o : Obj) : ClampC (w.alloc o) g m r := h.upd (S := fun _ => False) ((Upd.refl _ _).alloc o) id
theorem ClampC.made (w : World) (r : List Value) (e : TypeId) : ClampC (w.alloc (.cells (.int .i64 0 :: .bool false :: r).toArray e)) w.heap.size (-9223372036854775808) r := ⟨0, false, At.alloc w _ e, rfl⟩

/-- What Raise leaves: the greater one. -/
def RaiseTo (g : Nat) (m n : Int) (r : List Value) (w w' : World) : Prop := ClampC w' g (if m < n then n else m) r ∧ Upd (fun k => k = g) w w'

set_option maxHeartbeats 400000 in
theorem cl_now (g : Nat) (m : Int) (r : List Value) (w : World) (h : ClampC w g m r) :
    Calls Try.prog 10 #[.pointer (some ⟨g, 0, none⟩)] w fun e w' => e = .returned (.int .i64 m) ∧ w = w' := by
  obtain ⟨n, b, hat, rfl⟩ := h
  have hg := hat.1
  have h0 := hat.2 0 (by simp)
  have h1 := hat.2 1 (by simp)
  simp only [List.getElem_cons_zero, List.getElem_cons_succ] at h0 h1
  obtain ⟨c0, z0⟩ := h0
  obtain ⟨c1, z1⟩ := h1
  cases b
  · go_enter Try.func10, Try.ntmps10
    go_wp2
    go_ret
    exact ⟨rfl, rfl⟩
  · go_enter Try.func10, Try.ntmps10
    go_wp2
    go_ret
    exact ⟨rfl, rfl⟩

set_option maxHeartbeats 400000 in
theorem cl_raise (g : Nat) (m n : Int) (r : List Value) (w : World) (h : ClampC w g m r) :
    Calls Try.prog 9 #[.pointer (some ⟨g, 0, none⟩), .int .i64 n] w fun e w' => e = .returned (.bool (decide (m < n))) ∧ RaiseTo g m n r w w' := by
  have HC := Lib.hid h
  obtain ⟨n0, b, hat, hm⟩ := h
  have HM := Lib.hid hm
  have HA := Lib.hid hat
  have hg := hat.1
  have h0 := hat.2 0 (by simp)
  have h1 := hat.2 1 (by simp)
  simp only [List.getElem_cons_zero, List.getElem_cons_succ] at h0 h1
  obtain ⟨c0, z0⟩ := h0
  obtain ⟨c1, z1⟩ := h1
  clear hat hm
  by_cases hlt : m < n
  · go_enter Try.func9, Try.ntmps9
    go_wp2_with (go_at_call 10; refine (cl_now _ _ _ _ HC.out).mono ?_; rintro e w' ⟨rfl, rfl⟩)
    go_ret
    refine ⟨ret_bool (by simp [hlt]), ?_, ?_⟩
    · rw [if_pos hlt]
      refine ⟨n, true, ?_, rfl⟩
      have := (HA.out.set 0 (by simp) (.int .i64 n)).set 1 (by simp) (.bool true)
      simpa using this
    · exact ((Upd.refl (fun k => k = g) w).setCell (p := ⟨g, 0, none⟩) (fun _ => rfl) _).setCell (p := ⟨g, 1, none⟩) (fun _ => rfl) _
  · have hle : n ≤ m := by omega
    go_enter Try.func9, Try.ntmps9
    go_wp2_with (go_at_call 10; refine (cl_now _ _ _ _ HC.out).mono ?_; rintro e w' ⟨rfl, rfl⟩)
    go_ret
    refine ⟨ret_bool (by simp [hlt]), ?_, Upd.refl _ _⟩
    rw [if_neg (show ¬ m < n by omega)]
    exact HC.out

theorem cl_up (g : Nat) (m n : Int) (r : List Value) (w : World) (h : ClampC w g m r) (hlt : m < n) :
    Calls Try.prog 9 #[.pointer (some ⟨g, 0, none⟩), .int .i64 n] w fun e w' => e = .returned (.bool true) ∧ ClampC w' g n r ∧ Upd (fun k => k = g) w w' := by
  refine (cl_raise g m n r w h).mono ?_
  rintro e w' ⟨h1, h2, h3⟩
  rw [if_pos hlt] at h2
  simp [hlt] at h1
  exact ⟨h1, h2, h3⟩
theorem cl_stay (g : Nat) (m n : Int) (r : List Value) (w : World) (h : ClampC w g m r) (hlt : n ≤ m) :
    Calls Try.prog 9 #[.pointer (some ⟨g, 0, none⟩), .int .i64 n] w fun e w' => e = .returned (.bool false) ∧ w = w' := by
  have HC := Lib.hid h
  obtain ⟨n0, b, hat, hm⟩ := h
  have hg := hat.1
  have h0 := hat.2 0 (by simp)
  have h1 := hat.2 1 (by simp)
  simp only [List.getElem_cons_zero, List.getElem_cons_succ] at h0 h1
  obtain ⟨c0, z0⟩ := h0
  obtain ⟨c1, z1⟩ := h1
  clear hat hm
  go_enter Try.func9, Try.ntmps9
  go_wp2_with (go_at_call 10; refine (cl_now _ _ _ _ HC.out).mono ?_; rintro e w' ⟨rfl, rfl⟩)
  go_ret
  exact ⟨rfl, rfl⟩

/-- A row of numbers that is newly made. -/
theorem rowi_made (w : World) (l : List Int) (e : TypeId) (hl : l.length ≤ maxLen) (hb : ∀ x ∈ l, -9223372036854775808 ≤ x ∧ x ≤ 9223372036854775807) : RowI (w.alloc (.cells (iv l).toArray e)) .i64 (some ⟨w.heap.size, 0, none⟩) l := by
  have h := At.alloc w (iv l) e
  refine ⟨hl, fun i hi => ⟨_, 0, rfl, h.1, ?_⟩, fun x hx => by have := hb x hx; simp [Lit.wf, IntKind.min, IntKind.max, IntKind.bits, IntKind.signed]; omega⟩
  have := (h.2 i (by rw [iv_len]; exact hi)).1
  rw [Nat.zero_add, this]
  simp [iv]

def AllPost (R : List Int) (w : World) (e : Ending) (w' : World) : Prop :=
  ∃ a c, e = .returned (.slice a R.length c) ∧ RowI w' .i64 a R ∧ Below w.heap.size w w'

theorem iv_snoc' (l : List Int) (x : Int) : iv (l ++ [x]) = iv l ++ [.int .i64 x] := by simp [iv]
set_option maxHeartbeats 1000000 in
theorem cl_all (a : Option Addr) (n c : Nat) (l : List Int) (w : World) (hn : n = l.length) (hl : RowI w .i64 a l) (hb : l.length ≤ 100000) (R : List Int) (hR : rise (-9223372036854775808) l = R) :
    Calls Try.prog 12 #[.slice a n c] w (AllPost R w) := by
  subst hn
  subst hR
  have hcl0 := ClampC.made w [] 25
  have hbel0 : Below w.heap.size w (w.alloc (.cells #[.int .i64 0, .bool false] 25)) := (Below.refl _ _).alloc (Nat.le_refl _) _
  obtain ⟨i0, hi0, hz0, hz1, hz2⟩ := info_parts info_int
  go_enter Try.func12, Try.ntmps12
  go_wp2
  go_loopw [4, 9] (fun v i wr => ∃ k : Nat, k ≤ l.length ∧ i = .int .i64 k ∧ Sl (w.heap.size + 1) wr 1 v (rise (-9223372036854775808) (l.take k)).length (iv (rise (-9223372036854775808) (l.take k))) ∧ ClampC wr w.heap.size (most (-9223372036854775808) (l.take k)) [] ∧ Below w.heap.size w wr) (fun _ i _ => l.length - (intOf i).toNat)
  case atStart => exact ⟨0, Nat.zero_le _, rfl, Sl.nil _ _ _, hcl0, hbel0⟩
  case round =>
    obtain ⟨k, hk, rfl, hs, hcl, hbw⟩ := hrel
    have hw1 : w.heap.size < _ := hcl.lt
    by_cases hlt : k < l.length
    · obtain ⟨b, off, rfl, hb', hc⟩ := (hl.below hbw).at_ k hlt
      have HT := Lib.hid (most_take l (-9223372036854775808) k hlt)
      have HR := Lib.hid (rise_take l (-9223372036854775808) k hlt)
      have hrl := rise_len (l.take k) (-9223372036854775808)
      rw [List.length_take] at hrl
      generalize l[k] = x at *
      generalize most (-9223372036854775808) (l.take k) = m at *
      generalize rise (-9223372036854775808) (l.take k) = R at *
      by_cases hx : m < x
      · go_wp2_with (first | (go_at_call 9; refine (cl_raise _ m x _ _ hcl).mono ?_; rintro e w2 ⟨rfl, hc2, hu2⟩; rw [if_pos hx] at hc2; have hs2 := hs.upd hu2 (fun k hk => by have := (hs.lt k hk).1; omega); have hb2 := hbw.upd hu2 hbw.size (fun i _ e => by omega)) | (at_builtin; refine wpList_append_sl _ rfl (.tmp 15) (.tmp 17) 22 22 rfl 3 i0 (.int .i64 0) 8 Try.underlying22 hi0 hz0 hz1 hz2 rfl rfl (hs2.alloc _) _ 1 [.int .i64 x] rfl (src_oneN Try.underlying22 _ (.int .i64 x) _ _ (by simp) rfl) (by unfold maxLen; omega) (by omega) (by have := hc2.lt; simp; omega) ?_; intro v1 w1 k1 k2 k3))
        go_roundw
        case rel =>
          refine ⟨k + 1, by omega, by go_num, ?_, ?_, ?_⟩
          · rw [HR.out, if_pos hx, List.length_append, iv_snoc']
            exact k1
          · rw [HT.out, if_pos hx]
            exact (hc2.alloc _).upd k2 (fun hk => by have := (hs.lt _ hk).1; omega)
          · exact (hb2.alloc hb2.size _).upd k2 (by have := hb2.size; simp; omega) (fun i _ h => by have := (hs.lt i h).1; omega)
        case measure => simp [intOf]; omega
      · go_wp2_with (go_at_call 9; refine (cl_raise _ m x _ _ hcl).mono ?_; rintro e w2 ⟨rfl, hc2, hu2⟩; rw [if_neg (show ¬ m < x by omega)] at hc2; have hs2 := hs.upd hu2 (fun k hk => by have := (hs.lt k hk).1; omega); have hb2 := hbw.upd hu2 hbw.size (fun i _ e => by omega))
        go_roundw
        case rel =>
          refine ⟨k + 1, by omega, by go_num, ?_, ?_, hb2⟩
          · rw [HR.out, if_neg (show ¬ m < x by omega), List.append_nil]
            exact hs2
          · rw [HT.out, if_neg (show ¬ m < x by omega)]
            exact hc2
        case measure => simp [intOf]; omega
    · obtain rfl : k = l.length := by omega
      have hall : l.take l.length = l := List.take_of_length_le (Nat.le_refl _)
      rw [hall] at hs
      obtain ⟨hk2, a1, c1, hv, hrow⟩ := rowi_of_sl hs (fun x hx => by
        obtain ⟨i, hi, rfl⟩ := List.mem_iff_getElem.1 (rise_mem _ _ x hx)
        exact hl.bound i hi)
      subst hv
      clear hall hk2
      go_wp2
      go_ret
      exact ⟨a1, c1, rfl, hrow, hbw⟩
end Go.Proofs.Ytlinkbflampanaa
