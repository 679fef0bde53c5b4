/- The walk of the law ChoiceRounds. -/
import Derived.Test.YtfgfjofbghfdpaaDoorSpeaks20
namespace Go.Proofs.YtfgfjofbghfdpaaDoor
set_option maxRecDepth 4000
open Go.ChangeShapes Go.WideShapes Go.ChangeAt Go.RowKit
open PWord
set_option linter.unusedVariables false
set_option linter.unusedSimpArgs false

set_option maxRecDepth 100000 in
set_option maxHeartbeats 2000000 in
theorem rounds_more (w : World) (he : EnvW w) (a0 a1 : Int) (h : 100 < a0 ∨ 100 < a1) :
    Calls Tryd.prog 9 #[.int .i64 a0, .int .i64 a1] w fun e w' => e = .returned (.bool true) ∧ Below w.heap.size w w' := by
  have HSP := Lib.hid (speaks20 w he)
  by_cases h1 : 100 < a0
  · clear h
    go_enter Tryd.func9, Tryd.ntmps9
    go_wp2_with (first | (go_at_call 25; refine HSP.out.mono ?_; rintro e w1 ⟨rfl, hb1⟩))
    go_ret
    exact ⟨rfl, hb1⟩
  · have h2 : 100 < a1 := by omega
    clear h
    go_enter Tryd.func9, Tryd.ntmps9
    go_wp2_with (first | (go_at_call 25; refine HSP.out.mono ?_; rintro e w1 ⟨rfl, hb1⟩))
    go_ret
    exact ⟨rfl, hb1⟩
set_option maxRecDepth 100000 in
set_option maxHeartbeats 2000000 in
theorem rounds_none (w : World) (he : EnvW w) (a0 a1 : Int) (b0 : -9223372036854775808 ≤ a0) (b1 : -9223372036854775808 ≤ a1) (h0 : a0 ≤ 100) (h1 : a1 ≤ 100) (h : a0 < 1 ∨ a1 < 1) :
    Calls Tryd.prog 9 #[.int .i64 a0, .int .i64 a1] w fun e w' => e = .returned (.bool true) ∧ Below w.heap.size w w' := by
  have HSP := Lib.hid (speaks20 w he)
  have HR := Lib.hid (fun w => ch_round_none a0 a1 w h0 h1 h)
  obtain ⟨x, hx⟩ : ∃ x : Int, max a0 0 = x := ⟨_, rfl⟩
  obtain ⟨y, hy⟩ : ∃ y : Int, max a1 0 = y := ⟨_, rfl⟩
  have hxy : x * y = 0 := by
    rcases h with h | h
    · have : x = 0 := by omega
      rw [this, Int.zero_mul]
    · have : y = 0 := by omega
      rw [this, Int.mul_zero]
  have h0' : ¬ 100 < a0 := by omega
  have h1' : ¬ 100 < a1 := by omega
  clear h
  go_enter Tryd.func9, Tryd.ntmps9
  go_wp2_with (first | (go_at_call 25; refine HSP.out.mono ?_; rintro e w1 ⟨rfl, hb1⟩) | (go_at_call 33; (with_reducible refine (HR.out _).mono ?_); rintro e w2 ⟨rfl, hb2⟩))
  go_loopw [29] (fun i wr => i = .int .i64 0 ∧ Below w.heap.size w wr) (fun _ _ => 0)
  case atStart => exact ⟨rfl, on_below hb1 hb2⟩
  case round =>
    obtain ⟨rfl, hb⟩ := hrel
    go_wp2
    go_ret
    exact ⟨rfl, hb⟩

set_option maxRecDepth 100000 in
set_option maxHeartbeats 4000000 in
theorem rounds_some (w : World) (he : EnvW w) (P R : Nat) (hP : 1 ≤ P) (hP2 : P ≤ 100) (hR : 1 ≤ R) (hR2 : R ≤ 100) :
    Calls Tryd.prog 9 #[.int .i64 P, .int .i64 R] w fun e w' => e = .returned (.bool true) ∧ Below w.heap.size w w' := by
  have HSP := Lib.hid (speaks20 w he)
  have HR := Lib.hid (fun w => ch_round P R hP hP2 hR hR2 w)
  have hM2 : R * P ≤ 10000 := Nat.le_trans (Nat.mul_le_mul_right P hR2) (by omega)
  obtain ⟨M, hM⟩ : ∃ M, R * P = M := ⟨_, rfl⟩
  have hMI : (P : Int) * (R : Int) = (M : Int) := by rw [← hM, Int.natCast_mul, Int.mul_comm]
  rw [hM] at hM2 HR
  have hx : max (P : Int) 0 = (P : Int) := by omega
  have hy : max (R : Int) 0 = (R : Int) := by omega
  have h0' : ¬ (100 : Int) < P := by omega
  have h1' : ¬ (100 : Int) < R := by omega
  have hP0 : ¬ (P : Int) = 0 := by omega
  clear hM
  go_enter Tryd.func9, Tryd.ntmps9
  go_wp2_with (first | (go_at_call 25; refine HSP.out.mono ?_; rintro e w1 ⟨rfl, hb1⟩) | (go_at_call 33; (with_reducible refine (HR.out _).mono ?_); rintro e w2 ⟨v2, rfl, hs2, hb2⟩; obtain ⟨a2, c2, rfl⟩ := hs2.shape; have hb3 := on_below hb1 hb2))
  have hs3 := hs2.base (B' := w.heap.size) hb1.size
  clear hs2 HR HSP
  go_loopw [29] (fun i wr => ∃ k : Nat, k ≤ M ∧ i = .int .i64 k ∧ Sl w.heap.size wr 2 (.slice a2 M c2) M (rnd P M) ∧ Below w.heap.size w wr) (fun i _ => M - (intOf i).toNat)
  case atStart => exact ⟨0, Nat.zero_le _, rfl, hs3, hb3⟩
  case round =>
    clear hs3 hb3
    obtain ⟨k, hk, rfl, hs, hb⟩ := hrel
    by_cases hlt : k < M
    · obtain ⟨g, off, cap, hv, hg1, hg2, hc⟩ := hs.at_ (by omega)
      cases hv
      have q0 := hc (k * 2) (by omega)
      have q1 := hc (k * 2 + 1) (by omega)
      obtain ⟨r0, r1⟩ := rnd_at P M k hlt
      rw [r0] at q0
      rw [r1, ← Nat.add_assoc] at q1
      have hm : (k : Int).tmod (P : Int) = ((k % P : Nat) : Int) := by rw [Int.tmod_eq_emod_of_nonneg (by omega)]; rfl
      have hm2 : (k : Int) % (P : Int) = ((k % P : Nat) : Int) := rfl
      have hmb : k % P < 1000000 := Nat.lt_of_lt_of_le (Nat.mod_lt _ (by omega)) (by omega)
      generalize k % P = m at *
      have hbx := hb.alloc hb.size (.cells #[.bool false, .int .i64 m] 50)
      have hsx := hs.alloc (.cells #[.bool false, .int .i64 m] 50)
      clear hc r0 r1
      go_wp2
      go_region
      go_wp2
      go_roundw
      case rel => exact ⟨k + 1, by omega, by go_num, hsx.upd (S := fun _ => False) (Upd.refl _ _).drew (fun _ _ h => h), hbx.drew⟩
      case measure => simp [intOf]; omega
    · have hkM : k = M := by omega
      subst hkM
      go_wp2
      go_ret
      exact ⟨rfl, hb⟩

theorem walk_ChoiceRounds (w : World) (he : EnvW w) (a0 : Int) (w0 : (Lit.int .i64 a0).wf = true) (a1 : Int) (w1 : (Lit.int .i64 a1).wf = true) :
    Calls Tryd.prog 9 #[.int .i64 a0, .int .i64 a1] w fun e w' => e = .returned (.bool true) ∧ Below w.heap.size w w' := by
  have b0 := bounds_i64 w0
  have b1 := bounds_i64 w1
  by_cases h : 100 < a0 ∨ 100 < a1
  · exact rounds_more w he a0 a1 h
  by_cases h2 : a0 < 1 ∨ a1 < 1
  · exact rounds_none w he a0 a1 b0.1 b1.1 (by omega) (by omega) h2
  obtain ⟨P, rfl⟩ : ∃ P : Nat, a0 = P := ⟨a0.toNat, by omega⟩
  obtain ⟨R, rfl⟩ : ∃ R : Nat, a1 = R := ⟨a1.toNat, by omega⟩
  exact rounds_some w he P R (by omega) (by omega) (by omega) (by omega)
end Go.Proofs.YtfgfjofbghfdpaaDoor
