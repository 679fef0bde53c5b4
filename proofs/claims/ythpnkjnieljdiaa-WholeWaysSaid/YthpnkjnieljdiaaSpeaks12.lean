/- Layer 12's statements' first call. -/
import Derived.Test.YthpnkjnieljdiaaPerNext
namespace Go.Proofs.Ythpnkjnieljdiaa
open Go.ChangeShapes Go.WideShapes Go.ChangeAt Go.RowKit
open PHist PRing PSat PClamp PBound
set_option linter.unusedVariables false
set_option linter.unusedSimpArgs false

theorem three_now : nowTo 100 2 [10, 8, 11] 3 = 9 := by decide +kernel
theorem three_lag : pick (kept 2 (([10, 8, 11] : List Int).take 3)) 100 = 2 := by decide +kernel

set_option maxHeartbeats 1000000 in
theorem speaks12 (w : World) : Calls Try.prog 15 #[] w fun e w' => e = .returned (.bool true) ∧ Below w.heap.size w w' := by
  obtain ⟨l, hl⟩ : ∃ l : List Int, l = [10, 8, 11] := ⟨_, rfl⟩
  have HLL := Lib.hid hl
  have hlen : l.length = 3 := by rw [hl]; rfl
  have hbd : ∀ x ∈ l, -9223372036854775808 ≤ x ∧ x ≤ 9223372036854775807 := by rw [hl]; intro x hx; simp at hx; omega
  have hnow : nowTo 100 2 l 3 = 9 := by rw [hl]; exact three_now
  have hlag : pick (kept 2 (l.take 3)) 100 = 2 := by rw [hl]; exact three_lag
  have HBD := Lib.hid hbd
  have HN0 := fun S g w' (h : PerAt w' S g 100 2 l 0) => Lib.hid (pc_at_now S g 100 2 l 0 w' h)
  have HL0 := fun S g w' (h : PerAt w' S g 100 2 l 0) => Lib.hid (pc_at_lag S g 100 2 l 0 w' h (by omega) (by omega))
  have HN3 := fun S g w' (h : PerAt w' S g 100 2 l 3) => Lib.hid (pc_at_now S g 100 2 l 3 w' h)
  have HL3 := fun S g w' (h : PerAt w' S g 100 2 l 3) => Lib.hid (pc_at_lag S g 100 2 l 3 w' h (by omega) (by omega))
  have e0 : pick (kept 2 (l.take 0)) 100 = 0 := by simp [pick, kept, lagsAll, lagsOf, last, srt]
  rw [e0] at HL0
  rw [hlag] at HL3
  rw [hnow] at HN3
  rw [show nowTo 100 2 l 0 = -9223372036854775808 from rfl] at HN0
  have HSN := fun S g w' k (hk : k < 3) (h : PerAt w' S g 100 2 l k) => Lib.hid (pc_next S g 100 2 l k (by omega) HBD.out 0 ⟨#[]⟩ w' h (by omega) (by omega) (by omega))
  have HPN := Lib.hid (pc_new 100 2 2 rfl (by omega) (by omega) w)
  clear hl hnow hlag hbd e0
  go_enter Try.func15, Try.ntmps15
  go_wp2_with (go_at_call 16; refine HPN.out.mono ?_; rintro e w1 ⟨g, S1, rfl, hp1, hS1, hb1⟩; have hp1 := perAt_zero l hp1)
  go_wp2_with (first | (go_at_call 13; refine (HN0 S1 g _ hp1).out.mono ?_; rintro e w2 ⟨rfl, rfl⟩) | (go_at_call 18; refine (HL0 S1 g _ hp1).out.mono ?_; rintro e w3 ⟨rfl, hb3⟩; have hp3 := hp1.on hb3; have hbw3 := on_below hb1 hb3))
  have hrow : RowI (w3.alloc (.cells #[.int .i64 10, .int .i64 8, .int .i64 11] 3)) .i64 (some ⟨w3.heap.size, 0, none⟩) l := by
    rw [HLL.out]
    exact rowi_made w3 [10, 8, 11] 3 (by decide) (by intro x hx; simp at hx; omega)
  have hp4 := hp3.alloc (.cells #[.int .i64 10, .int .i64 8, .int .i64 11] 3)
  have hbw4 := hbw3.alloc hbw3.size (.cells #[.int .i64 10, .int .i64 8, .int .i64 11] 3)
  have hszA : (w3.alloc (.cells #[.int .i64 10, .int .i64 8, .int .i64 11] 3)).heap.size = w3.heap.size + 1 := by simp
  have hlt3 := hp3.lt
  have HLT := Lib.hid hlt3
  have HS1 := Lib.hid hS1
  generalize w3.alloc (.cells #[.int .i64 10, .int .i64 8, .int .i64 11] 3) = w4 at *
  have HSA := Lib.hid hszA
  clear hszA hlt3 hS1
  go_loopw [21] (fun i wr => ∃ (k : Nat) (S : Nat → Prop), k ≤ 3 ∧ i = .int .i64 k ∧ PerAt wr S g 100 2 l k ∧ (∀ q, S q → S1 q ∨ w4.heap.size ≤ q) ∧ RowI wr .i64 (some ⟨w3.heap.size, 0, none⟩) l ∧ Below w.heap.size w wr ∧ w4.heap.size ≤ wr.heap.size) (fun i _ => 3 - (intOf i).toNat)
  case atStart => exact ⟨0, S1, Nat.zero_le _, rfl, hp4, fun q hq => .inl hq, hrow, hbw4, Nat.le_refl _⟩
  case round =>
    obtain ⟨k, S, hk, rfl, hpk, hS, hrk, hbk, hsk⟩ := hrel
    by_cases hlt : k < 3
    · obtain ⟨b, off, hbo, hb', hc⟩ := hrk.at_ k (by omega)
      cases hbo
      rw [Nat.zero_add] at hc
      have HSK := HSN S g _ k hlt hpk
      have HS := Lib.hid hS
      have HRK := Lib.hid hrk
      have HPK := Lib.hid hpk
      clear hS hrk hpk
      generalize l[k] = x at *
      go_wp2_with (go_at_call 17; refine HSK.out.mono ?_; rintro e w5 ⟨rfl, hp5⟩)
      obtain ⟨S5, hp5, hS5, hb5, hu5, hs5⟩ := hp5.below hbk hbk.size (fun q hq => (HS.out q hq).elim (HS1.out q) (fun h => by have := HSA.out; have := hb1.size; have := hb3.size; omega))
      go_roundw
      case rel =>
        refine ⟨k + 1, S5, by omega, by go_num, hp5, fun q hq => ?_, HRK.out.upd hu5 (fun p hp hSq => ?_), hb5, Nat.le_trans hsk hu5.size⟩
        · rcases hs5 q hq with h | h
          · exact HS.out q h
          · exact .inr (Nat.le_trans hsk h)
        · cases hp
          rcases HS.out _ hSq with h | h
          · exact Nat.lt_irrefl _ (HLT.out _ h)
          · have := HSA.out; simp only at h; omega
      case measure => simp [intOf]; omega
    · obtain rfl : k = 3 := by omega
      go_wp2_with (first | (go_at_call 18; refine (HL3 S g _ hpk).out.mono ?_; rintro e w6 ⟨rfl, hb6⟩; have hp6 := hpk.on hb6) | (go_at_call 13; refine (HN3 S g _ hp6).out.mono ?_; rintro e w7 ⟨rfl, rfl⟩))
      go_ret
      exact ⟨rfl, on_below hbk hb6⟩
end Go.Proofs.Ythpnkjnieljdiaa
