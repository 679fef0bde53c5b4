/- The walk of PercentWide. -/
import Derived.Test.YthpnkjnieljdiaaWPercentNows
namespace Go.Proofs.Ythpnkjnieljdiaa
open Go.ChangeShapes Go.WideShapes Go.ChangeAt Go.RowKit
open PHist PRing PSat PClamp PBound
set_option linter.unusedVariables false
set_option linter.unusedSimpArgs false

theorem now_up (p w : Nat) (l : List Int) (k : Nat) : nowTo p w l k ≤ nowTo p w l (k + 1) := by
  show _ ≤ if _ then _ else _
  split <;> omega
theorem now_wide (w : Nat) (l : List Int) {p q : Nat} (h : p ≤ q) (hq : q ≤ 100) : ∀ k, nowTo q w l k ≤ nowTo p w l k
  | 0 => Int.le_refl _
  | k + 1 => by
    have h1 := now_wide w l h hq k
    have h2 := after_anti (most (-9223372036854775808) (l.take (k + 1))) (pick_mono (kept w (l.take (k + 1))) h hq)
    show (if _ then _ else _) ≤ if _ then _ else _
    split <;> split <;> omega

set_option maxHeartbeats 8000000 in
theorem walk_PercentWide (w : World) (a0 : Option Addr) (n0 c0 : Nat) (l0 : List Int) (w0 : Rd w (.sl (.int .i64)) [.slice a0 n0 c0] l0) (a1 : Int) (w1 : (Lit.int .u8 a1).wf = true) :
    Calls Try.prog 6 #[.slice a0 n0 c0, .int .u8 a1] w fun e w' => e = .returned (.bool true) ∧ Below w.heap.size w w' := by
  have hcap := w0.capI
  obtain ⟨rfl, hl⟩ := w0.ints
  clear w0
  have hb1 := bounds_u8 w1
  clear w1
  by_cases hbig : 60 < l0.length
  · go_enter Try.func6, Try.ntmps6
    go_wp2_with (go_at_call 15; refine (speaks12 _).mono ?_; rintro e w2 ⟨rfl, hb2⟩)
    go_ret
    exact ⟨rfl, hb2⟩
  have hsm : l0.length ≤ 60 := by omega
  obtain ⟨p, hpe, hp⟩ : ∃ k : Nat, a1.tmod 101 = (k : Int) ∧ k < 101 := rem_of hb1.1 101 (by omega)
  have hpe2 : a1 % 101 = (p : Int) := by rw [← hpe, Int.tmod_eq_emod_of_nonneg hb1.1]
  have hbd : ∀ x ∈ l0, -9223372036854775808 ≤ x ∧ x ≤ 9223372036854775807 := fun x hx => by
    obtain ⟨i, hi, rfl⟩ := List.mem_iff_getElem.1 hx
    exact hl.bound i hi
  have HBD := Lib.hid hbd
  clear hbd hbig
  have HPN := fun w' => Lib.hid (pc_new 100 60 60 rfl (by omega) (by omega) w')
  have HPF := fun w' => Lib.hid (pc_new p 60 60 rfl (by omega) (by omega) w')
  go_enter Try.func6, Try.ntmps6
  go_wp2_with (go_at_call 15; refine (speaks12 _).mono ?_; rintro e w2 ⟨rfl, hb2⟩)
  go_wp2_with (first | (go_at_call 16; (with_reducible refine (HPN _).out.mono ?_); rintro e w3 ⟨g, S1, rfl, hp1, hS1, hb3⟩; have hp1 := perAt_zero l0 hp1; have hbw3 := on_below hb2 hb3) | (go_at_call 16; (with_reducible refine (HPF _).out.mono ?_); rintro e w4 ⟨h, T1, rfl, hf1, hT1, hb4⟩; have hf1 := perAt_zero l0 hf1; have hbw4 := on_below hbw3 hb4))
  have hdis : ∀ k, S1 k → ¬ T1 k := fun k hk ht => by have := hT1 k ht; have := hp1.lt k hk; omega
  have hp1 := hp1.on hb4
  have hS1 : ∀ k, S1 k → w.heap.size ≤ k := fun k hk => Nat.le_trans hb2.size (hS1 k hk)
  have hT1 : ∀ k, T1 k → w.heap.size ≤ k := fun k hk => Nat.le_trans hbw3.size (hT1 k hk)
  clear HPN HPF hpe hpe2 hb1
  go_loopw [7, 22] (fun z i wr => ∃ (k : Nat) (S T : Nat → Prop), k ≤ l0.length ∧ i = .int .i64 k ∧ z = .int .i64 (nowTo 100 60 l0 k) ∧ PerAt wr S g 100 60 l0 k ∧ PerAt wr T h p 60 l0 k ∧ (∀ k, S k → ¬ T k) ∧ (∀ k, S k → w.heap.size ≤ k) ∧ (∀ k, T k → w.heap.size ≤ k) ∧ Below w.heap.size w wr) (fun _ i _ => l0.length - (intOf i).toNat)
  case atStart => exact ⟨0, S1, T1, Nat.zero_le _, rfl, rfl, hp1, hf1, hdis, hS1, hT1, hbw4⟩
  case round =>
    obtain ⟨k, S, T, hk, rfl, rfl, hpk, hfk, hdk, hS, hT, hbk⟩ := hrel
    by_cases hlt : k < l0.length
    · obtain ⟨b, off, rfl, hb', hc⟩ := (hl.below hbk).at_ k hlt
      have HSN := Lib.hid (pc_next S g 100 60 l0 k hlt HBD.out 0 ⟨#[]⟩ _ hpk (by omega) (by omega) (by omega))
      have HSF := fun w' hf => Lib.hid (pc_next T h p 60 l0 k hlt HBD.out 0 ⟨#[]⟩ w' hf (by omega) (by omega) (by omega))
      have HS := Lib.hid hS
      have HT := Lib.hid hT
      have HD := Lib.hid hdk
      have HLG := fun S w' (h : PerAt w' S g 100 60 l0 (k + 1)) => Lib.hid (pc_at_lag S g 100 60 l0 (k + 1) w' h (by omega) (by omega))
      have HNW := fun S w' (h : PerAt w' S g 100 60 l0 (k + 1)) => Lib.hid (pc_at_now S g 100 60 l0 (k + 1) w' h)
      have HLF := fun S w' (hf : PerAt w' S h p 60 l0 (k + 1)) => Lib.hid (pc_at_lag S h p 60 l0 (k + 1) w' hf (by omega) (by omega))
      have HNF := fun S w' (hf : PerAt w' S h p 60 l0 (k + 1)) => Lib.hid (pc_at_now S h p 60 l0 (k + 1) w' hf)
      have t1 : ¬ nowTo 100 60 l0 (k + 1) < nowTo 100 60 l0 k := by have := now_up 100 60 l0 k; omega
      have t2 : ¬ pick (kept 60 (l0.take (k + 1))) 100 < pick (kept 60 (l0.take (k + 1))) p := by have := pick_mono (kept 60 (l0.take (k + 1))) (show p ≤ 100 by omega) (by omega); omega
      have t3 : ¬ nowTo p 60 l0 (k + 1) < nowTo 100 60 l0 (k + 1) := by have := now_wide 60 l0 (show p ≤ 100 by omega) (by omega) (k + 1); omega
      have d1 : decide (nowTo 100 60 l0 (k + 1) < nowTo 100 60 l0 k) = false := decide_eq_false t1
      have d2 : decide (pick (kept 60 (l0.take (k + 1))) 100 < pick (kept 60 (l0.take (k + 1))) p) = false := decide_eq_false t2
      have d3 : decide (nowTo p 60 l0 (k + 1) < nowTo 100 60 l0 (k + 1)) = false := decide_eq_false t3
      generalize l0[k] = x at *
      obtain ⟨n1, hn1⟩ : ∃ n1, n1 = nowTo 100 60 l0 (k + 1) := ⟨_, rfl⟩
      rw [← hn1] at t1 t3 d1 d3 HNW
      have HN1 := Lib.hid hn1
      clear hn1 hS hT hdk
      generalize nowTo 100 60 l0 k = n0 at *
      generalize nowTo p 60 l0 (k + 1) = f1 at *
      generalize pick (kept 60 (l0.take (k + 1))) 100 = z1 at *
      generalize pick (kept 60 (l0.take (k + 1))) p = z2 at *
      go_wp2_with (go_at_call 17; (with_reducible refine HSN.out.mono ?_); rintro e w5 ⟨rfl, hp5⟩)
      obtain ⟨S5, hp5, hS5, hb5, hu5, hs5⟩ := hp5.below hbk hbk.size HS.out
      have hf5 := hfk.upd hu5 (fun k hk hs => HD.out k hs hk)
      have hd5 : ∀ k, S5 k → ¬ T k := fun k hk ht => by
        rcases hs5 k hk with h | h
        · exact HD.out k h ht
        · have := hfk.lt k ht; omega
      have HD5 := Lib.hid hd5
      have HS5 := Lib.hid hS5
      clear hd5 hS5 hs5
      go_wp2_with (go_at_call 17; (with_reducible refine (HSF _ hf5).out.mono ?_); rintro e w6 ⟨rfl, hf6⟩)
      obtain ⟨T6, hf6, hT6, hb6, hu6, ht6⟩ := hf6.below hb5 hb5.size HT.out
      have hp6 := hp5.upd hu6 (fun k hk hs => HD5.out k hk hs)
      have hd6 : ∀ k, S5 k → ¬ T6 k := fun k hk ht => by
        rcases ht6 k ht with h | h
        · exact HD5.out k hk h
        · have := hp5.lt k hk; omega
      have HD6 := Lib.hid hd6
      have HT6 := Lib.hid hT6
      clear hd6 hT6 ht6 hc hb'
      go_wp2
      go_region_held3 (fun _ => True) (exact trivial) (first | (go_at_call 18; first | ((with_reducible refine (HLF T6 _ hf6.drew).out.mono ?_); rintro e w7 ⟨rfl, hb7⟩; have hf7 := hf6.drew.on hb7; have hp7 := hp6.drew.on hb7; have hbw7 := on_below hb6.drew hb7) | ((with_reducible refine (HLG S5 _ hp6.drew).out.mono ?_); rintro e w8 ⟨rfl, hb8⟩; have hf8 := hf6.drew.on hb8; have hp8 := hp6.drew.on hb8; have hbw8 := on_below hb6.drew hb8) | ((with_reducible refine (HLG S5 _ hp7).out.mono ?_); rintro e w8 ⟨rfl, hb8⟩; have hf8 := hf7.on hb8; have hp8 := hp7.on hb8; have hbw8 := on_below hbw7 hb8) | ((with_reducible refine (HLF T6 _ hf8).out.mono ?_); rintro e w7 ⟨rfl, hb7⟩; have hf7 := hf8.on hb7; have hp7 := hp8.on hb7; have hbw7 := on_below hbw8 hb7)) | (go_at_call 13; first | ((with_reducible refine (HNW S5 _ hp6.drew).out.mono ?_); rintro e w9 ⟨rfl, rfl⟩) | ((with_reducible refine (HNW S5 _ hp8).out.mono ?_); rintro e w9 ⟨rfl, rfl⟩) | ((with_reducible refine (HNW S5 _ hp7).out.mono ?_); rintro e w9 ⟨rfl, rfl⟩) | ((with_reducible refine (HNF T6 _ hf8).out.mono ?_); rintro e w9 ⟨rfl, rfl⟩) | ((with_reducible refine (HNF T6 _ hf7).out.mono ?_); rintro e w9 ⟨rfl, rfl⟩)))
      all_goals go_wp2_with (go_at_call 13; first | ((with_reducible refine (HNW S5 _ hp8).out.mono ?_); rintro e w9 ⟨rfl, rfl⟩) | ((with_reducible refine (HNW S5 _ hp7).out.mono ?_); rintro e w9 ⟨rfl, rfl⟩))
      all_goals go_roundw
      all_goals first
        | exact ⟨k + 1, S5, T6, by omega, by go_num, by rw [HN1.out], hp8, hf8, HD6.out, HS5.out, HT6.out, hbw8⟩
        | exact ⟨k + 1, S5, T6, by omega, by go_num, by rw [HN1.out], hp7, hf7, HD6.out, HS5.out, HT6.out, hbw7⟩
        | (simp [intOf]; omega)
    · obtain rfl : k = l0.length := by omega
      go_wp2
      go_ret
      exact ⟨rfl, hbk⟩
end Go.Proofs.Ythpnkjnieljdiaa
