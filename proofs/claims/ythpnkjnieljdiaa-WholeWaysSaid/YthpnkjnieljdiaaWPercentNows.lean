/- The walk of PercentNows. -/
import Derived.Test.YthpnkjnieljdiaaSpeaks12
namespace Go.Proofs.Ythpnkjnieljdiaa
open Go.ChangeShapes Go.WideShapes Go.ChangeAt Go.RowKit
open PHist PRing PSat PClamp PBound
set_option linter.unusedVariables false
set_option linter.unusedSimpArgs false

theorem rem_of {a : Int} (h : 0 ≤ a) (n : Nat) (hn : 0 < n) : ∃ k : Nat, a.tmod n = (k : Int) ∧ k < n := by
  rw [Int.tmod_eq_emod_of_nonneg h]
  have h1 := Int.emod_nonneg a (show (n : Int) ≠ 0 by omega)
  have h2 := Int.emod_lt_of_pos a (show (0 : Int) < n by omega)
  exact ⟨(a % n).toNat, by omega, by omega⟩

set_option maxHeartbeats 4000000 in
theorem walk_PercentNows (w : World) (a0 : Int) (w0 : (Lit.int .u8 a0).wf = true) (a1 : Int) (w1 : (Lit.int .u8 a1).wf = true) (a2 : Option Addr) (n2 c2 : Nat) (l2 : List Int) (w2 : Rd w (.sl (.int .i64)) [.slice a2 n2 c2] l2) :
    Calls Try.prog 5 #[.int .u8 a0, .int .u8 a1, .slice a2 n2 c2] w fun e w' => e = .returned (.bool true) ∧ Below w.heap.size w w' := by
  have hcap := w2.capI
  obtain ⟨rfl, hl⟩ := w2.ints
  clear w2
  have hb0 := bounds_u8 w0
  have hb1 := bounds_u8 w1
  clear w0 w1
  by_cases hbig : 40 < l2.length
  · go_enter Try.func5, Try.ntmps5
    go_wp2_with (go_at_call 15; refine (speaks12 _).mono ?_; rintro e w2 ⟨rfl, hb2⟩)
    go_ret
    exact ⟨rfl, hb2⟩
  have hsm : l2.length ≤ 40 := by omega
  obtain ⟨p, hpe, hp⟩ : ∃ k : Nat, a0.tmod 101 = (k : Int) ∧ k < 101 := rem_of hb0.1 101 (by omega)
  obtain ⟨q, hqe, hq⟩ : ∃ k : Nat, a1.tmod 50 = (k : Int) ∧ k < 50 := rem_of hb1.1 50 (by omega)
  have hpe2 : a0 % 101 = (p : Int) := by rw [← hpe, Int.tmod_eq_emod_of_nonneg hb0.1]
  have hqe2 : a1 % 50 = (q : Int) := by rw [← hqe, Int.tmod_eq_emod_of_nonneg hb1.1]
  have hbd : ∀ x ∈ l2, -9223372036854775808 ≤ x ∧ x ≤ 9223372036854775807 := fun x hx => by
    obtain ⟨i, hi, rfl⟩ := List.mem_iff_getElem.1 hx
    exact hl.bound i hi
  have HBD := Lib.hid hbd
  clear hbd hbig
  have HPN := fun w' => Lib.hid (pc_new p (1 + (q : Int)) (1 + q) (by omega) (by omega) (by omega) w')
  go_enter Try.func5, Try.ntmps5
  go_wp2_with (go_at_call 15; refine (speaks12 _).mono ?_; rintro e w2 ⟨rfl, hb2⟩)
  go_wp2_with (go_at_call 16; refine (HPN _).out.mono ?_; rintro e w3 ⟨g, S1, rfl, hp1, hS1, hb3⟩; have hp1 := perAt_zero l2 hp1; have hbw3 := on_below hb2 hb3)
  have hS1 : ∀ k, S1 k → w.heap.size ≤ k := fun k hk => Nat.le_trans hb2.size (hS1 k hk)
  clear HPN hpe hpe2 hqe hqe2 hb0 hb1
  go_loopw [29] (fun i wr => ∃ (k : Nat) (S : Nat → Prop), k ≤ l2.length ∧ i = .int .i64 k ∧ PerAt wr S g p (1 + q) l2 k ∧ (∀ k, S k → w.heap.size ≤ k) ∧ Below w.heap.size w wr) (fun i _ => l2.length - (intOf i).toNat)
  case atStart => exact ⟨0, S1, Nat.zero_le _, rfl, hp1, hS1, hbw3⟩
  case round =>
    obtain ⟨k, S, hk, rfl, hpk, hS, hbk⟩ := hrel
    by_cases hlt : k < l2.length
    · obtain ⟨b, off, rfl, hb', hc⟩ := (hl.below hbk).at_ k hlt
      have HSN := Lib.hid (pc_next S g p (1 + q) l2 k hlt HBD.out 1 ⟨#[]⟩ _ hpk (by omega) (by omega) (by omega))
      have HS := Lib.hid hS
      have hll : (l2.take (k + 1)).length = k + 1 := by rw [List.length_take]; omega
      have hnn : nowTo p (1 + q) (l2.take (k + 1)) (l2.take (k + 1)).length = nowTo p (1 + q) l2 (k + 1) := by rw [hll]; exact nowTo_take p (1 + q) l2 (k + 1) (k + 1) (Nat.le_refl _)
      have HRL := fun w' (h : Below w.heap.size w w') cc (hc : k + 1 ≤ cc) => Lib.hid (ref_lag (some ⟨b, off, none⟩) (k + 1) cc (l2.take (k + 1)) p (1 + q) w' hll.symm hc (row_part (hl.below h) 0 (k + 1) off (by omega) (by omega) (l2.take (k + 1)) (by simp)) (by omega) (by omega) (by omega) _ rfl)
      have HRN := fun w' (h : Below w.heap.size w w') cc (hc : k + 1 ≤ cc) => Lib.hid (ref_now12 b off (k + 1) cc (l2.take (k + 1)) p (1 + q) w' hll.symm hc (row_part (hl.below h) 0 (k + 1) off (by omega) (by omega) (l2.take (k + 1)) (by simp)) (by omega) (by omega) (by omega) _ hnn)
      have HLG := fun S w' (h : PerAt w' S g p (1 + q) l2 (k + 1)) => Lib.hid (pc_at_lag S g p (1 + q) l2 (k + 1) w' h (by omega) (by omega))
      have HNW := fun S w' (h : PerAt w' S g p (1 + q) l2 (k + 1)) => Lib.hid (pc_at_now S g p (1 + q) l2 (k + 1) w' h)
      have hqI : ((1 + q : Nat) : Int) = 1 + (q : Int) := by omega
      rw [hqI] at HRL HRN
      clear hll hnn hqI hS hpk
      have hin1 : (k : Int) + 1 ≤ (l2.length : Int) := by omega
      have hic : (k : Int) + 1 ≤ (c2 : Int) := by omega
      have hkc : k + 1 ≤ c2 := by omega
      have htn : ((k : Int) + 1).toNat = k + 1 := by omega
      have h0 : (0 : Int) ≤ (k : Int) + 1 := by omega
      have hwr : IntKind.i64.wrap ((k : Int) + 1) = (k : Int) + 1 := by rw [IntKind.wrap_i64]; omega
      generalize l2[k] = x at *
      generalize pick (kept (1 + q) (l2.take (k + 1))) p = z at *
      generalize nowTo p (1 + q) l2 (k + 1) = nw at *
      have hzz : (z != z) = false := by simp
      have hnw : (nw != nw) = false := by simp
      go_wp2_with (go_at_call 17; refine HSN.out.mono ?_; rintro e w5 ⟨rfl, hp5⟩)
      obtain ⟨S5, hp5, hS5, hb5, _, _⟩ := hp5.below hbk hbk.size HS.out
      clear hc hb'
      go_wp2
      go_region_held3 (fun _ => True) (exact trivial) (first | (go_at_call 18; first | (refine (HLG S5 _ hp5.drew).out.mono ?_; rintro e w6 ⟨rfl, hb6⟩; have hp6 := hp5.drew.on hb6; have hbw6 := on_below hb5.drew hb6) | (refine (HLG S5 _ (hp5.drew.on hb7)).out.mono ?_; rintro e w6 ⟨rfl, hb6⟩; have hp6 := (hp5.drew.on hb7).on hb6; have hbw6 := on_below hbw7 hb6)) | (go_at_call 19; first | (refine (HRL _ hb5.drew _ hkc).out.mono ?_; rintro e w7 ⟨rfl, hb7⟩; have hbw7 := on_below hb5.drew hb7) | (refine (HRL _ hbw6 _ hkc).out.mono ?_; rintro e w7 ⟨rfl, hb7⟩; have hbw7 := on_below hbw6 hb7; have hp7 := hp6.on hb7)) | (go_at_call 13; first | (refine (HNW S5 _ hp7).out.mono ?_; rintro e w9 ⟨rfl, rfl⟩) | (refine (HNW S5 _ hp6).out.mono ?_; rintro e w9 ⟨rfl, rfl⟩) | (refine (HNW S5 _ hp8).out.mono ?_; rintro e w9 ⟨rfl, rfl⟩)) | (go_at_call 20; first | (refine (HRN _ hbw7 _ hkc).out.mono ?_; rintro e w8 ⟨rfl, hb8⟩; have hp8 := hp7.on hb8; have hbw8 := on_below hbw7 hb8) | (refine (HRN _ hbw6 _ hkc).out.mono ?_; rintro e w8 ⟨rfl, hb8⟩; have hp8 := hp6.on hb8; have hbw8 := on_below hbw6 hb8)))
      all_goals go_wp2
      all_goals go_roundw
      all_goals first
        | exact ⟨k + 1, S5, by omega, by go_num, hp8, hS5, hbw8⟩
        | (simp [intOf]; omega)
    · obtain rfl : k = l2.length := by omega
      go_wp2
      go_ret
      exact ⟨rfl, hbk⟩
end Go.Proofs.Ythpnkjnieljdiaa
