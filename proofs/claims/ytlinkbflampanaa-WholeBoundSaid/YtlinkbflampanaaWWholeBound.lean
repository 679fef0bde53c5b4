/- The walk of WholeBound. -/
import Derived.Test.YtlinkbflampanaaBound
import Derived.Test.YtlinkbflampanaaBoundRef
import Derived.Test.YtlinkbflampanaaTurn
import Derived.Test.YtlinkbflampanaaSpeaks10
namespace Go.Proofs.Ytlinkbflampanaa
open Go.ChangeShapes Go.WideShapes Go.ChangeAt Go.RowKit
open PSat PClamp PBound
set_option linter.unusedVariables false
set_option linter.unusedSimpArgs false

set_option maxHeartbeats 4000000 in
theorem walk_WholeBound (w : World) (a0 : Int) (w0 : (Lit.int .i64 a0).wf = true) (a1 : Option Addr) (n1 c1 : Nat) (l1 : List Int) (w1 : Rd w (.sl (.int .i64)) [.slice a1 n1 c1] l1) :
    Calls Try.prog 7 #[.int .i64 a0, .slice a1 n1 c1] w fun e w' => e = .returned (.bool true) ∧ Below w.heap.size w w' := by
  have hcap := w1.capI
  obtain ⟨rfl, hl⟩ := w1.ints
  clear w1
  have hb := bounds_i64 w0
  have e3 : after 5 1 = 3 := by simp [after, sub, clampI]
  have hcA := ClampC.made w [] 25
  have bA : Below w.heap.size w (w.alloc (.cells #[.int .i64 0, .bool false] 25)) := (Below.refl _ _).alloc (Nat.le_refl _) _
  have HN := fun b w' => Lib.hid (bo_new b w')
  have HAF := fun w' => bo_after 5 1 w' (by omega) (by omega)
  simp only [e3] at HAF
  obtain ⟨W1, hW1⟩ : ∃ W1, W1 = w.alloc (.cells #[.int .i64 0, .bool false] 25) := ⟨_, rfl⟩
  change ClampC (w.alloc (.cells #[.int .i64 0, .bool false] 25)) _ _ _ at hcA
  rw [← hW1] at hcA bA
  have hcB := hcA.alloc (.cells #[.int .i64 0, .bool false, .int .i64 0] 37)
  have hgB := ClampC.made W1 [.int .i64 0] 37
  have bB := bA.alloc bA.size (.cells #[.int .i64 0, .bool false, .int .i64 0] 37)
  change ClampC (W1.alloc (.cells #[.int .i64 0, .bool false, .int .i64 0] 37)) _ _ _ at hgB
  have HBD := Lib.hid (bo_bound _ _ 0 _ hgB)
  have HRS := Lib.hid (cl_up _ _ 1 _ _ hcB (by omega))
  have HW1 := Lib.hid hW1
  clear hgB hcB hcA bA hW1
  by_cases hneg : a0 < 0
  · go_enter Try.func7, Try.ntmps7
    go_wp2_with (go_at_call 14; rw [← HW1.out]; (with_reducible refine (HN _ _).out.mono ?_); rintro e w2 ⟨rfl, rfl⟩)
    go_wp2_with (first | (go_at_call 17; (with_reducible refine HBD.out.mono ?_); rintro e w2 ⟨rfl, rfl⟩) | (go_at_call 9; (with_reducible refine HRS.out.mono ?_); rintro e w3 ⟨rfl, hc3, hu3⟩; have b3 := bB.upd hu3 bB.size (fun i _ h => by omega)) | (go_at_call 20; refine (HAF _).mono ?_; rintro e w2 ⟨rfl, rfl⟩))
    go_ret
    exact ⟨rfl, b3⟩
  by_cases hbig : 100 < l1.length
  · go_enter Try.func7, Try.ntmps7
    go_wp2_with (go_at_call 14; rw [← HW1.out]; (with_reducible refine (HN _ _).out.mono ?_); rintro e w2 ⟨rfl, rfl⟩)
    go_wp2_with (first | (go_at_call 17; (with_reducible refine HBD.out.mono ?_); rintro e w2 ⟨rfl, rfl⟩) | (go_at_call 9; (with_reducible refine HRS.out.mono ?_); rintro e w3 ⟨rfl, hc3, hu3⟩; have b3 := bB.upd hu3 bB.size (fun i _ h => by omega)) | (go_at_call 20; refine (HAF _).mono ?_; rintro e w2 ⟨rfl, rfl⟩))
    go_ret
    exact ⟨rfl, b3⟩
  have hsm : l1.length ≤ 100 := by omega
  have hpos : 0 ≤ a0 := by omega
  clear hbig hneg w0
  have HNV := Lib.hid (after_never hpos)
  obtain ⟨i0, hi0, hz0, hz1, hz2⟩ := info_parts info_int
  have hbd : ∀ x ∈ l1, -9223372036854775808 ≤ x ∧ x ≤ 9223372036854775807 := fun x hx => by
    obtain ⟨i, hi, rfl⟩ := List.mem_iff_getElem.1 hx
    exact hl.bound i hi
  have HBDD := Lib.hid hbd
  have HCL := fun w' (h : RowI w' .i64 a1 l1) => Lib.hid (sl_clone a1 l1.length c1 l1 w' rfl h (by omega))
  have HRV := fun v w' (h : Sl w.heap.size w' 1 v l1.length (iv l1)) (h2 : w.heap.size ≤ w'.heap.size) => sl_reverse v l1 w' h hbd (by omega) h2
  clear hbd
  go_enter Try.func7, Try.ntmps7
  go_wp2_with (go_at_call 14; rw [← HW1.out]; (with_reducible refine (HN _ _).out.mono ?_); rintro e w2 ⟨rfl, rfl⟩)
  go_wp2_with (first | (go_at_call 17; (with_reducible refine HBD.out.mono ?_); rintro e w2 ⟨rfl, rfl⟩) | (go_at_call 9; (with_reducible refine HRS.out.mono ?_); rintro e w3 ⟨rfl, hc3, hu3⟩; have b3 := bB.upd hu3 bB.size (fun i _ h => by omega); have hl3 := hl.below b3) | (go_at_call 20; refine (HAF _).mono ?_; rintro e w2 ⟨rfl, rfl⟩) | (go_at_call 21; (with_reducible refine (HCL _ hl3).out.mono ?_); intro e w4 h4; obtain ⟨v4, rfl, hs4, b4'⟩ := h4; have b4 := b3.trans (b4'.mono b3.size); have hs4 := hs4.base b3.size; obtain ⟨at_, ct, rfl, hrv⟩ := HRV _ _ hs4 b4.size; have hta : ∀ p, at_ = some p → p.block < w4.heap.size := fun p hp => (hs4.lt p.block (by rw [hp]; rfl)).2; have HRVV := Lib.hid hrv; clear hrv) | (go_at_call 22; refine HRVV.out.mono ?_; intro e w5 h5; obtain ⟨rfl, hr5, b5'⟩ := h5; have b5 := b4.trans b5'; have hta5 : ∀ p, at_ = some p → p.block < w5.heap.size := fun p hp => Nat.lt_of_lt_of_le (hta p hp) b5'.size))
  obtain ⟨wb, hwb⟩ : ∃ wb, wb = (w5.alloc (.cells #[.int .i64 0, .bool false, .int .i64 a0] 37)).alloc (.cells #[.int .i64 0, .bool false, .int .i64 a0] 37) := ⟨_, rfl⟩
  have hga := (ClampC.gen w5 a0 hpos 37).alloc (.cells #[.int .i64 0, .bool false, .int .i64 a0] 37)
  have hgb := ClampC.gen (w5.alloc (.cells #[.int .i64 0, .bool false, .int .i64 a0] 37)) a0 hpos 37
  have bw : Below w5.heap.size w5 wb := by rw [hwb]; exact ((Below.refl _ _).alloc (Nat.le_refl _) _).alloc (by simp) _
  have hsz1 : (w5.alloc (.cells #[.int .i64 0, .bool false, .int .i64 a0] 37)).heap.size = w5.heap.size + 1 := by simp
  change ClampC ((w5.alloc (.cells #[.int .i64 0, .bool false, .int .i64 a0] 37)).alloc (.cells #[.int .i64 0, .bool false, .int .i64 a0] 37)) _ _ _ at hgb
  rw [← hwb] at hga hgb
  rw [hsz1] at hgb
  have bb := b5.trans (bw.mono b5.size)
  have hrb := hr5.below bw
  have HWB := Lib.hid hwb
  clear hwb hsz1
  go_wp2_with (go_at_call 14; (with_reducible refine (HN _ _).out.mono ?_); rintro e w2 ⟨rfl, rfl⟩)
  go_wp2_with (go_at_call 14; (with_reducible refine (HN _ _).out.mono ?_); rintro e w2 ⟨rfl, rfl⟩; rw [← HWB.out])
  have hszb := b5.size
  go_loopw [10, 47] (fun z i wr => ∃ k : Nat, k ≤ l1.length ∧ i = .int .i64 k ∧ Sl (w5.heap.size + 2) wr 1 z k (iv ((l1.take k).map fun t => after t a0)) ∧ ClampC wr w5.heap.size (after (most (-9223372036854775808) (l1.take k)) a0) [.int .i64 a0] ∧ ClampC wr (w5.heap.size + 1) (after (most (-9223372036854775808) (l1.reverse.take k)) a0) [.int .i64 a0] ∧ RowI wr .i64 at_ l1.reverse ∧ Below w.heap.size w wr) (fun _ i _ => l1.length - (intOf i).toNat)
  case atStart => rw [← HWB.out]; exact ⟨0, Nat.zero_le _, rfl, Sl.nil _ _ _, hga, hgb, hrb, bb⟩
  case round =>
    obtain ⟨k, hk, rfl, hs, hca, hcb, hrr, hbw⟩ := hrel
    by_cases hlt : k < l1.length
    · obtain ⟨b, off, rfl, hb', hc⟩ := (hl.below hbw).at_ k hlt
      have hltr : k < l1.reverse.length := by simpa using hlt
      obtain ⟨bt, ot, rfl, hbt', hct⟩ := hrr.at_ k hltr
      have htb := hta5 _ rfl
      simp only at htb
      have HT := Lib.hid (most_take l1 (-9223372036854775808) k hlt)
      have HTr := Lib.hid (most_take l1.reverse (-9223372036854775808) k hltr)
      have hxb := hl.bound k hlt
      have hyb := hrr.bound k hltr
      have hS : (l1.take (k + 1)).map (fun t => after t a0) = (l1.take k).map (fun t => after t a0) ++ [after l1[k] a0] := by rw [List.take_succ_eq_append_getElem hlt, List.map_append]; rfl
      have HS := Lib.hid hS
      clear hS
      have hcb1 := hbw.size
      have HC1 := fun w' (h : Below w.heap.size w w') => ((hl.below h).cell k hlt).2
      have HC2 := fun w' (h : RowI w' .i64 (some ⟨bt, ot, none⟩) l1.reverse) => (h.cell k hltr).2
      generalize l1[k] = x at *
      generalize l1.reverse[k] = y at *
      generalize most (-9223372036854775808) (l1.take k) = m at *
      generalize most (-9223372036854775808) (l1.reverse.take k) = mr at *
      have HSA := fun kd s => Lib.hid (bo_seen w5.heap.size m a0 kd x s _ hca hb hxb _ rfl)
      have HSB := fun kd s w' (h : ClampC w' (w5.heap.size + 1) (after mr a0) [.int .i64 a0]) => Lib.hid (bo_seen (w5.heap.size + 1) mr a0 kd y s w' h hb hyb _ rfl)
      have HAX := fun w' => Lib.hid (bo_after x a0 w' hxb hb)
      clear hl
      go_wp2_with (go_at_call 15; (with_reducible refine (HSA _ _).out.mono ?_); rintro e w6 ⟨rfl, hca6, hu6⟩; have hcb6 := hcb.upd hu6 (by omega); have hs6 := hs.upd hu6 (fun i hi => by have := (hs.lt i hi).1; omega); have hbw6 := hbw.upd hu6 hbw.size (fun i _ h => by omega); have hrr6 := hrr.upd hu6 (fun p hp => by cases hp; simp only; omega); have hc6 := HC1 _ hbw6; have hct6 := HC2 _ hrr6)
      go_wp2_with (go_at_call 15; (with_reducible refine (HSB _ _ _ hcb6).out.mono ?_); rintro e w7 ⟨rfl, hcb7, hu7⟩; have hca7 := hca6.upd hu7 (by omega); have hs7 := hs6.upd hu7 (fun i hi => by have := (hs6.lt i hi).1; omega); have hbw7 := hbw6.upd hu7 hbw6.size (fun i _ h => by omega); have hrr7 := hrr6.upd hu7 (fun p hp => by cases hp; simp only; omega); have hc7 := HC1 _ hbw7)
      generalize after x a0 = ax at *
      go_wp2_with (first | (go_at_call 20; refine (HAX _).out.mono ?_; rintro e w8 ⟨rfl, rfl⟩) | (at_builtin; refine wpList_append_sl _ rfl (.tmp 64) (.tmp 71) 22 22 rfl 3 i0 (.int .i64 0) 8 Try.underlying22 hi0 hz0 hz1 hz2 rfl rfl (hs7.alloc _) _ 1 [.int .i64 ax] rfl (src_oneN Try.underlying22 _ (.int .i64 ax) _ _ (by simp) rfl) (by unfold maxLen; omega) (by omega) (by have := hcb7.lt; simp; omega) ?_; intro v1 wA k1 k2 k3; have hcaA := (hca7.alloc (.cells #[.int .i64 ax] 3)).upd k2 (fun hk => by have := (hs7.lt _ hk).1; omega); have hcbA := (hcb7.alloc (.cells #[.int .i64 ax] 3)).upd k2 (fun hk => by have := (hs7.lt _ hk).1; omega); have hbA := (hbw7.alloc hbw7.size (.cells #[.int .i64 ax] 3)).upd k2 (by have := hbw7.size; simp; omega) (fun i _ h => by have := (hs7.lt i h).1; omega); have hrA := (hrr7.below ((Below.refl _ _).alloc (Nat.le_refl _) (.cells #[.int .i64 ax] 3))).upd k2 (fun p hp hk => by cases hp; have := (hs7.lt _ hk).1; simp only at this; omega)))
      go_roundw
      case rel =>
        refine ⟨k + 1, by omega, by go_num, ?_, ?_, ?_, hrA, hbA⟩
        · rw [HS.out, iv_snoc']
          exact k1
        · rw [HT.out]
          exact hcaA
        · rw [HTr.out]
          exact hcbA
      case measure => simp [intOf]; omega
    · obtain rfl : k = l1.length := by omega
      have hall : l1.take l1.length = l1 := List.take_of_length_le (Nat.le_refl _)
      have hallr : l1.reverse.take l1.length = l1.reverse := List.take_of_length_le (by simp)
      rw [hallr, most_rev] at hcb
      rw [hall] at hca hs
      clear hall hallr
      have hAM := after_most hpos l1
      have hAl : (l1.map fun t => after t a0).length = l1.length := List.length_map _
      obtain ⟨A, hA⟩ : ∃ A, A = l1.map fun t => after t a0 := ⟨_, rfl⟩
      have hAb : ∀ x ∈ A, -9223372036854775808 ≤ x ∧ x ≤ 9223372036854775807 := fun x hx => by
        rw [hA] at hx
        obtain ⟨t, _, rfl⟩ := List.mem_map.1 hx
        exact after_in t a0
      rw [← hA] at hs hAM hAl
      clear hA
      obtain ⟨_, aA, cA, hv, hrow⟩ := rowi_of_sl hs hAb
      subst hv
      have hlast := rise_last A (-9223372036854775808)
      rw [hAM] at hlast
      have hRl := rise_len A (-9223372036854775808)
      have HALL := Lib.hid (cl_all aA A.length cA A _ rfl hrow (by omega) _ rfl)
      generalize rise (-9223372036854775808) A = R at *
      generalize after (most (-9223372036854775808) l1) a0 = M at *
      clear hrow hs hAM hAb
      have HAL := Lib.hid hAl
      clear hAl
      by_cases hR : R.length = 0
      · have hR0 : R = [] := List.eq_nil_of_length_eq_zero hR
        have hM : M = -9223372036854775808 := by rw [← hlast, hR0]; rfl
        subst hM
        have hRz : (R.length : Int) ≤ 0 := by omega
        clear hlast hR0 hR
        go_wp2_with (go_at_call 12; refine HALL.out.mono ?_; intro e w6 h6; obtain ⟨a6, c6, rfl, hr6, b6⟩ := h6; have hca6 := hca.on b6; have hcb6 := hcb.on b6; have bw6 := hbw.trans (b6.mono hbw.size); have HNA := fun n => Lib.hid (cl_now w5.heap.size (-9223372036854775808) _ (w6.drewN n) (hca6.drewN n)); have HNB := fun n => Lib.hid (cl_now (w5.heap.size + 1) (-9223372036854775808) _ (w6.drewN n) (hcb6.drewN n)); have hla := hca6.lt; have hlb := hcb6.lt)
        go_quiet (first | (go_at_call 10; (with_reducible refine (HNA _).out.mono ?_); rintro e wq ⟨rfl, rfl⟩; exact ⟨rfl, _, rfl⟩) | (go_at_call 10; (with_reducible refine (HNB _).out.mono ?_); rintro e wq ⟨rfl, rfl⟩; exact ⟨rfl, _, rfl⟩))
        go_wp2
        go_ret
        exact ⟨rfl, below_drewN bw6 _⟩
      · have hRz : 0 < (R.length : Int) := by omega
        have hRM : R[R.length - 1]'(by omega) = M := by
          rw [← hlast, List.getLastD_eq_getLast?, List.getLast?_eq_getElem?, List.getElem?_eq_getElem (by omega)]
          rfl
        have HRM := Lib.hid hRM
        have hidx : IntKind.i64.wrap ((R.length : Int) - 1) = ((R.length - 1 : Nat) : Int) := by rw [IntKind.wrap_i64]; omega
        clear hlast hRM
        go_wp2_with (go_at_call 12; refine HALL.out.mono ?_; intro e w6 h6; obtain ⟨a6, c6, rfl, hr6, b6⟩ := h6; have hca6 := hca.on b6; have hcb6 := hcb.on b6; have bw6 := hbw.trans (b6.mono hbw.size); have HNA := fun n => Lib.hid (cl_now w5.heap.size M _ (w6.drewN n) (hca6.drewN n)); have HNB := fun n => Lib.hid (cl_now (w5.heap.size + 1) M _ (w6.drewN n) (hcb6.drewN n)); have hla := hca6.lt; have hlb := hcb6.lt; obtain ⟨b9, o9, rfl, hb9, hc9⟩ := hr6.at_ (R.length - 1) (by omega); rw [HRM.out] at hc9)
        go_quiet (first | (go_at_call 10; (with_reducible refine (HNA _).out.mono ?_); rintro e wq ⟨rfl, rfl⟩; exact ⟨rfl, _, rfl⟩) | (go_at_call 10; (with_reducible refine (HNB _).out.mono ?_); rintro e wq ⟨rfl, rfl⟩; exact ⟨rfl, _, rfl⟩))
        go_wp2
        go_ret
        exact ⟨rfl, below_drewN bw6 _⟩
end Go.Proofs.Ytlinkbflampanaa
