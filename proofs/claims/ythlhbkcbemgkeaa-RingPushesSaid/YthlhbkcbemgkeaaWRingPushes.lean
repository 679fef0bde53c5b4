/- The walk of the law RingPushes. -/
import Derived.Test.YthlhbkcbemgkeaaRing2
namespace Go.Proofs.Ythlhbkcbemgkeaa
open Go.ChangeShapes Go.WideShapes Go.ChangeAt Go.RowKit
open PRing
set_option linter.unusedVariables false
set_option linter.unusedSimpArgs false

theorem last_take_push (r k : Nat) (hr : 1 ≤ r) (l : List Int) (hk : k < l.length) : push r (last r (l.take k)) l[k] = (l.take (k + 1)).drop (k + 1 - r) := by
  rw [last_push r hr, ← List.take_succ_eq_append_getElem hk]
  unfold last
  rw [List.length_take, Nat.min_eq_left (by omega)]

/-- What the calls on a ring of W do, behind a push. -/
structure RCalls (g r m : Nat) (W : List Int) : Prop where
  len : ∀ F w, Ring w F g r (iv W) → Calls Try.prog 11 #[.pointer (some ⟨g, 0, none⟩)] w fun z w' => z = .returned (.int .i64 m) ∧ w = w'
  all : ∀ F w, Ring w F g r (iv W) → Calls Try.prog 14 #[.pointer (some ⟨g, 0, none⟩)] w fun z w' => ∃ aw cw, z = .returned (.slice aw m cw) ∧ RowI w' .i64 aw W ∧ Below w.heap.size w w'
  at_ : ∀ F w (j : Nat) (hj : j < W.length), Ring w F g r (iv W) → Calls Try.prog 15 #[.pointer (some ⟨g, 0, none⟩), .int .i64 j] w fun z w' => z = .returned (.tuple #[.int .i64 W[j], .bool true]) ∧ ∃ n, w' = w.drewN n
theorem rcalls (g r m : Nat) (W : List Int) (h2 : r ≤ 1000) (hW : W.length = m) (hm : m ≤ 4096) (hb : ∀ x ∈ W, -9223372036854775808 ≤ x ∧ x ≤ 9223372036854775807) : RCalls g r m W := by
  subst hW
  refine ⟨fun F w h => ?_, fun F w h => ?_, fun F w j hj h => ri_at F g r (iv W) j (.int .i64 W[j]) w h (by rw [iv_len]; exact hj) (by simp [iv, hj]) h2⟩
  · have := ri_len F g r (iv W) w h
    rwa [iv_len] at this
  · refine (ri_all F g r (iv W) w h (iv_one W) h2).mono ?_
    rintro e w' ⟨v, rfl, hs, hbl⟩
    rw [iv_len] at hs
    obtain ⟨_, a, c, rfl, hr⟩ := rowi_of_sl hs hb
    exact ⟨a, c, rfl, hr, hbl⟩

set_option maxRecDepth 100000 in
set_option maxHeartbeats 4000000 in
theorem pushes_core1 (w : World) (r : Nat) (hr1 : 1 ≤ r) (h2 : r ≤ 1000) (a1 : Option Addr) (n1 c1 : Nat) (l1 : List Int) (hn : n1 = l1.length) (hc : n1 ≤ c1) (hl : RowI w .i64 a1 l1) (h200 : n1 ≤ 200) :
    Calls Try.prog 3 #[.int .i64 (r : Int), .slice a1 n1 c1] w fun e w' => e = .returned (.bool true) ∧ Below w.heap.size w w' := by
  subst hn
  have HRM : ∀ F g w l, Ring w F g r l → Calls Try.prog 12 #[.pointer (some ⟨g, 0, none⟩)] w fun z w' => z = .returned (.int .i64 (r : Int)) ∧ w = w' := fun F g w l h => ri_room F g r l w h
  go_enter Try.func3, Try.ntmps3
  go_wp2_with (first | (go_at_call 8; refine (speaks7 _).mono ?_; rintro e w1 ⟨rfl, b1⟩) | (go_at_call 9; go_loud (refine (ri_new _ r (by omega) h2 _).mono ?_); rintro e w2 ⟨rfl, hr0, b2⟩; have hb2 := on_below b1 b2; change Ring w2 _ _ r (iv []) at hr0))
  go_loopw [31] (fun i wr => ∃ (k : Nat) (F : Nat → Prop), k ≤ l1.length ∧ i = .int .i64 k ∧ Ring wr F w1.heap.size r (iv (last r (l1.take k))) ∧ (∀ q, F q → w.heap.size ≤ q) ∧ Below w.heap.size w wr) (fun i _ => l1.length - (intOf i).toNat)
  case atStart => exact ⟨0, _, Nat.zero_le _, rfl, by rw [List.take_zero, last_nil]; exact hr0, fun q hq => by subst hq; exact b1.size, hb2⟩
  case round =>
    obtain ⟨k, F, hk, rfl, hrg, hF, hbw⟩ := hrel
    by_cases hlt : k < l1.length
    · have hrow := hl.below hbw
      obtain ⟨b, off, hab, hb, hcell⟩ := hrow.at_ k hlt
      have hpush := last_take_push r k (by omega) l1 hlt
      have hbd := fun x (hx : x ∈ l1) => bounds_i64 (hl.wf x hx)
      have hlw : (last r (l1.take k)).length = min r k := by rw [last_len, List.length_take]; omega
      by_cases hkr : k < r
      · have HP := fun wx F (h : Ring wx F w1.heap.size r (iv (last r (l1.take k)))) => Lib.hid (ri_push F w1.heap.size r (last r (l1.take k)) l1[k] 0 false wx h h2 (.inl ⟨by omega, rfl, rfl⟩))
        rw [hpush] at HP
        have hWl : ((l1.take (k + 1)).drop (k + 1 - r)).length = (k + 1) := by rw [List.length_drop, List.length_take]; omega
        have HC := rcalls w1.heap.size r (k + 1) ((l1.take (k + 1)).drop (k + 1 - r)) h2 hWl (by omega) (fun x hx => hbd x (List.mem_of_mem_take (List.mem_of_mem_drop hx)))
        have HW := Lib.hid (show last r (l1.take (k + 1)) = (l1.take (k + 1)).drop (k + 1 - r) by unfold last; rw [List.length_take, Nat.min_eq_left (by omega)])
        obtain ⟨W, hW⟩ : ∃ W, W = (l1.take (k + 1)).drop (k + 1 - r) := ⟨_, rfl⟩
        rw [← hW] at HP hWl HC HW
        have HW2 := Lib.hid hW
        have HWL := Lib.hid hWl
        have HP0 := (HP wr F hrg)
        clear HP hpush hbd hlw hrow hW
        subst hab
        have hwr := hbw.size
        generalize l1[k] = x at *
        go_wp2_with (first | (go_at_call 10; refine HP0.out.mono ?_; rintro e w3 ⟨rfl, p3⟩; obtain ⟨F3, hr3, f3, b3, _⟩ := p3.below hbw hwr hF) | (go_at_call 11; refine (HC.len _ _ hr3).mono ?_; rintro e w4 ⟨rfl, rfl⟩) | (go_at_call 12; refine (HRM _ _ _ _ hr3).mono ?_; rintro e w4 ⟨rfl, rfl⟩) | (go_at_call 14; refine (HC.all _ _ hr3).mono ?_; rintro e w5 ⟨aw, cw, rfl, rw5, b5⟩; have hr5 := hr3.below b5; have hb5 := b3.trans (b5.mono b3.size)) | (go_at_call 13; refine (ref_sameI W _ _ _ _ _ _ _ rw5 (row_part (hl.below hb5) (k + 1 - r) (k + 1) _ (by omega) (by omega) W HW2.out) (by have := HWL.out; omega) (by have := HWL.out; omega) (by have := HWL.out; omega)).mono ?_; rintro e w6 ⟨rfl, n6, rfl⟩))
        all_goals (
          go_loopw [97] (fun j wx => ∃ p n : Nat, p ≤ (k + 1) ∧ j = .int .i64 p ∧ wx = w5.drewN n) (fun j _ => (k + 1) - (intOf j).toNat)
          case atStart => exact ⟨0, _, Nat.zero_le _, rfl, rfl⟩
          case round =>
            obtain ⟨p, n, hp, rfl, rfl⟩ := hrel
            by_cases hpl : p < (k + 1)
            · have HA := Lib.hid (HC.at_ F3 (w5.drewN n) p (by have := HWL.out; omega) (hr5.drewN n))
              obtain ⟨hbb, cz⟩ := (row_part (hl.below hb5) (k + 1 - r) (k + 1) (off + (k + 1 - r)) rfl (by omega) W HW2.out).cell p (by have := HWL.out; omega)
              have cz' : w5.cell? ⟨b, off + p, none⟩ = some (.int .i64 (W[p]'(by have := HWL.out; omega))) := by rw [← cz]; congr 2; omega
              generalize W[p]'(by have := HWL.out; omega) = z at *
              have hzz : (z != z) = false := by simp
              go_wp2_with (first | (go_at_call 15; refine HA.out.mono ?_; rintro e w7 ⟨rfl, n7, rfl⟩))
              go_roundw
              case rel => exact ⟨p + 1, _, by omega, by go_num, rfl⟩
              case measure => simp [intOf]; omega
            · go_wp2
              go_roundw
              case rel => exact ⟨k + 1, F3, by omega, by go_num, by rw [HW.out]; exact hr5.drewN n, f3, below_drewN hb5 n⟩
              case measure => simp [intOf]; omega)
      · have hy : (last r (l1.take k))[0]? = some (l1[k - r]'(by omega)) := by rw [last_get, List.length_take, Nat.min_eq_left (by omega), Nat.add_zero, List.getElem?_take_of_lt (by omega), List.getElem?_eq_getElem (by omega)]
        have HP := fun wx F (h : Ring wx F w1.heap.size r (iv (last r (l1.take k)))) => Lib.hid (ri_push F w1.heap.size r (last r (l1.take k)) l1[k] (l1[k - r]'(by omega)) true wx h h2 (.inr ⟨by omega, hy, rfl⟩))
        rw [hpush] at HP
        have hWl : ((l1.take (k + 1)).drop (k + 1 - r)).length = r := by rw [List.length_drop, List.length_take]; omega
        have HC := rcalls w1.heap.size r r ((l1.take (k + 1)).drop (k + 1 - r)) h2 hWl (by omega) (fun x hx => hbd x (List.mem_of_mem_take (List.mem_of_mem_drop hx)))
        have HW := Lib.hid (show last r (l1.take (k + 1)) = (l1.take (k + 1)).drop (k + 1 - r) by unfold last; rw [List.length_take, Nat.min_eq_left (by omega)])
        obtain ⟨W, hW⟩ : ∃ W, W = (l1.take (k + 1)).drop (k + 1 - r) := ⟨_, rfl⟩
        rw [← hW] at HP hWl HC HW
        have HW2 := Lib.hid hW
        have HWL := Lib.hid hWl
        have HP0 := (HP wr F hrg)
        clear HP hpush hbd hlw hrow hW
        subst hab
        have hwr := hbw.size
        have hmr : k + 1 - (k + 1 - r) = r := by omega
        generalize l1[k] = x at *
        go_wp2_with (first | (go_at_call 10; refine HP0.out.mono ?_; rintro e w3 ⟨rfl, p3⟩; obtain ⟨F3, hr3, f3, b3, _⟩ := p3.below hbw hwr hF; obtain ⟨hby, cy⟩ := (hl.below b3).cell (k - r) (by omega); have hyy : (l1[k - r] != l1[k - r]) = false := by simp) | (go_at_call 11; refine (HC.len _ _ hr3).mono ?_; rintro e w4 ⟨rfl, rfl⟩) | (go_at_call 12; refine (HRM _ _ _ _ hr3).mono ?_; rintro e w4 ⟨rfl, rfl⟩) | (go_at_call 14; refine (HC.all _ _ hr3).mono ?_; rintro e w5 ⟨aw, cw, rfl, rw5, b5⟩; have hr5 := hr3.below b5; have hb5 := b3.trans (b5.mono b3.size)) | (go_at_call 13; refine (ref_sameI W _ _ _ _ _ _ _ rw5 (row_part (hl.below hb5) (k + 1 - r) (k + 1) _ (by omega) (by omega) W HW2.out) (by have := HWL.out; omega) (by have := HWL.out; omega) (by have := HWL.out; omega)).mono ?_; rintro e w6 ⟨rfl, n6, rfl⟩))
        all_goals (
          go_loopw [97] (fun j wx => ∃ p n : Nat, p ≤ r ∧ j = .int .i64 p ∧ wx = w5.drewN n) (fun j _ => r - (intOf j).toNat)
          case atStart => exact ⟨0, _, Nat.zero_le _, rfl, rfl⟩
          case round =>
            obtain ⟨p, n, hp, rfl, rfl⟩ := hrel
            by_cases hpl : p < r
            · have HA := Lib.hid (HC.at_ F3 (w5.drewN n) p (by have := HWL.out; omega) (hr5.drewN n))
              obtain ⟨hbb, cz⟩ := (row_part (hl.below hb5) (k + 1 - r) (k + 1) (off + (k + 1 - r)) rfl (by omega) W HW2.out).cell p (by have := HWL.out; omega)
              generalize W[p]'(by have := HWL.out; omega) = z at *
              have hzz : (z != z) = false := by simp
              go_wp2_with (first | (go_at_call 15; refine HA.out.mono ?_; rintro e w7 ⟨rfl, n7, rfl⟩))
              go_roundw
              case rel => exact ⟨p + 1, _, by omega, by go_num, rfl⟩
              case measure => simp [intOf]; omega
            · go_wp2
              go_roundw
              case rel => exact ⟨k + 1, F3, by omega, by go_num, by rw [HW.out]; exact hr5.drewN n, f3, below_drewN hb5 n⟩
              case measure => simp [intOf]; omega)
    · go_wp2
      go_ret
      exact ⟨rfl, hbw⟩

set_option maxRecDepth 100000 in
set_option maxHeartbeats 4000000 in
theorem pushes_core2 (w : World) (a0 : Int) (ha0 : a0 < 1) (ha1 : -9223372036854775808 ≤ a0) (h2 : 1 ≤ 1000) (a1 : Option Addr) (n1 c1 : Nat) (l1 : List Int) (hn : n1 = l1.length) (hc : n1 ≤ c1) (hl : RowI w .i64 a1 l1) (h200 : n1 ≤ 200) :
    Calls Try.prog 3 #[.int .i64 a0, .slice a1 n1 c1] w fun e w' => e = .returned (.bool true) ∧ Below w.heap.size w w' := by
  subst hn
  have HRM : ∀ F g w l, Ring w F g 1 l → Calls Try.prog 12 #[.pointer (some ⟨g, 0, none⟩)] w fun z w' => z = .returned (.int .i64 1) ∧ w = w' := fun F g w l h => ri_room F g 1 l w h
  go_enter Try.func3, Try.ntmps3
  go_wp2_with (first | (go_at_call 8; refine (speaks7 _).mono ?_; rintro e w1 ⟨rfl, b1⟩) | (go_at_call 9; go_loud (refine (ri_new _ 1 (by omega) h2 _).mono ?_); rintro e w2 ⟨rfl, hr0, b2⟩; have hb2 := on_below b1 b2; change Ring w2 _ _ 1 (iv []) at hr0))
  go_loopw [31] (fun i wr => ∃ (k : Nat) (F : Nat → Prop), k ≤ l1.length ∧ i = .int .i64 k ∧ Ring wr F w1.heap.size 1 (iv (last 1 (l1.take k))) ∧ (∀ q, F q → w.heap.size ≤ q) ∧ Below w.heap.size w wr) (fun i _ => l1.length - (intOf i).toNat)
  case atStart => exact ⟨0, _, Nat.zero_le _, rfl, by rw [List.take_zero, last_nil]; exact hr0, fun q hq => by subst hq; exact b1.size, hb2⟩
  case round =>
    obtain ⟨k, F, hk, rfl, hrg, hF, hbw⟩ := hrel
    by_cases hlt : k < l1.length
    · have hrow := hl.below hbw
      obtain ⟨b, off, hab, hb, hcell⟩ := hrow.at_ k hlt
      have hpush := last_take_push 1 k (by omega) l1 hlt
      have hbd := fun x (hx : x ∈ l1) => bounds_i64 (hl.wf x hx)
      have hlw : (last 1 (l1.take k)).length = min 1 k := by rw [last_len, List.length_take]; omega
      by_cases hkr : k < 1
      · have HP := fun wx F (h : Ring wx F w1.heap.size 1 (iv (last 1 (l1.take k)))) => Lib.hid (ri_push F w1.heap.size 1 (last 1 (l1.take k)) l1[k] 0 false wx h h2 (.inl ⟨by omega, rfl, rfl⟩))
        rw [hpush] at HP
        have hWl : ((l1.take (k + 1)).drop (k + 1 - 1)).length = (k + 1) := by rw [List.length_drop, List.length_take]; omega
        have HC := rcalls w1.heap.size 1 (k + 1) ((l1.take (k + 1)).drop (k + 1 - 1)) h2 hWl (by omega) (fun x hx => hbd x (List.mem_of_mem_take (List.mem_of_mem_drop hx)))
        have HW := Lib.hid (show last 1 (l1.take (k + 1)) = (l1.take (k + 1)).drop (k + 1 - 1) by unfold last; rw [List.length_take, Nat.min_eq_left (by omega)])
        obtain ⟨W, hW⟩ : ∃ W, W = (l1.take (k + 1)).drop (k + 1 - 1) := ⟨_, rfl⟩
        rw [← hW] at HP hWl HC HW
        have HW2 := Lib.hid hW
        have HWL := Lib.hid hWl
        have HP0 := (HP wr F hrg)
        clear HP hpush hbd hlw hrow hW
        subst hab
        have hwr := hbw.size
        generalize l1[k] = x at *
        go_wp2_with (first | (go_at_call 10; refine HP0.out.mono ?_; rintro e w3 ⟨rfl, p3⟩; obtain ⟨F3, hr3, f3, b3, _⟩ := p3.below hbw hwr hF) | (go_at_call 11; refine (HC.len _ _ hr3).mono ?_; rintro e w4 ⟨rfl, rfl⟩) | (go_at_call 12; refine (HRM _ _ _ _ hr3).mono ?_; rintro e w4 ⟨rfl, rfl⟩) | (go_at_call 14; refine (HC.all _ _ hr3).mono ?_; rintro e w5 ⟨aw, cw, rfl, rw5, b5⟩; have hr5 := hr3.below b5; have hb5 := b3.trans (b5.mono b3.size)) | (go_at_call 13; refine (ref_sameI W _ _ _ _ _ _ _ rw5 (row_part (hl.below hb5) (k + 1 - 1) (k + 1) _ (by omega) (by omega) W HW2.out) (by have := HWL.out; omega) (by have := HWL.out; omega) (by have := HWL.out; omega)).mono ?_; rintro e w6 ⟨rfl, n6, rfl⟩))
        all_goals (
          go_loopw [97] (fun j wx => ∃ p n : Nat, p ≤ (k + 1) ∧ j = .int .i64 p ∧ wx = w5.drewN n) (fun j _ => (k + 1) - (intOf j).toNat)
          case atStart => exact ⟨0, _, Nat.zero_le _, rfl, rfl⟩
          case round =>
            obtain ⟨p, n, hp, rfl, rfl⟩ := hrel
            by_cases hpl : p < (k + 1)
            · have HA := Lib.hid (HC.at_ F3 (w5.drewN n) p (by have := HWL.out; omega) (hr5.drewN n))
              obtain ⟨hbb, cz⟩ := (row_part (hl.below hb5) (k + 1 - 1) (k + 1) (off + (k + 1 - 1)) rfl (by omega) W HW2.out).cell p (by have := HWL.out; omega)
              have cz3 : w5.cell? ⟨b, off + k + p, none⟩ = some (.int .i64 (W[p]'(by have := HWL.out; omega))) := by rw [← cz]; congr 2
              have cz' : w5.cell? ⟨b, off + p, none⟩ = some (.int .i64 (W[p]'(by have := HWL.out; omega))) := by rw [← cz]; congr 2; omega
              generalize W[p]'(by have := HWL.out; omega) = z at *
              have hzz : (z != z) = false := by simp
              go_wp2_with (first | (go_at_call 15; refine HA.out.mono ?_; rintro e w7 ⟨rfl, n7, rfl⟩))
              go_roundw
              case rel => exact ⟨p + 1, _, by omega, by go_num, rfl⟩
              case measure => simp [intOf]; omega
            · go_wp2
              go_roundw
              case rel => exact ⟨k + 1, F3, by omega, by go_num, by rw [HW.out]; exact hr5.drewN n, f3, below_drewN hb5 n⟩
              case measure => simp [intOf]; omega)
      · have hy : (last 1 (l1.take k))[0]? = some (l1[k - 1]'(by omega)) := by rw [last_get, List.length_take, Nat.min_eq_left (by omega), Nat.add_zero, List.getElem?_take_of_lt (by omega), List.getElem?_eq_getElem (by omega)]
        have HP := fun wx F (h : Ring wx F w1.heap.size 1 (iv (last 1 (l1.take k)))) => Lib.hid (ri_push F w1.heap.size 1 (last 1 (l1.take k)) l1[k] (l1[k - 1]'(by omega)) true wx h h2 (.inr ⟨by omega, hy, rfl⟩))
        rw [hpush] at HP
        have hWl : ((l1.take (k + 1)).drop (k + 1 - 1)).length = 1 := by rw [List.length_drop, List.length_take]; omega
        have HC := rcalls w1.heap.size 1 1 ((l1.take (k + 1)).drop (k + 1 - 1)) h2 hWl (by omega) (fun x hx => hbd x (List.mem_of_mem_take (List.mem_of_mem_drop hx)))
        have HW := Lib.hid (show last 1 (l1.take (k + 1)) = (l1.take (k + 1)).drop (k + 1 - 1) by unfold last; rw [List.length_take, Nat.min_eq_left (by omega)])
        obtain ⟨W, hW⟩ : ∃ W, W = (l1.take (k + 1)).drop (k + 1 - 1) := ⟨_, rfl⟩
        rw [← hW] at HP hWl HC HW
        have HW2 := Lib.hid hW
        have HWL := Lib.hid hWl
        have HP0 := (HP wr F hrg)
        clear HP hpush hbd hlw hrow hW
        subst hab
        have hwr := hbw.size
        have hmr : k + 1 - (k + 1 - 1) = 1 := by omega
        generalize l1[k] = x at *
        go_wp2_with (first | (go_at_call 10; refine HP0.out.mono ?_; rintro e w3 ⟨rfl, p3⟩; obtain ⟨F3, hr3, f3, b3, _⟩ := p3.below hbw hwr hF; obtain ⟨hby, cy⟩ := (hl.below b3).cell (k - 1) (by omega); have hyy : (l1[k - 1] != l1[k - 1]) = false := by simp) | (go_at_call 11; refine (HC.len _ _ hr3).mono ?_; rintro e w4 ⟨rfl, rfl⟩) | (go_at_call 12; refine (HRM _ _ _ _ hr3).mono ?_; rintro e w4 ⟨rfl, rfl⟩) | (go_at_call 14; refine (HC.all _ _ hr3).mono ?_; rintro e w5 ⟨aw, cw, rfl, rw5, b5⟩; have hr5 := hr3.below b5; have hb5 := b3.trans (b5.mono b3.size)) | (go_at_call 13; refine (ref_sameI W _ _ _ _ _ _ _ rw5 (row_part (hl.below hb5) (k + 1 - 1) (k + 1) _ (by omega) (by omega) W HW2.out) (by have := HWL.out; omega) (by have := HWL.out; omega) (by have := HWL.out; omega)).mono ?_; rintro e w6 ⟨rfl, n6, rfl⟩))
        all_goals (
          go_loopw [97] (fun j wx => ∃ p n : Nat, p ≤ 1 ∧ j = .int .i64 p ∧ wx = w5.drewN n) (fun j _ => 1 - (intOf j).toNat)
          case atStart => exact ⟨0, _, Nat.zero_le _, rfl, rfl⟩
          case round =>
            obtain ⟨p, n, hp, rfl, rfl⟩ := hrel
            by_cases hpl : p < 1
            · have HA := Lib.hid (HC.at_ F3 (w5.drewN n) p (by have := HWL.out; omega) (hr5.drewN n))
              obtain ⟨hbb, cz⟩ := (row_part (hl.below hb5) (k + 1 - 1) (k + 1) (off + (k + 1 - 1)) rfl (by omega) W HW2.out).cell p (by have := HWL.out; omega)
              have cz3 : w5.cell? ⟨b, off + k + p, none⟩ = some (.int .i64 (W[p]'(by have := HWL.out; omega))) := by rw [← cz]; congr 2
              generalize W[p]'(by have := HWL.out; omega) = z at *
              have hzz : (z != z) = false := by simp
              go_wp2_with (first | (go_at_call 15; refine HA.out.mono ?_; rintro e w7 ⟨rfl, n7, rfl⟩))
              go_roundw
              case rel => exact ⟨p + 1, _, by omega, by go_num, rfl⟩
              case measure => simp [intOf]; omega
            · go_wp2
              go_roundw
              case rel => exact ⟨k + 1, F3, by omega, by go_num, by rw [HW.out]; exact hr5.drewN n, f3, below_drewN hb5 n⟩
              case measure => simp [intOf]; omega)
    · go_wp2
      go_ret
      exact ⟨rfl, hbw⟩

theorem walk_RingPushes (w : World) (a0 : Int) (w0 : (Lit.int .i64 a0).wf = true) (a1 : Option Addr) (n1 c1 : Nat) (l1 : List Int) (w1 : Rd w (.sl (.int .i64)) [.slice a1 n1 c1] l1) :
    Calls Try.prog 3 #[.int .i64 a0, .slice a1 n1 c1] w fun e w' => e = .returned (.bool true) ∧ Below w.heap.size w w' := by
  obtain ⟨hn, hl⟩ := w1.ints
  have hc := Rd.capI w1
  have hb0 := bounds_i64 w0
  clear w1 w0
  by_cases hbig : 200 < n1 ∨ 1000 < a0
  · by_cases h1 : 200 < n1
    · go_enter Try.func3, Try.ntmps3
      go_wp2_with (first | (go_at_call 8; refine (speaks7 _).mono ?_; rintro e w1 ⟨rfl, b1⟩))
      go_ret
      exact ⟨rfl, b1⟩
    · have h2 : 1000 < a0 := by omega
      go_enter Try.func3, Try.ntmps3
      go_wp2_with (first | (go_at_call 8; refine (speaks7 _).mono ?_; rintro e w1 ⟨rfl, b1⟩))
      go_ret
      exact ⟨rfl, b1⟩
  · by_cases h0 : 1 ≤ a0
    · obtain ⟨r, rfl⟩ : ∃ r : Nat, a0 = r := ⟨a0.toNat, by omega⟩
      exact pushes_core1 w r (by omega) (by omega) a1 n1 c1 l1 hn hc hl (by omega)
    · exact pushes_core2 w a0 (by omega) (by omega) (by omega) a1 n1 c1 l1 hn hc hl (by omega)
end Go.Proofs.Ythlhbkcbemgkeaa
