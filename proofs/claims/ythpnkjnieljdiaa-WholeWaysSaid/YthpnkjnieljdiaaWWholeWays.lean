/- The walk of WholeWays. -/
import Derived.Test.YthpnkjnieljdiaaWPercentNows
import Derived.Test.YthpnkjnieljdiaaPunct
import Derived.BigQuiet
namespace Go.Proofs.Ythpnkjnieljdiaa
open Go.ChangeShapes Go.WideShapes Go.ChangeAt Go.RowKit
open PHist PRing PSat PClamp PBound
set_option linter.unusedVariables false
set_option linter.unusedSimpArgs false

theorem ways_le (p w : Nat) (l : List Int) : ∀ k, k ≤ l.length → nowTo p w l k ≤ after (most (-9223372036854775808) (l.take k)) 0
  | 0, _ => by
    show (-9223372036854775808 : Int) ≤ after (-9223372036854775808) 0
    rw [after_never (by omega)]
    exact Int.le_refl _
  | k + 1, h => by
    have h1 := ways_le p w l k (by omega)
    have h2 : most (-9223372036854775808) (l.take k) ≤ most (-9223372036854775808) (l.take (k + 1)) := by rw [most_take l _ k (by omega)]; split <;> omega
    have h3 := after_mono 0 h2
    have h4 := after_anti (most (-9223372036854775808) (l.take (k + 1))) (pick_pos (p := p) (kept_pos w (l.take (k + 1))))
    show (if _ then _ else _) ≤ _
    split <;> omega
theorem ways_eq (p w : Nat) (l : List Int) (k : Nat) (hk : k < l.length) (h0 : ∀ x ∈ lagsAll (l.take (k + 1)), x = 0) : nowTo p w l (k + 1) = after (most (-9223372036854775808) (l.take (k + 1))) 0 := by
  have h1 := ways_le p w l k (by omega)
  have h2 : most (-9223372036854775808) (l.take k) ≤ most (-9223372036854775808) (l.take (k + 1)) := by rw [most_take l _ k (by omega)]; split <;> omega
  have h3 := after_mono 0 h2
  have h4 : pick (kept w (l.take (k + 1))) p = 0 := pick_zero (fun x hx => h0 x (kept_mem hx))
  show (if _ then _ else _) = _
  rw [h4]
  split <;> omega
theorem zero_next (l : List Int) (k : Nat) (hk : k < l.length) (h0 : ∀ x ∈ lagsAll (l.take k), x = 0) (h : most (-9223372036854775808) (l.take k) ≤ l[k]) : ∀ x ∈ lagsAll (l.take (k + 1)), x = 0 := by
  intro x hx
  rw [lagsAll_next l k hk] at hx
  rcases List.mem_append.1 hx with hx | hx
  · exact h0 x hx
  · rw [List.mem_singleton.1 hx, most_take l _ k hk]
    have : (if most (-9223372036854775808) (l.take k) < l[k] then l[k] else most (-9223372036854775808) (l.take k)) = l[k] := by split <;> omega
    rw [this]
    unfold sub clampI
    (repeat' split) <;> omega
theorem after_zero (m : Int) (h : -9223372036854775808 ≤ m ∧ m ≤ 9223372036854775807) : after m 0 ≤ m := by
  unfold after sub clampI
  (repeat' split) <;> omega
theorem says_two (s : ByteArray) (n : Int) : says 2 s n = true := by simp [says]

set_option maxRecDepth 100000 in
set_option maxHeartbeats 8000000 in
theorem walk_WholeWays (w : World) (a0 : Option Addr) (n0 c0 : Nat) (l0 : List Int) (w0 : Rd w (.sl (.int .i64)) [.slice a0 n0 c0] l0) (a1 : Int) (w1 : (Lit.int .u8 a1).wf = true) (a2 : Int) (w2 : (Lit.int .u8 a2).wf = true) :
    Calls Try.prog 7 #[.slice a0 n0 c0, .int .u8 a1, .int .u8 a2] w fun e w' => e = .returned (.bool true) ∧ Below w.heap.size w w' := by
  have hcap := w0.capI
  obtain ⟨rfl, hl⟩ := w0.ints
  clear w0
  have hb1 := bounds_u8 w1
  have hb2 := bounds_u8 w2
  clear w1 w2
  have hPN := fun w' => Lib.hid (pu_new 33 w')
  have hc0 := ClampC.made w [.int .i64 33] 35
  have hbw0 : Below w.heap.size w (w.alloc (.cells #[.int .i64 0, .bool false, .int .i64 33] 35)) := (Below.refl _ _).alloc (Nat.le_refl _) _
  have hl1 : (w.alloc (.cells #[.int .i64 0, .bool false, .int .i64 33] 35)).heap.size = w.heap.size + 1 := by simp
  have HN0 := Lib.hid (cl_now w.heap.size _ _ _ hc0)
  have HG0 := Lib.hid (pu_sign w.heap.size _ _ _ hc0)
  by_cases hbig : 60 < l0.length
  · go_enter Try.func7, Try.ntmps7
    go_wp2_with (first | (go_at_call 9; refine (hPN _).out.mono ?_; rintro e w3 ⟨rfl, rfl⟩) | (go_at_call 14; refine HG0.out.mono ?_; rintro e w4 ⟨rfl, rfl⟩) | (go_at_call 13; refine HN0.out.mono ?_; rintro e w4 ⟨rfl, rfl⟩))
    go_ret
    exact ⟨rfl, hbw0⟩
  have hsm : l0.length ≤ 60 := by omega
  obtain ⟨p, hpe, hp⟩ : ∃ k : Nat, a2.tmod 101 = (k : Int) ∧ k < 101 := rem_of hb2.1 101 (by omega)
  obtain ⟨q, hqe, hq⟩ : ∃ k : Nat, a1.tmod 60 = (k : Int) ∧ k < 60 := rem_of hb1.1 60 (by omega)
  have hpe2 : a2 % 101 = (p : Int) := by rw [← hpe, Int.tmod_eq_emod_of_nonneg hb2.1]
  have hqe2 : a1 % 60 = (q : Int) := by rw [← hqe, Int.tmod_eq_emod_of_nonneg hb1.1]
  have hbd : ∀ x ∈ l0, -9223372036854775808 ≤ x ∧ x ≤ 9223372036854775807 := fun x hx => by
    obtain ⟨i, hi, rfl⟩ := List.mem_iff_getElem.1 hx
    exact hl.bound i hi
  have HBD := Lib.hid hbd
  clear hbd hbig
  have HQN := fun w' => Lib.hid (pc_new p (1 + (q : Int)) (1 + q) (by omega) (by omega) (by omega) w')
  have HBN := fun w' => Lib.hid (bo_new 0 w')
  have hcp : ClampC (((w.alloc (.cells #[.int .i64 0, .bool false, .int .i64 33] 35)).alloc (.cells #[.int .i64 0, .bool false, .int .i64 33] 35)).alloc (.cells #[.int .i64 0, .bool false, .int .i64 0] 52)) (w.heap.size + 1) (-9223372036854775808) [.int .i64 33] := by
    have h := (ClampC.made (w.alloc (.cells #[.int .i64 0, .bool false, .int .i64 33] 35)) [.int .i64 33] 35).alloc (.cells #[.int .i64 0, .bool false, .int .i64 0] 52)
    rw [hl1] at h
    exact h
  have hcb : ClampC (((w.alloc (.cells #[.int .i64 0, .bool false, .int .i64 33] 35)).alloc (.cells #[.int .i64 0, .bool false, .int .i64 33] 35)).alloc (.cells #[.int .i64 0, .bool false, .int .i64 0] 52)) (w.heap.size + 1 + 1) (after (-9223372036854775808) 0) [.int .i64 0] := by
    have h := ClampC.made ((w.alloc (.cells #[.int .i64 0, .bool false, .int .i64 33] 35)).alloc (.cells #[.int .i64 0, .bool false, .int .i64 33] 35)) [.int .i64 0] 52
    rw [← after_never (show (0 : Int) ≤ 0 by omega)] at h
    rw [show ((w.alloc (.cells #[.int .i64 0, .bool false, .int .i64 33] 35)).alloc (.cells #[.int .i64 0, .bool false, .int .i64 33] 35)).heap.size = w.heap.size + 1 + 1 by simp] at h
    exact h
  have hbw3 : Below w.heap.size w (((w.alloc (.cells #[.int .i64 0, .bool false, .int .i64 33] 35)).alloc (.cells #[.int .i64 0, .bool false, .int .i64 33] 35)).alloc (.cells #[.int .i64 0, .bool false, .int .i64 0] 52)) := (hbw0.alloc (by simp) _).alloc (by simp; omega) _
  have hl3 : (((w.alloc (.cells #[.int .i64 0, .bool false, .int .i64 33] 35)).alloc (.cells #[.int .i64 0, .bool false, .int .i64 33] 35)).alloc (.cells #[.int .i64 0, .bool false, .int .i64 0] 52)).heap.size = w.heap.size + 1 + 1 + 1 := by simp
  clear hc0 hl1
  go_enter Try.func7, Try.ntmps7
  go_wp2_with (first | (go_at_call 9; refine (hPN _).out.mono ?_; rintro e w3 ⟨rfl, rfl⟩) | (go_at_call 14; refine HG0.out.mono ?_; rintro e w4 ⟨rfl, rfl⟩) | (go_at_call 13; refine HN0.out.mono ?_; rintro e w4 ⟨rfl, rfl⟩) | (go_at_call 21; refine (HBN _).out.mono ?_; rintro e w4 ⟨rfl, rfl⟩) | (go_at_call 16; refine (HQN _).out.mono ?_; rintro e w5 ⟨g, S1, rfl, hq1, hS1, hb5⟩))
  generalize hW3 : (((w.alloc (.cells #[.int .i64 0, .bool false, .int .i64 33] 35)).alloc (.cells #[.int .i64 0, .bool false, .int .i64 33] 35)).alloc (.cells #[.int .i64 0, .bool false, .int .i64 0] 52)) = W3 at *
  clear hW3 hPN HN0 HG0 hbw0 HQN HBN hpe hqe hpe2 hqe2 hb1 hb2
  have hbw5 := on_below hbw3 hb5
  have hcp := hcp.on hb5
  have hcb := hcb.on hb5
  have hq1 := perAt_zero l0 hq1
  have hS1 : ∀ k, S1 k → w.heap.size + 3 ≤ k := fun k hk => by have := hS1 k hk; omega
  have hz5 : w.heap.size + 3 ≤ w5.heap.size := by have := hb5.size; omega
  clear hb5 hbw3 hl3
  go_loopw [11, 12, 45] (fun m od i wr => ∃ (k : Nat) (S : Nat → Prop) (o : Bool), k ≤ l0.length ∧ i = .int .i64 k ∧ m = .int .i64 (most (-9223372036854775808) (l0.take k)) ∧ od = .bool o ∧ Hid (o = true → ∀ x ∈ lagsAll (l0.take k), x = 0) ∧ ClampC wr (w.heap.size + 1) (most (-9223372036854775808) (l0.take k)) [.int .i64 33] ∧ ClampC wr (w.heap.size + 1 + 1) (after (most (-9223372036854775808) (l0.take k)) 0) [.int .i64 0] ∧ PerAt wr S g p (1 + q) l0 k ∧ (∀ k, S k → w.heap.size + 3 ≤ k) ∧ Below w.heap.size w wr ∧ w.heap.size + 3 ≤ wr.heap.size) (fun _ _ i _ => l0.length - (intOf i).toNat)
  case atStart => exact ⟨0, S1, true, Nat.zero_le _, rfl, rfl, rfl, Lib.hid (fun _ x hx => by cases hx), hcp, hcb, hq1, hS1, hbw5, hz5⟩
  case round =>
    obtain ⟨k, S, o, hk, rfl, rfl, rfl, HO, hcpk, hcbk, hqk, hS, hbk, hzk⟩ := hrel
    by_cases hlt : k < l0.length
    · obtain ⟨b, off, rfl, hb', hc⟩ := (hl.below hbk).at_ k hlt
      have HT := Lib.hid (most_take l0 (-9223372036854775808) k hlt)
      have hxb := hl.bound k hlt
      have hmb := most_in64 (l0.take k) (fun x hx => HBD.out x (List.mem_of_mem_take hx))
      have hMb := most_in64 (l0.take (k + 1)) (fun x hx => HBD.out x (List.mem_of_mem_take hx))
      have HQ := fun w' h => Lib.hid (pc_next S g p (1 + q) l0 k hlt HBD.out 0 ⟨#[]⟩ w' h (by omega) (by omega) (by omega))
      have HNQ := fun S w' (h : PerAt w' S g p (1 + q) l0 (k + 1)) => Lib.hid (pc_at_now S g p (1 + q) l0 (k + 1) w' h)
      have HZ := Lib.hid (fun h0 h1 => zero_next l0 k hlt h0 h1)
      have HE := Lib.hid (fun h0 => ways_eq p (1 + q) l0 k hlt h0)
      have hle := ways_le p (1 + q) l0 (k + 1) (by omega)
      have hge := after_zero _ hMb
      obtain ⟨M, hM⟩ : ∃ M, M = most (-9223372036854775808) (l0.take (k + 1)) := ⟨_, rfl⟩
      rw [← hM] at HT hMb hle hge HE
      have HM := Lib.hid hM.symm
      clear hM
      have hMx : (if most (-9223372036854775808) (l0.take k) < l0[k] then l0[k] else most (-9223372036854775808) (l0.take k)) = M := HT.out.symm
      generalize l0[k] = x at *
      generalize most (-9223372036854775808) (l0.take k) = m at *
      have HPS := fun w' h => Lib.hid (pu_seen (w.heap.size + 1) m 33 2 x ⟨#[]⟩ w' h (by omega) true (says_two _ _) M (by rw [← hMx]; simp [rz]))
      have HBS := fun w' h => Lib.hid (bo_seen (w.heap.size + 1 + 1) m 0 0 x ⟨#[]⟩ w' h (by omega) hxb M hMx)
      have HNP := fun w' (h : ClampC w' (w.heap.size + 1) M [.int .i64 33]) => Lib.hid (cl_now (w.heap.size + 1) _ _ w' h)
      have HNB := fun w' (h : ClampC w' (w.heap.size + 1 + 1) (after M 0) [.int .i64 0]) => Lib.hid (cl_now (w.heap.size + 1 + 1) _ _ w' h)
      have hmx : max m x = M := by rw [← hMx]; split <;> omega
      have HS := Lib.hid hS
      have hMM : (M != M) = false := by simp
      clear hMx hS HT
      have d1 : decide (after M 0 < nowTo p (1 + q) l0 (k + 1)) = false := decide_eq_false (by omega)
      have d2 : decide (M < after M 0) = false := decide_eq_false (by omega)
      generalize hNB : after M 0 = nb at *
      have HNBE := Lib.hid hNB
      clear hNB
      generalize hNQ : nowTo p (1 + q) l0 (k + 1) = nq at *
      clear hNQ
      cases o
      · clear HE HZ HO
        go_wp2_with (go_at_call 12; (with_reducible refine (HPS _ hcpk).out.mono ?_); rintro e w6 ⟨rfl, hc6, hu6⟩; have hcb6 := hcbk.upd hu6 (by omega); have hq6 := hqk.upd hu6 (fun j hj e => by have := HS.out j hj; omega); have hb6 := hbk.upd hu6 hbk.size (fun i _ e => by omega); have hz6 := Nat.le_trans hzk hu6.size)
        go_wp2_with (go_at_call 22; (with_reducible refine (HBS _ hcb6).out.mono ?_); rintro e w7 ⟨rfl, hc7, hu7⟩; have hcp7 := hc6.upd hu7 (by omega); have hq7 := hq6.upd hu7 (fun j hj e => by have := HS.out j hj; omega); have hb7 := hb6.upd hu7 hb6.size (fun i _ e => by omega); have hz7 := Nat.le_trans hz6 hu7.size)
        go_wp2_with (go_at_call 17; (with_reducible refine (HQ _ hq7).out.mono ?_); rintro e w8 ⟨rfl, hq8⟩)
        obtain ⟨S8, hq8, hu8, hs8⟩ := hq8
        have hcp8 := hcp7.upd hu8 (fun h => by have := HS.out _ h; omega)
        have hcb8 := hc7.upd hu8 (fun h => by have := HS.out _ h; omega)
        have hb8 := hb7.upd hu8 hb7.size (fun i _ h => by have := HS.out _ h; omega)
        have hz8 := Nat.le_trans hz7 hu8.size
        have HS8 := Lib.hid (show ∀ j, S8 j → w.heap.size + 3 ≤ j from fun j hj => (hs8 j hj).elim (HS.out j) (fun h => Nat.le_trans hz7 h))
        change PerAt w8 S8 g p (1 + q) l0 (k + 1) at hq8
        clear hs8 hq7 hq6 hcp7 hcb6 hc6 hc7 hc hb'
        go_wp2
        go_quiet ((go_at_call 13; first | ((with_reducible refine (HNP _ (hcp8.drewN _)).out.mono ?_); rintro e wq ⟨rfl, rfl⟩; exact ⟨rfl, _, rfl⟩) | ((with_reducible refine (HNB _ (hcb8.drewN _)).out.mono ?_); rintro e wq ⟨rfl, rfl⟩; exact ⟨rfl, _, rfl⟩) | ((with_reducible refine (HNQ S8 _ (hq8.drewN _)).out.mono ?_); rintro e wq ⟨rfl, rfl⟩; exact ⟨rfl, _, rfl⟩)))
        go_wp2
        go_roundw
        case rel => exact ⟨k + 1, S8, false, by omega, by go_num, by rw [HM.out], rfl, Lib.hid (fun h => by cases h), by rw [HM.out]; exact hcp8.drewN _, by rw [HM.out, HNBE.out]; exact hcb8.drewN _, hq8.drewN _, HS8.out, below_drewN hb8 _, hz8⟩
        case measure => simp [intOf]; omega
      by_cases hx : m ≤ x
      · have HZZ := Lib.hid (HZ.out (HO.out rfl) hx)
        have hnq : nq = nb := HE.out HZZ.out
        subst hnq
        have hnn : (nq != nq) = false := by simp
        clear HE HZ HO
        go_wp2_with (go_at_call 12; (with_reducible refine (HPS _ hcpk).out.mono ?_); rintro e w6 ⟨rfl, hc6, hu6⟩; have hcb6 := hcbk.upd hu6 (by omega); have hq6 := hqk.upd hu6 (fun j hj e => by have := HS.out j hj; omega); have hb6 := hbk.upd hu6 hbk.size (fun i _ e => by omega); have hz6 := Nat.le_trans hzk hu6.size)
        go_wp2_with (go_at_call 22; (with_reducible refine (HBS _ hcb6).out.mono ?_); rintro e w7 ⟨rfl, hc7, hu7⟩; have hcp7 := hc6.upd hu7 (by omega); have hq7 := hq6.upd hu7 (fun j hj e => by have := HS.out j hj; omega); have hb7 := hb6.upd hu7 hb6.size (fun i _ e => by omega); have hz7 := Nat.le_trans hz6 hu7.size)
        go_wp2_with (go_at_call 17; (with_reducible refine (HQ _ hq7).out.mono ?_); rintro e w8 ⟨rfl, hq8⟩)
        obtain ⟨S8, hq8, hu8, hs8⟩ := hq8
        have hcp8 := hcp7.upd hu8 (fun h => by have := HS.out _ h; omega)
        have hcb8 := hc7.upd hu8 (fun h => by have := HS.out _ h; omega)
        have hb8 := hb7.upd hu8 hb7.size (fun i _ h => by have := HS.out _ h; omega)
        have hz8 := Nat.le_trans hz7 hu8.size
        have HS8 := Lib.hid (show ∀ j, S8 j → w.heap.size + 3 ≤ j from fun j hj => (hs8 j hj).elim (HS.out j) (fun h => Nat.le_trans hz7 h))
        change PerAt w8 S8 g p (1 + q) l0 (k + 1) at hq8
        clear hs8 hq7 hq6 hcp7 hcb6 hc6 hc7 hc hb'
        go_wp2
        go_quiet ((go_at_call 13; first | ((with_reducible refine (HNP _ (hcp8.drewN _)).out.mono ?_); rintro e wq ⟨rfl, rfl⟩; exact ⟨rfl, _, rfl⟩) | ((with_reducible refine (HNB _ (hcb8.drewN _)).out.mono ?_); rintro e wq ⟨rfl, rfl⟩; exact ⟨rfl, _, rfl⟩) | ((with_reducible refine (HNQ S8 _ (hq8.drewN _)).out.mono ?_); rintro e wq ⟨rfl, rfl⟩; exact ⟨rfl, _, rfl⟩)))
        go_wp2
        go_roundw
        case rel => exact ⟨k + 1, S8, true, by omega, by go_num, by rw [HM.out], rfl, Lib.hid (fun _ => HZZ.out), by rw [HM.out]; exact hcp8.drewN _, by rw [HM.out, HNBE.out]; exact hcb8.drewN _, hq8.drewN _, HS8.out, below_drewN hb8 _, hz8⟩
        case measure => simp [intOf]; omega
      · have hx2 : x < m := by omega
        have hdx : decide (m ≤ x) = false := decide_eq_false hx
        clear HE HZ HO hx
        go_wp2_with (go_at_call 12; (with_reducible refine (HPS _ hcpk).out.mono ?_); rintro e w6 ⟨rfl, hc6, hu6⟩; have hcb6 := hcbk.upd hu6 (by omega); have hq6 := hqk.upd hu6 (fun j hj e => by have := HS.out j hj; omega); have hb6 := hbk.upd hu6 hbk.size (fun i _ e => by omega); have hz6 := Nat.le_trans hzk hu6.size)
        go_wp2_with (go_at_call 22; (with_reducible refine (HBS _ hcb6).out.mono ?_); rintro e w7 ⟨rfl, hc7, hu7⟩; have hcp7 := hc6.upd hu7 (by omega); have hq7 := hq6.upd hu7 (fun j hj e => by have := HS.out j hj; omega); have hb7 := hb6.upd hu7 hb6.size (fun i _ e => by omega); have hz7 := Nat.le_trans hz6 hu7.size)
        go_wp2_with (go_at_call 17; (with_reducible refine (HQ _ hq7).out.mono ?_); rintro e w8 ⟨rfl, hq8⟩)
        obtain ⟨S8, hq8, hu8, hs8⟩ := hq8
        have hcp8 := hcp7.upd hu8 (fun h => by have := HS.out _ h; omega)
        have hcb8 := hc7.upd hu8 (fun h => by have := HS.out _ h; omega)
        have hb8 := hb7.upd hu8 hb7.size (fun i _ h => by have := HS.out _ h; omega)
        have hz8 := Nat.le_trans hz7 hu8.size
        have HS8 := Lib.hid (show ∀ j, S8 j → w.heap.size + 3 ≤ j from fun j hj => (hs8 j hj).elim (HS.out j) (fun h => Nat.le_trans hz7 h))
        change PerAt w8 S8 g p (1 + q) l0 (k + 1) at hq8
        clear hs8 hq7 hq6 hcp7 hcb6 hc6 hc7 hc hb'
        go_wp2
        go_quiet ((go_at_call 13; first | ((with_reducible refine (HNP _ (hcp8.drewN _)).out.mono ?_); rintro e wq ⟨rfl, rfl⟩; exact ⟨rfl, _, rfl⟩) | ((with_reducible refine (HNB _ (hcb8.drewN _)).out.mono ?_); rintro e wq ⟨rfl, rfl⟩; exact ⟨rfl, _, rfl⟩) | ((with_reducible refine (HNQ S8 _ (hq8.drewN _)).out.mono ?_); rintro e wq ⟨rfl, rfl⟩; exact ⟨rfl, _, rfl⟩)))
        go_wp2
        go_roundw
        case rel => exact ⟨k + 1, S8, false, by omega, by go_num, by rw [HM.out], rfl, Lib.hid (fun h => by cases h), by rw [HM.out]; exact hcp8.drewN _, by rw [HM.out, HNBE.out]; exact hcb8.drewN _, hq8.drewN _, HS8.out, below_drewN hb8 _, hz8⟩
        case measure => simp [intOf]; omega
    · obtain rfl : k = l0.length := by omega
      go_wp2
      go_ret
      exact ⟨rfl, hbk⟩
end Go.Proofs.Ythpnkjnieljdiaa
