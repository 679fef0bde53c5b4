/- event: Of, for each type of events. -/
import Derived.Test.YtcigklninmddaaaGreatDoorEv9
namespace Go.Proofs.YtcigklninmddaaaGreatDoor
set_option maxRecDepth 4000
open Go.ChangeShapes Go.WideShapes Go.ChangeAt Go.RowKit
open PWord PQuote PSign PEv
open Go.Lib (itoa)
set_option linter.unusedVariables false
set_option linter.unusedSimpArgs false

/-- Of which type it is. -/
def kd : Ev → Nat
  | .el .. => 0
  | .mark _ => 1
  | .fault .. => 2
/-- Its own cells. -/
def vcs : Ev → List Value
  | .el late p k t x => [.int .i64 p, .int .i64 k, .int .i64 t, .string (bstr x), .bool late]
  | .mark n => [.int .i64 n]
  | .fault p e => [.int .i64 p, .int .i64 e]
theorem vcs_one (v : Ev) : ∀ u ∈ vcs v, u.oneCell' = true := by
  intro u hu
  cases v <;> simp only [vcs, List.mem_cons, List.not_mem_nil, or_false] at hu
  · rcases hu with rfl | rfl | rfl | rfl | rfl <;> rfl
  · subst hu; rfl
  · rcases hu with rfl | rfl <;> rfl
/-- Those of one type. -/
def sel (K : Nat) (l : List Ev) : List Ev := l.filter fun v => kd v == K
theorem sel_snoc (K : Nat) (l : List Ev) (v : Ev) : sel K (l ++ [v]) = if kd v = K then sel K l ++ [v] else sel K l := by
  unfold sel
  rw [List.filter_append]
  by_cases h : kd v = K
  · simp [h]
  · have h2 : (kd v == K) = false := by rw [beq_eq_false_iff_ne]; exact h
    simp [h, h2]
def vcells (l : List Ev) : List Value := l.flatMap vcs
theorem vcells_snoc (l : List Ev) (v : Ev) : vcells (l ++ [v]) = vcells l ++ vcs v := by simp [vcells]
/-- Those of one type, in order. -/
def OfPost (K sz : Nat) (l : List Ev) (w : World) (e : Ending) (w' : World) : Prop :=
  ∃ v, e = .returned v ∧ Sl w.heap.size w' sz v (sel K l).length (vcells (sel K l)) ∧ Below w.heap.size w w'

theorem info_of_element : (Tryz.prog.info? 55).map (fun i => (i.zero, i.size, i.bytes)) = some (some (.agg #[.int .i64 0, .int .i64 0, .int .i64 0, .string ByteArray.empty, .bool false]), 5, 48) := by kernel_rfl
set_option maxRecDepth 100000 in
set_option maxHeartbeats 2000000 in
theorem of_element (a : Option Addr) (n c : Nat) (l : List Ev) (w : World) (hr : RowE w a l) (hn : n = l.length) (hl : n ≤ 100000) : Calls Tryz.prog 21 #[.slice a n c] w (OfPost 0 5 l w) := by
  obtain ⟨i0, hi, hz0, hz1, hz2⟩ := info_parts info_of_element
  have HN := Lib.hid hn
  clear hn
  have h0 : Sl w.heap.size w 5 (.slice none 0 0) 0 (vcells (sel 0 (l.take 0))) := Sl.nil _ _ _
  go_enter Tryz.func21, Tryz.ntmps21
  go_wp2
  go_loopw [3, 10] (fun v i wr => ∃ k m : Nat, i = .int .i64 k ∧ k ≤ n ∧ Hid ((sel 0 (l.take k)).length = m) ∧ m ≤ k ∧ Sl w.heap.size wr 5 v m (vcells (sel 0 (l.take k))) ∧ Below w.heap.size w wr) (fun _ i _ => n - (intOf i).toNat)
  case atStart => exact ⟨0, 0, rfl, Nat.zero_le _, rfl, Nat.le_refl _, h0, Below.refl _ _⟩
  case round =>
    clear h0
    obtain ⟨k, m0, rfl, hk, HM, hmk, hsl, hb⟩ := hrel
    obtain ⟨av, cv, rfl⟩ := hsl.shape
    by_cases hlt : k < n
    · have hk1 : k < l.length := by rw [← HN.out]; exact hlt
      obtain ⟨b, off, rfl, hbl, q0⟩ := (hr.on hb).at_ k hk1
      have HS := Lib.hid (sel_snoc 0 (l.take k) l[k])
      rw [← List.take_succ_eq_append_getElem hk1] at HS
      generalize hE1 : sel 0 (l.take (k + 1)) = E1 at *
      have HE1 := Lib.hid hE1
      clear hE1
      generalize l[k] = ev at *
      generalize sel 0 (l.take k) = E0 at *
      have hwB := hb.size
      have hm1 : m0 + 1 ≤ maxLen := by unfold maxLen; omega
      cases ev with
      | el late p kk t x =>
        have t1 := ta_e_yes p kk t (bstr x) late
        simp only [evv] at q0
        have HS2 : Hid (E1 = E0 ++ [.el late p kk t x]) := by show _ = _; rw [HS.out]; exact if_pos rfl
        go_wp2_with (at_builtin; refine wpList_append_sl _ rfl (.tmp 20) (.tmp 22) 64 64 rfl 55 i0 _ 48 Tryz.underlying64 hi hz0 hz1 hz2 rfl rfl ((hsl.alloc _).alloc _) _ 1 [.int .i64 p, .int .i64 kk, .int .i64 t, .string (bstr x), .bool late] rfl (src_cells Tryz.underlying64 _ _ _ _ (by simp) 5 rfl (vcs_one (.el late p kk t x))) hm1 (by omega) (by simp; omega) ?_; intro v1 w3 k1 k2 k3; obtain ⟨av1, cv1, rfl⟩ := k1.shape)
        exact ⟨⟨k + 1, m0 + 1, by go_num, hlt, by show _ = _; rw [HE1.out, HS2.out, List.length_append, HM.out]; rfl, by omega, by rw [HE1.out, HS2.out, vcells_snoc]; exact k1, ((hb.alloc hwB _).alloc (by simp; omega) _).upd k2 (by simp; omega) (fun i _ hi => by have := (hsl.lt i hi).1; omega)⟩, by simp [intOf]; omega⟩
      | mark m =>
        have t1 := ta_e_no1 (.agg #[.int .i64 m])
        simp only [evv] at q0
        have HS2 : Hid (E1 = E0) := by show _ = _; rw [HS.out]; exact if_neg (show ¬ (1 : Nat) = 0 by decide)
        go_wp2
        exact ⟨⟨k + 1, m0, by go_num, hlt, by show _ = _; rw [HE1.out, HS2.out]; exact HM.out, by omega, by rw [HE1.out, HS2.out]; exact hsl.alloc _, hb.alloc hwB _⟩, by simp [intOf]; omega⟩
      | fault p m =>
        have t1 := ta_e_no2 (.agg #[.int .i64 p, .int .i64 m])
        simp only [evv] at q0
        have HS2 : Hid (E1 = E0) := by show _ = _; rw [HS.out]; exact if_neg (show ¬ (2 : Nat) = 0 by decide)
        go_wp2
        exact ⟨⟨k + 1, m0, by go_num, hlt, by show _ = _; rw [HE1.out, HS2.out]; exact HM.out, by omega, by rw [HE1.out, HS2.out]; exact hsl.alloc _, hb.alloc hwB _⟩, by simp [intOf]; omega⟩
    · obtain rfl : k = n := by omega
      rw [List.take_of_length_le (by rw [← HN.out]; exact Nat.le_refl _)] at hsl HM
      go_wp2
      go_ret
      exact ⟨_, rfl, by rw [HM.out]; exact hsl, hb⟩

theorem info_of_mark : (Tryz.prog.info? 70).map (fun i => (i.zero, i.size, i.bytes)) = some (some (.agg #[.int .i64 0]), 1, 8) := by kernel_rfl
theorem info_of_fault : (Tryz.prog.info? 40).map (fun i => (i.zero, i.size, i.bytes)) = some (some (.agg #[.int .i64 0, .int .i64 0]), 2, 16) := by kernel_rfl
set_option maxRecDepth 100000 in
set_option maxHeartbeats 2000000 in
theorem of_fault (a : Option Addr) (n c : Nat) (l : List Ev) (w : World) (hr : RowE w a l) (hn : n = l.length) (hl : n ≤ 100000) : Calls Tryz.prog 22 #[.slice a n c] w (OfPost 2 2 l w) := by
  obtain ⟨i0, hi, hz0, hz1, hz2⟩ := info_parts info_of_fault
  have HN := Lib.hid hn
  clear hn
  have h0 : Sl w.heap.size w 2 (.slice none 0 0) 0 (vcells (sel 2 (l.take 0))) := Sl.nil _ _ _
  go_enter Tryz.func22, Tryz.ntmps22
  go_wp2
  go_loopw [3, 10] (fun v i wr => ∃ k m : Nat, i = .int .i64 k ∧ k ≤ n ∧ Hid ((sel 2 (l.take k)).length = m) ∧ m ≤ k ∧ Sl w.heap.size wr 2 v m (vcells (sel 2 (l.take k))) ∧ Below w.heap.size w wr) (fun _ i _ => n - (intOf i).toNat)
  case atStart => exact ⟨0, 0, rfl, Nat.zero_le _, rfl, Nat.le_refl _, h0, Below.refl _ _⟩
  case round =>
    clear h0
    obtain ⟨k, m0, rfl, hk, HM, hmk, hsl, hb⟩ := hrel
    obtain ⟨av, cv, rfl⟩ := hsl.shape
    by_cases hlt : k < n
    · have hk1 : k < l.length := by rw [← HN.out]; exact hlt
      obtain ⟨b, off, rfl, hbl, q0⟩ := (hr.on hb).at_ k hk1
      have HS := Lib.hid (sel_snoc 2 (l.take k) l[k])
      rw [← List.take_succ_eq_append_getElem hk1] at HS
      generalize hE1 : sel 2 (l.take (k + 1)) = E1 at *
      have HE1 := Lib.hid hE1
      clear hE1
      generalize l[k] = ev at *
      generalize sel 2 (l.take k) = E0 at *
      have hwB := hb.size
      have hm1 : m0 + 1 ≤ maxLen := by unfold maxLen; omega
      cases ev with
      | el late p kk t x =>
        have t1 := ta_f_no1 (.agg #[.int .i64 p, .int .i64 kk, .int .i64 t, .string (bstr x), .bool late])
        simp only [evv] at q0
        have HS2 : Hid (E1 = E0) := by show _ = _; rw [HS.out]; exact if_neg (show ¬ (0 : Nat) = 2 by decide)
        go_wp2
        exact ⟨⟨k + 1, m0, by go_num, hlt, by show _ = _; rw [HE1.out, HS2.out]; exact HM.out, by omega, by rw [HE1.out, HS2.out]; exact hsl.alloc _, hb.alloc hwB _⟩, by simp [intOf]; omega⟩
      | mark m =>
        have t1 := ta_f_no2 (.agg #[.int .i64 m])
        simp only [evv] at q0
        have HS2 : Hid (E1 = E0) := by show _ = _; rw [HS.out]; exact if_neg (show ¬ (1 : Nat) = 2 by decide)
        go_wp2
        exact ⟨⟨k + 1, m0, by go_num, hlt, by show _ = _; rw [HE1.out, HS2.out]; exact HM.out, by omega, by rw [HE1.out, HS2.out]; exact hsl.alloc _, hb.alloc hwB _⟩, by simp [intOf]; omega⟩
      | fault p m =>
        have t1 := ta_f_yes p m
        simp only [evv] at q0
        have HS2 : Hid (E1 = E0 ++ [.fault p m]) := by show _ = _; rw [HS.out]; exact if_pos rfl
        go_wp2_with (at_builtin; refine wpList_append_sl _ rfl (.tmp 20) (.tmp 22) 66 66 rfl 40 i0 _ 16 Tryz.underlying66 hi hz0 hz1 hz2 rfl rfl ((hsl.alloc _).alloc _) _ 1 [.int .i64 p, .int .i64 m] rfl (src_cells Tryz.underlying66 _ _ _ _ (by simp) 2 rfl (vcs_one (.fault p m))) hm1 (by omega) (by simp; omega) ?_; intro v1 w3 k1 k2 k3; obtain ⟨av1, cv1, rfl⟩ := k1.shape)
        exact ⟨⟨k + 1, m0 + 1, by go_num, hlt, by show _ = _; rw [HE1.out, HS2.out, List.length_append, HM.out]; rfl, by omega, by rw [HE1.out, HS2.out, vcells_snoc]; exact k1, ((hb.alloc hwB _).alloc (by simp; omega) _).upd k2 (by simp; omega) (fun i _ hi => by have := (hsl.lt i hi).1; omega)⟩, by simp [intOf]; omega⟩
    · obtain rfl : k = n := by omega
      rw [List.take_of_length_le (by rw [← HN.out]; exact Nat.le_refl _)] at hsl HM
      go_wp2
      go_ret
      exact ⟨_, rfl, by rw [HM.out]; exact hsl, hb⟩
end Go.Proofs.YtcigklninmddaaaGreatDoor
