/- percent: a record came. -/
import Derived.Test.YthpnkjnieljdiaaPer2
import Derived.BigRegion
namespace Go.Proofs.Ythpnkjnieljdiaa
open Go.ChangeShapes Go.WideShapes Go.ChangeAt Go.RowKit
open PHist PRing PSat PClamp PBound
set_option linter.unusedVariables false
set_option linter.unusedSimpArgs false

theorem both_most {w : World} {F R : Nat → Prop} {n : Int} {b : Bool} {p M : Int} {g G r : Nat} {L : List Int} (h : Both w F R (pre n b p M G) g G r L) (M' : Int) :
    Both (w.setCell ⟨g, 3, none⟩ (.int .i64 M')) F R (pre n b p M' G) g G r L ∧ Upd (fun k => k = g) w (w.setCell ⟨g, 3, none⟩ (.int .i64 M')) := by
  have hu : Upd (fun k => k = g) w (w.setCell ⟨g, 3, none⟩ (.int .i64 M')) := (Upd.refl (fun k => k = g) w).setCell (p := ⟨g, 3, none⟩) (fun _ => rfl) _
  refine ⟨⟨h.1.redo hu (fun v m hA => ?_), h.2.1.upd hu (fun k hk e => by subst e; exact h.2.2 k h.1.mem hk), h.2.2⟩, hu⟩
  have := hA.set 3 (by simp) (.int .i64 M')
  simpa [pre] using this

def RaiseB (F R : Nat → Prop) (p M A m : Int) (g G r : Nat) (L : List Int) (w w' : World) : Prop :=
  ∃ n b, Both w' F R (pre n b p M G) g G r L ∧ (if b = true then n else -9223372036854775808) = (if m < A then A else m) ∧ Upd (fun k => k = g) w w'
theorem both_raise (F R : Nat → Prop) (n : Int) (b : Bool) (p M m A : Int) (g G r : Nat) (L : List Int) (w : World) (h : Both w F R (pre n b p M G) g G r L) (hm : (if b = true then n else -9223372036854775808) = m) :
    Calls Try.prog 25 #[.pointer (some ⟨g, 0, none⟩), .int .i64 A] w fun e w' => e = .returned (.bool (decide (m < A))) ∧ RaiseB F R p M A m g G r L w w' := by
  obtain ⟨v, rs, hC, hR⟩ := h.1
  refine (cl_raise g m A _ w ⟨n, b, hC.at_, hm⟩).mono ?_
  rintro e w' ⟨rfl, ⟨n', b', hat', hm'⟩, hu⟩
  refine ⟨rfl, n', b', ⟨⟨v, rs, ⟨hat', hC.sl.upd hu (fun k hk => (hC.own.2.2 k hk).2), ⟨hC.own.1, fun k hk => Nat.lt_of_lt_of_le (hC.own.2.1 k hk) hu.size, hC.own.2.2⟩⟩, hR⟩, h.2.1.upd hu (fun k hk e => by subst e; exact h.2.2 k h.1.mem hk), h.2.2⟩, hm', hu⟩

set_option maxHeartbeats 4000000 in
theorem pc_seen (S : Nat → Prop) (g p : Nat) (M m : Int) (r : Nat) (L : List Int) (kd t : Int) (s : ByteArray) (w : World) (h : PerC w S g p M m r L) (hp : p ≤ 100) (hr : r ≤ 255)
    (hMb : -9223372036854775808 ≤ M ∧ M ≤ 9223372036854775807) (ht : -9223372036854775808 ≤ t ∧ t ≤ 9223372036854775807) (M' lag z A m' : Int) (L' : List Int)
    (hM' : (if M < t then t else M) = M') (hlag : sub M' t = lag) (hL' : push r L lag = L') (hz : pick L' p = z) (hzb : -9223372036854775808 ≤ z ∧ z ≤ 9223372036854775807) (hA : after M' z = A) (hm' : (if m < A then A else m) = m') :
    Calls Try.prog 17 #[.pointer (some ⟨g, 0, none⟩), .agg #[.int .i64 kd, .int .i64 t, .string s]] w fun e w' => e = .returned (.tuple #[]) ∧ PPost S g p M' m' r L' w w' := by
  have hM'b : -9223372036854775808 ≤ M' ∧ M' ≤ 9223372036854775807 := by rw [← hM']; split <;> omega
  have hmx : max M t = M' := by rw [← hM']; split <;> omega
  have hle := h.len
  have hlt := h.lt g h.mem
  have hPC := h
  obtain ⟨n, b, G, F, R, h1, h2, h3⟩ := h
  have hne : g ≠ w.heap.size := by omega
  have hA0 := At.alloc w [.int .i64 kd, .int .i64 t, .string s] 27
  have hu : Upd (fun _ => False) w (w.alloc (.cells #[.int .i64 kd, .int .i64 t, .string s] 27)) := (Upd.refl _ w).alloc _
  have h1a := h1.upd hu (fun _ _ h => h)
  have HSUB := fun w' => Lib.hid (sat_sub M' t w' hM'b ht)
  rw [hlag] at HSUB
  have HKP := fun w' h => Lib.hid (pc_keep F R (.int .i64 n) (.bool b) (.int .i64 p) (.int .i64 M') g G r L L' lag w' h hr hL')
  have HAF := fun w' => Lib.hid (bo_after M' z w' hM'b hzb)
  rw [hA] at HAF
  have HM := Lib.hid hm'
  have HZ := Lib.hid hz
  clear hM' hlag hL' hz hA hm' hPC
  by_cases hx : M < t
  · have hE := Lib.hid (show t = M' by omega)
    go_enter Try.func17, Try.ntmps17
    go_wp2
    generalize hW : w.alloc (.cells #[.int .i64 kd, .int .i64 t, .string s] 27) = w1 at *
    change At w1 w.heap.size [.int .i64 kd, .int .i64 t, .string s] at hA0
    obtain ⟨hr0, r0, y0, r1, y1, r2, y2⟩ := hA0.three
    have HB := Lib.hid h1a
    obtain ⟨v, q, hat⟩ := h1a.1.cells
    have hg := hat.1
    have c3 := (hat.2 3 (by simp)).1
    have f3 := (hat.2 3 (by simp)).2
    simp only [pre, List.getElem_cons_zero, List.getElem_cons_succ] at c3
    have HA0 := Lib.hid hA0
    clear hat h1 h1a
    go_region
    obtain ⟨hB2, hu2⟩ := both_most HB.out t
    have hB2 := hB2.upd (S := fun _ => False) ((Upd.refl _ _).drew) (fun _ _ h => h)
    have hA2 := (HA0.out.upd hu2 (by omega)).drew
    have hU2 : Upd (fun k => k = g) w (w1.setCell ⟨g, 3, none⟩ (.int .i64 t)).drew := (hu.mono (fun _ _ h => h.elim)).trans hu2.drew (fun i hi e => e)
    change Both (w1.setCell ⟨g, 3, none⟩ (.int .i64 t)).drew _ _ _ _ _ _ _ at hB2
    change At (w1.setCell ⟨g, 3, none⟩ (.int .i64 t)).drew _ _ at hA2
    have HU2 := Lib.hid hU2
    have hs1 := hU2.size
    clear c3 f3 hg r0 y0 r1 y1 r2 y2 hr0 hu2 hU2 hmx hu
    generalize (w1.setCell ⟨g, 3, none⟩ (.int .i64 t)).drew = w2 at *
    rw [hE.out] at hB2
    obtain ⟨hr0, r0, y0, r1, y1, r2, y2⟩ := hA2.three
    obtain ⟨v, q, hat⟩ := hB2.1.cells
    have hg := hat.1
    have c3 := (hat.2 3 (by simp)).1
    simp only [pre, List.getElem_cons_zero, List.getElem_cons_succ] at c3
    have HB2 := Lib.hid hB2
    clear hat hB2 hA2
    go_wp2
    go_region_with (first | (go_at_call 28; refine (HSUB _).out.mono ?_; rintro e w' ⟨rfl, rfl⟩) | (go_at_call 27; refine (HKP _ (HB2.out.upd (S := fun _ => False) ((Upd.refl _ _).drew) (fun _ _ h => h))).out.mono ?_; rintro e w3 ⟨rfl, hq3⟩))
    all_goals
      obtain ⟨F3, R3, B3, U3, g3, q3⟩ := hq3
      have hlt3 := B3.1.lt g B3.1.mem
      have hP3 : PerC w3 (fun k => F3 k ∨ R3 k) g p M' m r L' := ⟨n, b, G, F3, R3, B3, h2, fun k => Iff.rfl⟩
      have HU3 := Lib.hid (show Upd S w w3 from (HU2.out.mono (fun k hk e => by subst e; exact (h3 k).2 (.inl HB.out.1.mem))).drew.trans U3 (fun k hk e => (h3 k).2 e))
      have HLG := Lib.hid (pc_lag _ g p p M' m r L' z _ hP3.drew rfl hp hr HZ.out)
      have HRS := fun w' h => Lib.hid (both_raise F3 R3 n b p M' m A g G r L' w' h h2)
      have HB3 := Lib.hid (B3.upd (S := fun _ => False) ((Upd.refl _ _).drew) (fun _ _ h => h))
      have HF3 := Lib.hid (show ∀ k, F3 k ∨ R3 k → S k ∨ w.heap.size ≤ k from fun k hk => by
        have hs2 : w.heap.size ≤ w2.heap.size := hs1
        rcases hk with hk | hk
        · rcases g3 k hk with h | h
          · exact .inl ((h3 k).2 (.inl h))
          · exact .inr (Nat.le_trans hs2 h)
        · rcases q3 k hk with h | h
          · exact .inl ((h3 k).2 (.inr h))
          · exact .inr (Nat.le_trans hs2 h))
      obtain ⟨v5, q5, hat5⟩ := B3.1.cells
      have hg5 := hat5.1
      have c5 := (hat5.2 3 (by simp)).1
      simp only [pre, List.getElem_cons_zero, List.getElem_cons_succ] at c5
      clear hat5 B3 hP3 U3 r0 y0 r1 y1 r2 y2 hr0 c3 hg g3 q3
      go_wp2
      go_region_with (first | (go_at_call 18; refine HLG.out.mono ?_; rintro e w4 ⟨rfl, hb4⟩; have hB4 := HB3.out.upd (Upd.of_below hb4 (S := fun k => w3.drew.heap.size ≤ k) (fun _ _ h => h)) (fun k hk hk2 => by have h1 := HB3.out.1.lt k; have h2 := HB3.out.2.1.lt k; rcases hk with h | h; exact absurd (h1 h) (by omega); exact absurd (h2 h) (by omega)); have c6 : w4.cell? ⟨g, 3, none⟩ = some (.int .i64 M') := (hb4.cell (p := ⟨g, 3, none⟩) hg5).trans c5) | (go_at_call 29; refine (HAF _).out.mono ?_; rintro e w' ⟨rfl, rfl⟩) | (go_at_call 25; refine (HRS _ hB4).out.mono ?_; rintro e w5 ⟨rfl, hrs⟩))
      all_goals
        obtain ⟨n6, b6, B6, m6, U6⟩ := hrs
        go_end0
        refine ⟨rfl, fun k => F3 k ∨ R3 k, ⟨n6, b6, G, F3, R3, B6, by rw [m6, HM.out], fun k => Iff.rfl⟩, ?_, HF3.out⟩
        exact ((HU3.out.drew.trans (Upd.of_below hb4 (S := fun _ => False) (fun k hk h => by omega)) (fun _ _ h => h.elim)).trans U6 (fun k hk e => by subst e; exact (h3 k).2 (.inl HB.out.1.mem)))
  · have hE := Lib.hid (show M = M' by omega)
    go_enter Try.func17, Try.ntmps17
    go_wp2
    generalize hW : w.alloc (.cells #[.int .i64 kd, .int .i64 t, .string s] 27) = w1 at *
    change At w1 w.heap.size [.int .i64 kd, .int .i64 t, .string s] at hA0
    obtain ⟨hr0, r0, y0, r1, y1, r2, y2⟩ := hA0.three
    have HB := Lib.hid h1a
    obtain ⟨v, q, hat⟩ := h1a.1.cells
    have hg := hat.1
    have c3 := (hat.2 3 (by simp)).1
    have f3 := (hat.2 3 (by simp)).2
    simp only [pre, List.getElem_cons_zero, List.getElem_cons_succ] at c3
    have HA0 := Lib.hid hA0
    clear hat h1 h1a
    go_region
    obtain ⟨hB2, hu2⟩ := both_most HB.out M
    have hB2 := hB2.upd (S := fun _ => False) ((Upd.refl _ _).drew) (fun _ _ h => h)
    have hA2 := (HA0.out.upd hu2 (by omega)).drew
    have hU2 : Upd (fun k => k = g) w (w1.setCell ⟨g, 3, none⟩ (.int .i64 M)).drew := (hu.mono (fun _ _ h => h.elim)).trans hu2.drew (fun i hi e => e)
    change Both (w1.setCell ⟨g, 3, none⟩ (.int .i64 M)).drew _ _ _ _ _ _ _ at hB2
    change At (w1.setCell ⟨g, 3, none⟩ (.int .i64 M)).drew _ _ at hA2
    have HU2 := Lib.hid hU2
    have hs1 := hU2.size
    clear c3 f3 hg r0 y0 r1 y1 r2 y2 hr0 hu2 hU2 hmx hu
    generalize (w1.setCell ⟨g, 3, none⟩ (.int .i64 M)).drew = w2 at *
    rw [hE.out] at hB2
    obtain ⟨hr0, r0, y0, r1, y1, r2, y2⟩ := hA2.three
    obtain ⟨v, q, hat⟩ := hB2.1.cells
    have hg := hat.1
    have c3 := (hat.2 3 (by simp)).1
    simp only [pre, List.getElem_cons_zero, List.getElem_cons_succ] at c3
    have HB2 := Lib.hid hB2
    clear hat hB2 hA2
    go_wp2
    go_region_with (first | (go_at_call 28; refine (HSUB _).out.mono ?_; rintro e w' ⟨rfl, rfl⟩) | (go_at_call 27; refine (HKP _ (HB2.out.upd (S := fun _ => False) ((Upd.refl _ _).drew) (fun _ _ h => h))).out.mono ?_; rintro e w3 ⟨rfl, hq3⟩))
    all_goals
      obtain ⟨F3, R3, B3, U3, g3, q3⟩ := hq3
      have hlt3 := B3.1.lt g B3.1.mem
      have hP3 : PerC w3 (fun k => F3 k ∨ R3 k) g p M' m r L' := ⟨n, b, G, F3, R3, B3, h2, fun k => Iff.rfl⟩
      have HU3 := Lib.hid (show Upd S w w3 from (HU2.out.mono (fun k hk e => by subst e; exact (h3 k).2 (.inl HB.out.1.mem))).drew.trans U3 (fun k hk e => (h3 k).2 e))
      have HLG := Lib.hid (pc_lag _ g p p M' m r L' z _ hP3.drew rfl hp hr HZ.out)
      have HRS := fun w' h => Lib.hid (both_raise F3 R3 n b p M' m A g G r L' w' h h2)
      have HB3 := Lib.hid (B3.upd (S := fun _ => False) ((Upd.refl _ _).drew) (fun _ _ h => h))
      have HF3 := Lib.hid (show ∀ k, F3 k ∨ R3 k → S k ∨ w.heap.size ≤ k from fun k hk => by
        have hs2 : w.heap.size ≤ w2.heap.size := hs1
        rcases hk with hk | hk
        · rcases g3 k hk with h | h
          · exact .inl ((h3 k).2 (.inl h))
          · exact .inr (Nat.le_trans hs2 h)
        · rcases q3 k hk with h | h
          · exact .inl ((h3 k).2 (.inr h))
          · exact .inr (Nat.le_trans hs2 h))
      obtain ⟨v5, q5, hat5⟩ := B3.1.cells
      have hg5 := hat5.1
      have c5 := (hat5.2 3 (by simp)).1
      simp only [pre, List.getElem_cons_zero, List.getElem_cons_succ] at c5
      clear hat5 B3 hP3 U3 r0 y0 r1 y1 r2 y2 hr0 c3 hg g3 q3
      go_wp2
      go_region_with (first | (go_at_call 18; refine HLG.out.mono ?_; rintro e w4 ⟨rfl, hb4⟩; have hB4 := HB3.out.upd (Upd.of_below hb4 (S := fun k => w3.drew.heap.size ≤ k) (fun _ _ h => h)) (fun k hk hk2 => by have h1 := HB3.out.1.lt k; have h2 := HB3.out.2.1.lt k; rcases hk with h | h; exact absurd (h1 h) (by omega); exact absurd (h2 h) (by omega)); have c6 : w4.cell? ⟨g, 3, none⟩ = some (.int .i64 M') := (hb4.cell (p := ⟨g, 3, none⟩) hg5).trans c5) | (go_at_call 29; refine (HAF _).out.mono ?_; rintro e w' ⟨rfl, rfl⟩) | (go_at_call 25; refine (HRS _ hB4).out.mono ?_; rintro e w5 ⟨rfl, hrs⟩))
      all_goals
        obtain ⟨n6, b6, B6, m6, U6⟩ := hrs
        go_end0
        refine ⟨rfl, fun k => F3 k ∨ R3 k, ⟨n6, b6, G, F3, R3, B6, by rw [m6, HM.out], fun k => Iff.rfl⟩, ?_, HF3.out⟩
        exact ((HU3.out.drew.trans (Upd.of_below hb4 (S := fun _ => False) (fun k hk h => by omega)) (fun _ _ h => h.elim)).trans U6 (fun k hk e => by subst e; exact (h3 k).2 (.inl HB.out.1.mem)))
end Go.Proofs.Ythpnkjnieljdiaa
