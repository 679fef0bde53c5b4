/- The walk of AlignFree. -/
import Derived.Test.YtcenodjifafdeaaKAlign
namespace Go.Proofs.Ytcenodjifafdeaa
set_option maxRecDepth 4000
open Go.ChangeShapes Go.WideShapes Go.ChangeAt Go.RowKit
open PSat PAlign
set_option linter.unusedVariables false
set_option linter.unusedSimpArgs false

theorem add_up {a d : Int} (h : inR a) (hd : 0 ≤ d) : a ≤ add a d := by
  unfold inR at h
  unfold add clampI
  (repeat' split) <;> omega
set_option maxHeartbeats 4000000 in
theorem walk_AlignFree (w : World) (a0 : Int) (w0 : (Lit.int .i64 a0).wf = true) (a1 : Int) (w1 : (Lit.int .i64 a1).wf = true) (a2 : Int) (w2 : (Lit.int .i64 a2).wf = true) :
    Calls Try.prog 6 #[.int .i64 a0, .int .i64 a1, .int .i64 a2] w fun e w' => e = .returned (.bool true) ∧ Below w.heap.size w w' := by
  have h0 : inR a0 := bounds_i64 w0
  have h1 : inR a1 := bounds_i64 w1
  have h2 : inR a2 := bounds_i64 w2
  clear w0 w1 w2
  by_cases hneg : a0 < 0
  · go_enter Try.func6, Try.ntmps6
    go_wp2_with (go_at_call 17; refine (speaks18 _).mono ?_; rintro e w1 ⟨rfl, hb1⟩)
    go_ret
    exact ⟨rfl, hb1⟩
  have hpos : 0 ≤ a0 := by omega
  clear hneg
  obtain ⟨m, hif, hm1, hm2⟩ : ∃ m : Int, (if a1 < a2 then a2 else a1) = m ∧ inR m ∧ a2 ≤ m := ⟨_, rfl, by split <;> assumption, by split <;> omega⟩
  have hu1 := add_up h1 hpos
  have hu2 := add_up hm1 hpos
  have HN := fun w' => Lib.hid (al_new a0 1 1 w' h0 (by decide) (by omega))
  have HG := fun g gl w' (h : AlI w w' g gl 1 a0 (-9223372036854775808) (fun _ => -9223372036854775808)) => Lib.hid (al_global g gl 1 a0 _ a1 _ w' h.al h1)
  have HO := fun g gl w' (z : Int) (hz : ((0 : Nat) : Int) = z) (h : AlI w w' g gl 1 a0 a1 (fun _ => -9223372036854775808)) => Lib.hid (hz ▸ al_local g gl 1 a0 _ _ 0 a2 w' h.al (by omega))
  have HP := fun g gl w' (z : Int) (hz : ((0 : Nat) : Int) = z) (h : AlI w w' g gl 1 a0 a1 (PTree.put (fun _ => -9223372036854775808) 0 a2)) => Lib.hid (hz ▸ al_paused g gl 1 a0 _ _ 0 w' h.al (by omega))
  have HG2 := fun g gl w' (h : AlI w w' g gl 1 a0 a1 (PTree.put (fun _ => -9223372036854775808) 0 a2)) => Lib.hid (al_global g gl 1 a0 _ m _ w' h.al hm1)
  have HP2 := fun g gl w' (z : Int) (hz : ((0 : Nat) : Int) = z) (h : AlI w w' g gl 1 a0 m (PTree.put (fun _ => -9223372036854775808) 0 a2)) => Lib.hid (hz ▸ al_paused g gl 1 a0 _ _ 0 w' h.al (by omega))
  have HE := fun g gl w' (h : AlI w w' g gl 1 a0 m (PTree.put (fun _ => -9223372036854775808) 0 a2)) => Lib.hid (al_held g gl 1 a0 _ _ w' h.al)
  have hp0 : PTree.put (fun _ => (-9223372036854775808 : Int)) 0 a2 0 = a2 := PTree.put_same _ _ _
  have hbt : btw (PTree.put (fun _ => (-9223372036854775808 : Int)) 0 a2) (add m a0) 9223372036854775807 1 = [] := by
    show [] ++ (if _ then _ else _) = _
    rw [hp0, if_neg (by omega)]; rfl
  rw [hbt] at HE
  rw [hp0, show decide (add m a0 < a2) = false from decide_eq_false (by omega)] at HP2
  rw [hp0] at HP
  generalize btw (PTree.put (fun _ => (-9223372036854775808 : Int)) 0 a2) (add a1 a0) (add m a0) 1 = R2 at *
  generalize btw (fun _ => (-9223372036854775808 : Int)) (add (-9223372036854775808) a0) (add a1 a0) 1 = R1 at *
  unfold inR at h0 h1 h2 hm1
  clear hbt hp0 hu2
  generalize add a1 a0 = M at *
  by_cases hc : M < a2
  · have hd : decide (M < a2) = true := decide_eq_true hc
    rw [hd] at HP
    have hc2 : a1 < a2 := by omega
    rw [if_pos hc2] at hif
    subst hif
    clear hd
    go_enter Try.func6, Try.ntmps6
    go_wp2_with (go_at_call 17; refine (speaks18 _).mono ?_; rintro e w1 ⟨rfl, hb1⟩)
    go_wp2_with (go_at_call 18; refine (HN _).out.mono ?_; intro e w2 h2; obtain ⟨g, gl, rfl, i2⟩ := AlI.made hb1 h2)
    go_wp2_with (go_at_call 22; (with_reducible refine (HG _ _ _ i2).out.mono ?_); intro e w3 h3; obtain ⟨ad, c, rfl, -, h3⟩ := h3; have i3 := i2.did h3)
    go_wp2_with (go_at_call 23; (with_reducible refine (HO _ _ _ 0 (by omega) i3).out.mono ?_); rintro e w4 ⟨rfl, h4⟩; have i4 := i3.did h4)
    go_wp2_with (go_at_call 26; (with_reducible refine (HP _ _ _ 0 (by omega) i4).out.mono ?_); rintro e w5 ⟨rfl, hm⟩; have i5 := i4.on (on_quiet hm); clear hm)
    go_wp2_with (go_at_call 22; (with_reducible refine (HG2 _ _ _ i5).out.mono ?_); intro e w6 h6; obtain ⟨ad6, c6, rfl, -, h6⟩ := h6; have i6 := i5.did h6)
    go_wp2_with (go_at_call 26; (with_reducible refine (HP2 _ _ _ 0 (by omega) i6).out.mono ?_); rintro e w7 ⟨rfl, hm⟩; have i7 := i6.on (on_quiet hm); clear hm)
    go_wp2_with (go_at_call 25; (with_reducible refine (HE _ _ _ i7).out.mono ?_); intro e w8 h8; obtain ⟨ad8, c8, rfl, -, hb8⟩ := h8; have i8 := i7.on hb8)
    have hb9 := i8.new
    go_ret
    exact ⟨rfl, hb9⟩
  · have hd : decide (M < a2) = false := decide_eq_false hc
    rw [hd] at HP
    clear hd
    go_enter Try.func6, Try.ntmps6
    go_wp2_with (go_at_call 17; refine (speaks18 _).mono ?_; rintro e w1 ⟨rfl, hb1⟩)
    go_wp2_with (go_at_call 18; refine (HN _).out.mono ?_; intro e w2 h2; obtain ⟨g, gl, rfl, i2⟩ := AlI.made hb1 h2)
    go_wp2_with (go_at_call 22; (with_reducible refine (HG _ _ _ i2).out.mono ?_); intro e w3 h3; obtain ⟨ad, c, rfl, -, h3⟩ := h3; have i3 := i2.did h3)
    go_wp2_with (go_at_call 23; (with_reducible refine (HO _ _ _ 0 (by omega) i3).out.mono ?_); rintro e w4 ⟨rfl, h4⟩; have i4 := i3.did h4)
    go_wp2_with (go_at_call 26; (with_reducible refine (HP _ _ _ 0 (by omega) i4).out.mono ?_); rintro e w5 ⟨rfl, hm⟩; have i5 := i4.on (on_quiet hm); clear hm)
    go_wp2_with (go_at_call 22; (with_reducible refine (HG2 _ _ _ i5).out.mono ?_); intro e w6 h6; obtain ⟨ad6, c6, rfl, -, h6⟩ := h6; have i6 := i5.did h6)
    go_wp2_with (go_at_call 26; (with_reducible refine (HP2 _ _ _ 0 (by omega) i6).out.mono ?_); rintro e w7 ⟨rfl, hm⟩; have i7 := i6.on (on_quiet hm); clear hm)
    go_wp2_with (go_at_call 25; (with_reducible refine (HE _ _ _ i7).out.mono ?_); intro e w8 h8; obtain ⟨ad8, c8, rfl, -, hb8⟩ := h8; have i8 := i7.on hb8)
    have hb9 := i8.new
    go_ret
    exact ⟨rfl, hb9⟩
end Go.Proofs.Ytcenodjifafdeaa
