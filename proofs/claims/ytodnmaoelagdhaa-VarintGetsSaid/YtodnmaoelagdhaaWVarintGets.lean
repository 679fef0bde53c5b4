/- The walk of the law VarintGets. -/
import Derived.Test.YtodnmaoelagdhaaVar4
namespace Go.Proofs.Ytodnmaoelagdhaa
open Go.ChangeShapes Go.WideShapes Go.ChangeAt Go.RowKit
open PVar
set_option linter.unusedVariables false

set_option maxRecDepth 100000 in
set_option maxHeartbeats 4000000 in
theorem walk_VarintGets (w : World) (a0 : ByteArray) (w0 : a0.size ≤ maxLen) :
    Calls Try.prog 6 #[.string a0] w fun e w' => e = .returned (.bool true) ∧ Below w.heap.size w w' := by
  by_cases hbig : 200 < a0.size
  · go_enter Try.func6, Try.ntmps6
    go_wp2_with (go_at_call 16; refine (speaks2 _).mono ?_; rintro e w1 ⟨rfl, hb⟩)
    go_ret
    exact ⟨rfl, hb⟩
  · have c1 := fun w => var_get a0 w w0
    have c2 := fun w => ref_get a0 w w0
    have c3 := fun w => var_getint a0 w w0
    have hsp := @get_spec a0.data.toList (get a0.data.toList).1 (get a0.data.toList).2.1
    rcases get_err a0.data.toList with h | h | h
    · obtain ⟨s1, s2, s3, s4⟩ := hsp (by rw [← h])
      generalize get a0.data.toList = g at *
      obtain ⟨a, b, c⟩ := g
      simp only at h c1 c2 c3 s1 s2 s3 s4
      subst h
      have S2 := Lib.hid s2
      have S4 := Lib.hid s4
      have hb : b ≤ a0.size := by simpa using s3
      clear s1 s2 s3 s4 hsp
      have HC1 := Lib.hid c1
      have HC2 := Lib.hid c2
      have HC3 := Lib.hid c3
      clear c1 c2 c3
      go_enter Try.func6, Try.ntmps6
      go_wp2_with (first | (go_at_call 16; refine (speaks2 _).mono ?_; rintro e w1 ⟨rfl, hb⟩) | (go_at_call 17; refine (HC1.out _).mono ?_; rintro e w' ⟨rfl, rfl⟩) | (go_at_call 18; refine (HC2.out _).mono ?_; rintro e w' ⟨rfl, rfl⟩) | (go_at_call 19; refine (HC3.out _).mono ?_; rintro e w' ⟨rfl, rfl⟩) | (go_at_call 20; refine (ref_back _ _ S4.out).mono ?_; rintro e w' ⟨rfl, rfl⟩))
      go_region_with (first | (go_at_call 21; refine (put_nil _ _ S4.out).mono ?_; rintro e w2 ⟨v2, rfl, kc, hb2⟩))
      go_wp2
      go_ret
      have hq : (PVar.digs a == (a0.extract 0 b).toList) = true := by
        have h2 : a0.data.toList.take b = PVar.digs a := S2.out
        rw [Lib.extract_toList, ← h2]
        simp
      refine ⟨ret_true hq, hb.drew.trans (hb2.mono ?_)⟩
      exact hb.size
    · rw [h] at c1 c2 c3
      clear hsp h
      have HC1 := Lib.hid c1
      have HC2 := Lib.hid c2
      have HC3 := Lib.hid c3
      clear c1 c2 c3
      go_enter Try.func6, Try.ntmps6
      go_wp2_with (first | (go_at_call 16; refine (speaks2 _).mono ?_; rintro e w1 ⟨rfl, hb⟩) | (go_at_call 17; refine (HC1.out _).mono ?_; rintro e w' ⟨rfl, rfl⟩) | (go_at_call 18; refine (HC2.out _).mono ?_; rintro e w' ⟨rfl, rfl⟩) | (go_at_call 19; refine (HC3.out _).mono ?_; rintro e w' ⟨rfl, rfl⟩) | (go_at_call 20; refine (ref_back _ _ (by decide)).mono ?_; rintro e w' ⟨rfl, rfl⟩))
      go_quiet (fail)
      go_wp2
      go_ret
      exact ⟨rfl, below_drewN hb _⟩
    · rw [h] at c1 c2 c3
      clear hsp h
      have HC1 := Lib.hid c1
      have HC2 := Lib.hid c2
      have HC3 := Lib.hid c3
      clear c1 c2 c3
      go_enter Try.func6, Try.ntmps6
      go_wp2_with (first | (go_at_call 16; refine (speaks2 _).mono ?_; rintro e w1 ⟨rfl, hb⟩) | (go_at_call 17; refine (HC1.out _).mono ?_; rintro e w' ⟨rfl, rfl⟩) | (go_at_call 18; refine (HC2.out _).mono ?_; rintro e w' ⟨rfl, rfl⟩) | (go_at_call 19; refine (HC3.out _).mono ?_; rintro e w' ⟨rfl, rfl⟩) | (go_at_call 20; refine (ref_back _ _ (by decide)).mono ?_; rintro e w' ⟨rfl, rfl⟩))
      go_quiet (fail)
      go_wp2
      go_ret
      exact ⟨rfl, below_drewN hb _⟩
end Go.Proofs.Ytodnmaoelagdhaa
