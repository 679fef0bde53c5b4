/- The walk of the law QuoteSigns. -/
import Derived.Test.YtfgmbmpbgokolaaDoorWQuoteBack
namespace Go.Proofs.YtfgmbmpbgokolaaDoor
open Go.ChangeShapes Go.WideShapes Go.ChangeAt Go.RowKit
open PSign PHex PQuote
set_option linter.unusedVariables false

set_option maxRecDepth 100000 in
set_option maxHeartbeats 2000000 in
theorem walk_QuoteSigns (w : World) (he : Env w) (a0 : ByteArray) (w0 : a0.size ≤ maxLen) (a1 : Int) (w1 : (Lit.int .i64 a1).wf = true) :
    Calls Tryd.prog 3 #[.string a0, .int .i64 a1] w fun e w' => e = .returned (.bool true) ∧ Below w.heap.size w w' := by
  have H4 := Lib.hid (speaks4 w he)
  by_cases hbig : 500 < a0.size
  · go_enter Tryd.func3, Tryd.ntmps3
    go_wp2_with (first | (go_at_call 7; refine H4.out.mono ?_; rintro e w1 ⟨rfl, hb1⟩))
    go_ret
    exact ⟨rfl, hb1⟩
  · have hin := bounds_i64 w1
    have hl : a0.data.toList.length = a0.size := by simp
    have hlen := signs_len a0.data.toList
    have hrg := signs_range a0.data.toList
    have HG := Lib.hid (fun w => q_signs a0 w (by omega))
    have HF := Lib.hid (fun w => ref_signs a0 w (by omega))
    have HH := Lib.hid (fun (n : Int) (w : World) (h : -9223372036854775808 ≤ n ∧ n ≤ 9223372036854775807) => q_has a0 n w h.1 h.2)
    have HRH := Lib.hid (fun (n : Int) (w : World) => ref_has a0 n w (by omega))
    rw [hl] at hlen
    clear hl w1
    generalize signs a0.data.toList = l at *
    have hl4 : l.length ≤ 4096 := by omega
    clear hlen
    have HX : Hid (∀ w, Calls Tryd.prog 11 #[.string a0, .int .i64 a1] w fun e w' => e = .returned (.bool (hasn l a1)) ∧ Below w.heap.size w w') := fun w => HH.out a1 w hin
    have HY : Hid (∀ w, Calls Tryd.prog 12 #[.string a0, .int .i64 a1] w fun e w' => e = .returned (.bool (hasn l a1)) ∧ Below w.heap.size w w') := fun w => HRH.out a1 w
    have HZ : Hid (∀ (k : Nat) (h : k < l.length) (w : World), Calls Tryd.prog 11 #[.string a0, .int .i64 l[k]] w fun e w' => e = .returned (.bool (decide (0 ≤ l[k]))) ∧ Below w.heap.size w w') := by
      intro k hk w
      have hr := hrg l[k] (List.getElem_mem hk)
      have h := HH.out l[k] w (by omega)
      have e : hasn l l[k] = decide (0 ≤ l[k]) := by
        unfold hasn
        exact decide_eq_decide.2 ⟨fun h => h.1, fun h => ⟨h, List.getElem_mem hk⟩⟩
      rw [e] at h
      exact h
    clear HH HRH hrg hin
    generalize hasn l a1 = x at *
    have hxx : (x != x) = false := by simp
    go_enter Tryd.func3, Tryd.ntmps3
    go_wp2_with (first | (go_at_call 7; refine H4.out.mono ?_; rintro e w1 ⟨rfl, hb1⟩) | (go_at_call 8; refine (HG.out _).mono ?_; rintro e w2 ⟨v, rfl, hsl, hb2⟩) | (go_at_call 10; refine (HF.out _).mono ?_; rintro e w3 ⟨v2, rfl, hsl2, hb3⟩))
    have hslx : Sl w1.heap.size w3 1 v l.length (iv l) := hsl.upd (Upd.of_below (S := fun k => w2.heap.size ≤ k) hb3 (fun k hk h => by omega)) (fun k hk => by have := hsl.lt k hk; omega)
    have hb3x : Below w.heap.size w w3 := on_below (on_below hb1 hb2) hb3
    refine (ref_same l v v2 l.length l.length w1.heap.size w2.heap.size w3 hslx hsl2 hl4).mono ?_
    obtain ⟨-, a, c, rfl, hint⟩ := hslx.ints
    have HINT := Lib.hid hint
    clear hint hslx hsl hsl2
    rintro e w4 ⟨rfl, n, rfl⟩
    go_wp2_with (first | (go_at_call 11; refine (HX.out _).mono ?_; rintro e w5 ⟨rfl, hb5⟩) | (go_at_call 12; refine (HY.out _).mono ?_; rintro e w6 ⟨rfl, hb6⟩))
    have hb7 : Below w3.heap.size w3 w6 := on_below (below_drewN (Below.refl _ _) n |>.trans (hb5.mono (by simp))) hb6
    go_loopw [31] (fun i wr => ∃ k : Nat, k ≤ l.length ∧ i = .int .i64 k ∧ Below w3.heap.size w3 wr) (fun i _ => l.length - (intOf i).toNat)
    case atStart => exact ⟨0, Nat.zero_le _, rfl, hb7⟩
    case round =>
      obtain ⟨k, hk, rfl, hb⟩ := hrel
      by_cases hlt : k < l.length
      · obtain ⟨b, off, rfl, hbb, hc⟩ := HINT.out k hlt
        have hcx : wr.cell? ⟨b, off + k, none⟩ = some (.int .i64 l[k]) := cell_on hb hc hbb
        have HK : Hid (∀ (w : World), Calls Tryd.prog 11 #[.string a0, .int .i64 l[k]] w fun e w' => e = .returned (.bool (decide (0 ≤ l[k]))) ∧ Below w.heap.size w w') := HZ.out k hlt
        clear hc
        generalize l[k] = z at *
        by_cases hz : 0 ≤ z
        · have hd : decide (0 ≤ z) = true := by simp [hz]
          rw [hd] at HK
          go_wp2_with (first | (go_at_call 11; refine (HK.out _).mono ?_; rintro e w8 ⟨rfl, hb8⟩))
          go_roundw
          case rel => exact ⟨k + 1, by omega, by go_num, on_below hb hb8⟩
          case measure => simp [intOf]; omega
        · have hd : decide (0 ≤ z) = false := by simp [hz]
          have hz' : z < 0 := by omega
          rw [hd] at HK
          go_wp2_with (first | (go_at_call 11; refine (HK.out _).mono ?_; rintro e w8 ⟨rfl, hb8⟩))
          go_roundw
          case rel => exact ⟨k + 1, by omega, by go_num, on_below hb hb8⟩
          case measure => simp [intOf]; omega
      · have hkl : k = l.length := by omega
        subst hkl
        go_wp2
        go_ret
        exact ⟨rfl, on_below hb3x hb⟩
end Go.Proofs.YtfgmbmpbgokolaaDoor
