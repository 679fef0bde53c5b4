/- quote: a text in marks. -/
import Derived.Test.YtcigklninmddaaaGreatDoorQSign
import Derived.Test.YtcigklninmddaaaGreatDoorQBuild
import Derived.Test.YtcigklninmddaaaGreatDoorKSPlain
namespace Go.Proofs.YtcigklninmddaaaGreatDoor
set_option maxRecDepth 4000
open Go.ChangeShapes Go.WideShapes Go.ChangeAt Go.RowKit
open PSign PHex PQuote
set_option linter.unusedVariables false

theorem enc_low : ∀ n : Nat, n < 128 → Utf8.encode (n : Int) = bstr [UInt8.ofNat n] := by
  intro n h
  have hv : Utf8.valid (n : Int) = true := by unfold Utf8.valid; simp; omega
  unfold Utf8.encode
  simp only [hv, if_true, Int.toNat_natCast]
  rw [if_pos (by omega)]
theorem bcat (l m : List UInt8) : bstr l ++ bstr m = bstr (l ++ m) := by
  apply ByteArray.ext
  simp

set_option maxRecDepth 100000 in
set_option maxHeartbeats 1000000 in
theorem q_told (n : Int) (w : World) (h1 : -256 ≤ n) (h2 : n ≤ 1114111) (he : Env w) :
    Calls Tryz.prog 82 #[.int .i64 n] w fun e w' => e = .returned (.string (bstr (told n))) ∧ Below w.heap.size w w' := by
  by_cases hneg : n < 0
  · have ht : told n = [92, 120] ++ hex (-1 - n).toNat := by unfold told; rw [if_pos hneg]
    have hlen := hex_len 1 (-1 - n).toNat (by omega)
    have hd := q_digits (-1 - n).toNat w (by omega) he
    have hz : (((-1 - n).toNat : Nat) : Int) = -1 - n := by omega
    rw [hz] at hd
    rw [ht]
    have HD := Lib.hid hd
    have hcat : ∀ l : List UInt8, (⟨#[92, 120]⟩ : ByteArray) ++ bstr l = bstr ([92, 120] ++ l) := fun l => bcat [92, 120] l
    have HC := Lib.hid hcat
    clear hd ht hz hcat
    generalize hex (-1 - n).toNat = x at *
    go_enter Tryz.func82, Tryz.ntmps82
    go_wp2_with (first | (go_at_call 103; refine HD.out.mono ?_; rintro e w1 ⟨rfl, hb⟩))
    go_ret
    exact ⟨by rw [HC.out]; rfl, hb⟩
  · obtain ⟨m, rfl⟩ := Int.eq_ofNat_of_zero_le (by omega : 0 ≤ n)
    by_cases hout : (m : Int) < 32 ∨ 126 < (m : Int)
    · have ht : told (m : Int) = [92, 117, 123] ++ hex m ++ [125] := by unfold told; rw [if_neg hneg, if_pos hout]; rfl
      have hlen := hex_len 5 m (by omega)
      have hd := q_digits m w (by omega) he
      rw [ht]
      have HD := Lib.hid hd
      have hcat : ∀ l : List UInt8, (⟨#[92, 117, 123]⟩ : ByteArray) ++ bstr l ++ (⟨#[125]⟩ : ByteArray) = bstr ([92, 117, 123] ++ l ++ [125]) := fun l => by
        have e1 := bcat [92, 117, 123] l
        have e2 := bcat ([92, 117, 123] ++ l) [125]
        exact (congrArg (· ++ (⟨#[125]⟩ : ByteArray)) e1).trans e2
      have HC := Lib.hid hcat
      clear hd ht hcat
      generalize hex m = x at *
      by_cases h32 : (m : Int) < 32
      all_goals
        go_enter Tryz.func82, Tryz.ntmps82
        go_wp2_with (first | (go_at_call 103; refine HD.out.mono ?_; rintro e w1 ⟨rfl, hb⟩))
        go_ret
        exact ⟨by rw [HC.out]; rfl, hb⟩
    · have hm1 : 32 ≤ m := by omega
      have hm2 : m ≤ 126 := by omega
      have henc := enc_low m (by omega)
      have hb : ∀ c, c ≤ 126 → m ≠ c → ([UInt8.ofNat m] == [UInt8.ofNat c]) = false := by
        intro c hc hne
        have : UInt8.ofNat m ≠ UInt8.ofNat c := by
          intro e
          have := congrArg UInt8.toNat e
          simp at this
          omega
        simpa using this
      by_cases h34 : m = 34
      · subst h34
        have e34 : Utf8.encode 34 = ⟨#[34]⟩ := by decide
        clear hneg hout h1 h2 hb henc hm1 hm2
        have ht : told ((34 : Nat) : Int) = [92, 34] := by decide
        have HT := Lib.hid ht
        clear ht
        go_enter Tryz.func82, Tryz.ntmps82
        go_wp2
        go_ret
        exact ⟨by rw [HT.out]; rfl, Below.refl _ _⟩
      · by_cases h92 : m = 92
        · subst h92
          have e92 : Utf8.encode 92 = ⟨#[92]⟩ := by decide
          clear hneg hout h1 h2 hb h34 henc hm1 hm2
          have ht : told ((92 : Nat) : Int) = [92, 92] := by decide
          have HT := Lib.hid ht
          clear ht
          go_enter Tryz.func82, Tryz.ntmps82
          go_wp2
          go_ret
          exact ⟨by rw [HT.out]; rfl, Below.refl _ _⟩
        · have ht : told (m : Int) = [UInt8.ofNat m] := by
            unfold told
            rw [if_neg hneg, if_neg hout, if_neg (by omega)]
            rfl
          have b1 := hb 34 (by omega) h34
          have b2 := hb 92 (by omega) h92
          have b1' : ([UInt8.ofNat m] == [34]) = false := b1
          have b2' : ([UInt8.ofNat m] == [92]) = false := b2
          have HT := Lib.hid ht
          clear ht hneg hout h34 h92 hb b1 b2 h1 h2
          generalize UInt8.ofNat m = c at *
          have henc' : Utf8.encode (m : Int) = ⟨#[c]⟩ := henc
          have k1 : ((m : Int) < 0) = False := eq_false (by omega)
          have k2 : ((m : Int) < 32) = False := eq_false (by omega)
          have k3 : (126 < (m : Int)) = False := eq_false (by omega)
          have k4 : IntKind.i32.wrap (m : Int) = (m : Int) := by rw [IntKind.wrap_i32]; omega
          generalize (m : Int) = z at *
          have k5 : (c == 34) = false := by simpa using b1'
          have k6 : (c == 92) = false := by simpa using b2'
          clear henc b1' b2' hm1 hm2 he
          go_enter Tryz.func82, Tryz.ntmps82
          go_wp2
          go_ret
          exact ⟨by rw [HT.out]; rfl, Below.refl _ _⟩
end Go.Proofs.YtcigklninmddaaaGreatDoor
