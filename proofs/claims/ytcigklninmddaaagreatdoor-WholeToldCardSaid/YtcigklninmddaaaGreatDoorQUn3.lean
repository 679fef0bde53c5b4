/- quote.Unquote: what is a text in marks. -/
import Derived.Test.YtcigklninmddaaaGreatDoorQUn2
import Derived.Test.YtcigklninmddaaaGreatDoorEncPlain
namespace Go.Proofs.YtcigklninmddaaaGreatDoor
set_option maxRecDepth 4000
open Go.ChangeShapes Go.WideShapes Go.ChangeAt Go.RowKit
open PSign PHex PQuote
set_option linter.unusedVariables false

theorem cut_yes (l p x : List UInt8) (h : l = p ++ x) (w : World) : Calls Tryz.prog 79 #[.string (bstr l), .string (bstr p)] w fun e w' => e = .returned (.tuple #[.string (bstr x), .bool true]) ∧ w = w' := by
  have hp : Lib.hasPrefix l p = true := by
    subst h
    have := Lib.hasPrefix_of_take (p ++ x) p
    rw [← this]
    simp
  have ht : Lib.trimPrefix l p = x := by
    unfold Lib.trimPrefix
    rw [if_pos hp, h, List.drop_left]
  have h2 := Tryz.strings_CutPrefix (bstr l) (bstr p) w
  rw [bstr_list, bstr_list, hp, ht] at h2
  exact h2.mono fun e w' h => ⟨h.1, h.2.symm⟩
theorem cut_no (l p : List UInt8) (h : Lib.hasPrefix l p = false) (w : World) : Calls Tryz.prog 79 #[.string (bstr l), .string (bstr p)] w fun e w' => e = .returned (.tuple #[.string (bstr l), .bool false]) ∧ w = w' := by
  have ht : Lib.trimPrefix l p = l := by
    unfold Lib.trimPrefix
    rw [if_neg (by rw [h]; decide)]
  have h2 := Tryz.strings_CutPrefix (bstr l) (bstr p) w
  rw [bstr_list, bstr_list, h, ht] at h2
  exact h2.mono fun e w' h => ⟨h.1, h.2.symm⟩

theorem ext_one (a : UInt8) (r : List UInt8) : (bstr (a :: r)).extract 0 1 = bstr [a] := by
  apply ByteArray.ext
  apply Array.ext'
  rw [Lib.extract_data]
  rfl

/-- What first answers of a sign that is told. -/
def FirstPost (z : Int) (w : World) (e : Ending) (w' : World) : Prop :=
  e = .returned (.tuple #[.string (bstr (enc z)), .int .i64 ((told z).length : Nat)]) ∧ Below w.heap.size w w'

set_option maxRecDepth 100000 in
set_option maxHeartbeats 1000000 in
theorem first_ok (z : Int) (rest : List UInt8) (w : World) (he : Env w) (hst : z < 0 → 128 ≤ (-1 - z).toNat ∧ (-1 - z).toNat ≤ 255) (h2 : z ≤ 1114111) (hs : rest.length ≤ 100000) :
    Calls Tryz.prog 81 #[.string (bstr (told z ++ rest))] w (FirstPost z w) := by
  by_cases hneg : z < 0
  · obtain ⟨m1, m2⟩ := hst hneg
    have ht : told z = [92, 120] ++ hex (-1 - z).toNat := by unfold told; rw [if_pos hneg]
    have hen : enc z = [UInt8.ofNat (-1 - z).toNat] := by unfold enc; rw [if_pos hneg]
    generalize (-1 - z).toNat = m at *
    have hlen : (hex m).length = 2 := by rw [hex_high (by omega), hex_low (by omega)]; rfl
    have hpost : ∀ e w', e = .returned (.tuple #[.string (bstr [UInt8.ofNat m]), .int .i64 4]) → Below w.heap.size w w' → FirstPost z w e w' := by
      intro e w' h1 hb
      refine ⟨?_, hb⟩
      rw [h1, hen, ht, List.length_append, hlen]
      rfl
    have c1 := fun w => cut_yes (told z ++ rest) [92, 120] (hex m ++ rest) (by rw [ht, List.append_assoc]) w
    have s1 := fun w => stray_ok m rest w m1 m2 hs
    have C1 := Lib.hid c1
    have S1 := Lib.hid s1
    have HP := Lib.hid hpost
    clear c1 s1 hpost ht hen hlen hst
    generalize bstr (told z ++ rest) = t at *
    generalize bstr (hex m ++ rest) = u at *
    go_enter Tryz.func81, Tryz.ntmps81
    go_wp2_with (first | (go_at_call 79; refine (C1.out _).mono ?_; rintro e w1 ⟨rfl, rfl⟩) | (go_at_call 101; refine (S1.out _).mono ?_; rintro e w2 ⟨rfl, hb⟩))
    go_ret2
    exact HP.out _ _ rfl hb
  · obtain ⟨m, rfl⟩ := Int.eq_ofNat_of_zero_le (by omega : 0 ≤ z)
    have hen : enc (m : Int) = (Utf8.encode (m : Int)).data.toList := by unfold enc; rw [if_neg hneg]
    by_cases hout : (m : Int) < 32 ∨ 126 < (m : Int)
    · have ht : told (m : Int) = [92, 117, 123] ++ hex m ++ [125] := by unfold told; rw [if_neg hneg, if_pos hout]; rfl
      have hpost : ∀ e w', e = .returned (.tuple #[.string (Utf8.encode (m : Int)), .int .i64 (((hex m).length + 4 : Nat) : Int)]) → Below w.heap.size w w' → FirstPost (m : Int) w e w' := by
        intro e w' h1 hb
        refine ⟨?_, hb⟩
        have hl : (told (m : Int)).length = (hex m).length + 4 := by rw [ht]; simp
        rw [h1, hen, hl]
      have hsp : told (m : Int) ++ rest = [92, 117, 123] ++ (hex m ++ 125 :: rest) := by rw [ht]; simp
      have c1 := fun w => cut_no (told (m : Int) ++ rest) [92, 120] (by rw [hsp]; rfl) w
      have c2 := fun w => cut_yes (told (m : Int) ++ rest) [92, 117, 123] (hex m ++ 125 :: rest) hsp w
      have s1 := num_ok m rest w he (by omega) hs
      have C1 := Lib.hid c1
      have C2 := Lib.hid c2
      have S1 := Lib.hid s1
      have HP := Lib.hid hpost
      clear c1 c2 s1 hpost ht hen hst hsp
      generalize bstr (told (m : Int) ++ rest) = t at *
      generalize bstr (hex m ++ 125 :: rest) = u at *
      generalize ((hex m).length + 4 : Nat) = k at *
      generalize Utf8.encode (m : Int) = x at *
      go_enter Tryz.func81, Tryz.ntmps81
      go_wp2_with (first | (go_at_call 79; first | ((with_reducible refine (C1.out _).mono ?_); rintro e w1 ⟨rfl, rfl⟩) | ((with_reducible refine (C2.out _).mono ?_); rintro e w1 ⟨rfl, rfl⟩)) | (go_at_call 102; refine S1.out.mono ?_; rintro e w2 ⟨rfl, hb⟩))
      go_ret2
      exact HP.out _ _ rfl hb
    · have henc := enc_low m (by omega)
      rw [henc, bstr_list] at hen
      by_cases h34 : (m : Int) = 34 ∨ (m : Int) = 92
      · have ht : told (m : Int) = [92, UInt8.ofNat m] := by unfold told; rw [if_neg hneg, if_neg hout, if_pos h34]; rfl
        have hpost : ∀ e w', e = .returned (.tuple #[.string (bstr [UInt8.ofNat m]), .int .i64 2]) → Below w.heap.size w w' → FirstPost (m : Int) w e w' := by
          intro e w' h1 hb
          refine ⟨?_, hb⟩
          rw [h1, hen, ht]
          rfl
        have hsp : told (m : Int) ++ rest = [92] ++ (UInt8.ofNat m :: rest) := by rw [ht]; rfl
        have hpre : ∀ p : List UInt8, p = [92, 120] ∨ p = [92, 117, 123] → Lib.hasPrefix (told (m : Int) ++ rest) p = false := by
          intro p hp
          rw [hsp]
          rcases (by omega : m = 34 ∨ m = 92) with rfl | rfl
          · rcases hp with rfl | rfl <;> rfl
          · rcases hp with rfl | rfl <;> rfl
        have c1 := fun w => cut_no (told (m : Int) ++ rest) [92, 120] (hpre _ (.inl rfl)) w
        have c2 := fun w => cut_no (told (m : Int) ++ rest) [92, 117, 123] (hpre _ (.inr rfl)) w
        have c3 := fun w => cut_yes (told (m : Int) ++ rest) [92] (UInt8.ofNat m :: rest) hsp w
        have hx1 := ext_one (UInt8.ofNat m) rest
        have hsz : (bstr (UInt8.ofNat m :: rest)).size = rest.length + 1 := by rw [bstr_len]; rfl
        have hszI : (1 : Int) ≤ ((bstr (UInt8.ofNat m :: rest)).size : Int) := by omega
        have hne1 : (bstr (UInt8.ofNat m :: rest)).toList.isEmpty = false := by rw [Lib.toList_data]; rfl
        have C1 := Lib.hid c1
        have C2 := Lib.hid c2
        have C3 := Lib.hid c3
        have HP := Lib.hid hpost
        clear c1 c2 c3 hpost ht hen hst hsp hpre hsz
        generalize bstr (told (m : Int) ++ rest) = t at *
        generalize bstr (UInt8.ofNat m :: rest) = u at *
        generalize bstr [UInt8.ofNat m] = x at *
        go_enter Tryz.func81, Tryz.ntmps81
        go_wp2_with (first | (go_at_call 79; first | ((with_reducible refine (C1.out _).mono ?_); rintro e w1 ⟨rfl, rfl⟩) | ((with_reducible refine (C2.out _).mono ?_); rintro e w1 ⟨rfl, rfl⟩) | ((with_reducible refine (C3.out _).mono ?_); rintro e w1 ⟨rfl, rfl⟩)))
        go_ret2
        exact HP.out _ _ rfl (Below.refl _ _)
      · have ht : told (m : Int) = [UInt8.ofNat m] := by unfold told; rw [if_neg hneg, if_neg hout, if_neg h34]; rfl
        have hpost : ∀ e w', e = .returned (.tuple #[.string (bstr [UInt8.ofNat m]), .int .i64 1]) → Below w.heap.size w w' → FirstPost (m : Int) w e w' := by
          intro e w' h1 hb
          refine ⟨?_, hb⟩
          rw [h1, hen, ht]
          rfl
        have hsp : told (m : Int) ++ rest = UInt8.ofNat m :: rest := by rw [ht]; rfl
        have hm92 : ((92 : UInt8) == UInt8.ofNat m) = false := by
          rw [beq_eq_false_iff_ne]
          intro e
          have := congrArg UInt8.toNat e
          simp at this
          omega
        have hpre : ∀ p : List UInt8, Lib.hasPrefix (told (m : Int) ++ rest) (92 :: p) = false := by
          intro p
          rw [hsp]
          show ((92 : UInt8) == UInt8.ofNat m && p.isPrefixOf rest) = false
          rw [hm92]
          rfl
        have c1 := fun w => cut_no (told (m : Int) ++ rest) [92, 120] (hpre _) w
        have c2 := fun w => cut_no (told (m : Int) ++ rest) [92, 117, 123] (hpre _) w
        have c3 := fun w => cut_no (told (m : Int) ++ rest) [92] (hpre _) w
        have hx1 := ext_one (UInt8.ofNat m) rest
        rw [← hsp] at hx1
        have hsz : (bstr (told (m : Int) ++ rest)).size = rest.length + 1 := by rw [bstr_len, hsp]; rfl
        have hszI : (1 : Int) ≤ ((bstr (told (m : Int) ++ rest)).size : Int) := by omega
        have C1 := Lib.hid c1
        have C2 := Lib.hid c2
        have C3 := Lib.hid c3
        have HP := Lib.hid hpost
        clear c1 c2 c3 hpost ht hen hst hsp hpre hsz hm92
        generalize bstr (told (m : Int) ++ rest) = t at *
        generalize bstr [UInt8.ofNat m] = x at *
        go_enter Tryz.func81, Tryz.ntmps81
        go_wp2_with (first | (go_at_call 79; first | ((with_reducible refine (C1.out _).mono ?_); rintro e w1 ⟨rfl, rfl⟩) | ((with_reducible refine (C2.out _).mono ?_); rintro e w1 ⟨rfl, rfl⟩) | ((with_reducible refine (C3.out _).mono ?_); rintro e w1 ⟨rfl, rfl⟩)))
        go_ret2
        exact HP.out _ _ rfl (Below.refl _ _)
end Go.Proofs.YtcigklninmddaaaGreatDoor
