/- Bytes; QParse; KVar: what is reached of them. -/
import Derived.BigQuiet
import Derived.Deep.DeepCutAuto
import Derived.Deep.QuietTactic
import Derived.Deep.RegionWith
import Derived.Handy
import Derived.IntWalk
import Derived.Lib.Hide
import Derived.Lib.Strings
import Derived.OpenShut
import Derived.Outline
import Derived.ProofKit
import Derived.Test.YtmimfkhkilijcaaGreatDoorPr01
import Derived.Test.YtmimfkhkilijcaaGreatDoorPr04
import Derived.Test.YtmimfkhkilijcaaGreatDoorPr05
import Derived.WalkKit
namespace Go.Proofs.YtmimfkhkilijcaaGreatDoor
set_option maxRecDepth 4000
open Go.ChangeShapes Go.WideShapes Go.ChangeAt Go.RowKit
set_option linter.unusedVariables false

theorem bytes_run (w : World) (s : ByteArray) : (convert 9 79 (.string s)).run Tryz.prog w = .ok (.slice (some ⟨w.heap.size, 0, none⟩) s.size (grownCap w s.size 0 5)) (Lib.bytesWorld w 5 s) :=
  Lib.run_convert_string_bytes w 9 79 5 s Tryz.underlying9 Tryz.underlying79 Tryz.underlying5

theorem bytes_own (w : World) (s : ByteArray) (e : TypeId) (hs : s.size ≤ maxLen) : Own (Lib.bytesWorld w e s) w.heap.size 0 s.size (fun j => .int .u8 ((s.data.toList.getD j 0).toNat : Int)) := by
  have h := bytes_sl (B := 0) w s e (Nat.zero_le _) hs
  rcases h.2 with ⟨h1, _⟩ | ⟨g, off, cap, h1, _, h2, h3, _, h4, h5⟩
  · cases h1
  · simp at h1
    obtain ⟨⟨rfl, rfl⟩, rfl⟩ := h1
    refine ⟨h2, fun j hj => ?_, fun j hj => (h5 j (by omega)).2⟩
    rw [h4 j (by omega)]
    have hj' : j < s.data.size := hj
    simp [bv, List.getD, Array.getElem?_eq_getElem hj']

end Go.Proofs.YtmimfkhkilijcaaGreatDoor
namespace Go.Proofs.YtmimfkhkilijcaaGreatDoor
set_option maxRecDepth 4000
open Go.ChangeShapes Go.WideShapes Go.ChangeAt Go.RowKit
open PHex
set_option linter.unusedVariables false

theorem list_ne (s : ByteArray) (m : Nat) (hs : s.data.toList = hex m) : s.toList.isEmpty = false := by
  rw [Lib.toList_data, hs]
  have := hex_pos m
  cases h : hex m with
  | nil => rw [h] at this; simp at this
  | cons a l => rfl
theorem foldl_ge : ∀ (l : List UInt8) (a : Nat), a ≤ l.foldl (fun a c => a * 16 + val c) a
  | [], a => Nat.le_refl _
  | c :: l, a => Nat.le_trans (by omega) (foldl_ge l (a * 16 + val c))
theorem num_take_le (l : List UInt8) (k : Nat) : num (l.take k) ≤ num l := by
  have h : num l = (l.drop k).foldl (fun a c => a * 16 + val c) (num (l.take k)) := by
    unfold num
    rw [← List.foldl_append, List.take_append_drop]
  rw [h]
  exact foldl_ge _ _
theorem dig_case (d : Nat) (hd : d < 16) : ((dig d).toNat = 48 + d ∧ 48 + d ≤ 57 ∧ d ≤ 9) ∨ ((dig d).toNat = 87 + d ∧ 10 ≤ d ∧ 97 ≤ 87 + d ∧ bits .or .u8 ((87 + d : Nat) : Int) 32 = ((87 + d : Nat) : Int)) := by
  have h : ∀ d, d < 16 → ((dig d).toNat = 48 + d ∧ 48 + d ≤ 57 ∧ d ≤ 9) ∨ ((dig d).toNat = 87 + d ∧ 10 ≤ d ∧ 97 ≤ 87 + d ∧ bits .or .u8 ((87 + d : Nat) : Int) 32 = ((87 + d : Nat) : Int)) := by decide
  exact h d hd

theorem or_u8 (c : Nat) (hc : c < 256) : ∃ lo : Nat, lo < 256 ∧ bits .or .u8 (c : Int) 32 = (lo : Int) := by
  refine ⟨c ||| 32, Nat.or_lt_two_pow (n := 8) hc (by decide), ?_⟩
  show IntKind.u8.wrap ((BitVec.ofInt 8 c ||| BitVec.ofInt 8 32).toNat : Int) = _
  rw [BitVec.ofInt_natCast, BitVec.toNat_or, BitVec.toNat_ofNat, Nat.mod_eq_of_lt hc, show (BitVec.ofInt 8 32).toNat = 32 from rfl, IntKind.wrap_u8]
  have : c ||| 32 < 2 ^ 8 := Nat.or_lt_two_pow hc (by decide)
  omega
def PuPost (w : World) (e : Ending) (w' : World) : Prop :=
  ∃ (v : Nat) (x : Value), e = .returned (.tuple #[.int .u64 v, x]) ∧ v < 18446744073709551616 ∧ (x = .nilIface ∨ x = .iface 327 (.int .i64 1) ∨ x = .iface 327 (.int .i64 2)) ∧ Below w.heap.size w w'

set_option maxRecDepth 100000
set_option maxHeartbeats 1000000

/-- Whatever it is: some number, and an error or none. -/
theorem pu_any8 (s : ByteArray) (w : World) (hsz : s.size ≤ maxLen) :
    Calls Tryz.prog 272 #[.string s, .int .i64 16, .int .i64 8] w (PuPost w) := by
  unfold maxLen at hsz
  by_cases hne : s.toList.isEmpty = true
  · go_enter Tryz.func272, Tryz.ntmps272
    go_wp2
    go_ret2
    exact ⟨0, _, rfl, by omega, .inr (.inr rfl), Below.refl _ _⟩
  · rw [Bool.not_eq_true] at hne
    have kb := fun w => bytes_run w s
    have hown := bytes_own w s 5 (by unfold maxLen; omega)
    have hbel : Below w.heap.size w (Lib.bytesWorld w 5 s) := bytes_below (Below.refl _ _) (Nat.le_refl _) _ _
    have HOWN := Lib.hid hown
    have HBEL := Lib.hid hbel
    clear hown hbel
    go_enter Tryz.func272, Tryz.ntmps272
    go_wp2
    generalize Lib.bytesWorld w 5 s = w1 at *
    clear kb hne
    go_loop [12, 13, 101] (fun u n i => ∃ k x : Nat, k ≤ s.size ∧ i = .int .i64 k ∧ u = .bool false ∧ n = .int .u64 x ∧ x ≤ 255) (fun _ _ i => s.size - (intOf i).toNat)
    case atStart => exact ⟨0, 0, Nat.zero_le _, rfl, rfl, rfl, by omega⟩
    case round =>
      obtain ⟨k, x, hk, rfl, rfl, rfl, hx⟩ := hrel
      by_cases hlt : k < s.size
      · have hc := HOWN.out.cell k hlt
        have hlt3 := HOWN.out.lt
        rw [Nat.zero_add] at hc
        have hc256 := (s.data.toList.getD k 0).toNat_lt
        generalize (s.data.toList.getD k 0).toNat = c at *
        obtain ⟨lo, hlo, hor⟩ := or_u8 c hc256
        have hcut : ((1152921504606846976 : Int) ≤ (x : Int)) = False := by simp; omega
        have hmul : IntKind.u64.wrap ((x : Int) * 16) = (x : Int) * 16 := by rw [IntKind.wrap_u64]; omega
        have HXX := Lib.hid hx
        have hxI : (x : Int) ≤ 255 := by omega
        have hx0 : (0 : Int) ≤ (x : Int) := by omega
        have hcI : (c : Int) < 256 := by omega
        have hlI : (lo : Int) < 256 := by omega
        clear hx hc256 hlo
        go_wp2
        all_goals first | (go_ret2; exact ⟨0, _, rfl, by omega, .inr (.inr rfl), HBEL.out⟩) | (go_ret2; exact ⟨255, _, rfl, by omega, .inr (.inl rfl), HBEL.out⟩) | (go_round; (case rel => first | exact ⟨k + 1, ((x : Int) * 16 + ((c : Int) - 48)).toNat, by omega, by go_num, rfl, by rw [Int.toNat_of_nonneg (by omega)], by omega⟩ | exact ⟨k + 1, ((x : Int) * 16 + ((lo : Int) - 97 + 10)).toNat, by omega, by go_num, rfl, by rw [Int.toNat_of_nonneg (by omega)], by omega⟩); (case measure => simp [intOf]; omega))
      · go_wp2
        go_ret2
        exact ⟨x, _, rfl, by omega, .inl rfl, HBEL.out⟩

/-- Digits that are all there are: just that number. -/
theorem pu_ok8 (s : ByteArray) (m : Nat) (w : World) (hs : s.data.toList = hex m) (hm : m ≤ 255) (hsz : s.size ≤ maxLen) :
    Calls Tryz.prog 272 #[.string s, .int .i64 16, .int .i64 8] w fun e w' => e = .returned (.tuple #[.int .u64 m, .nilIface]) ∧ Below w.heap.size w w' := by
  have hne := list_ne s m hs
  have kb := fun w => bytes_run w s
  have hown := bytes_own w s 5 hsz
  have hbel : Below w.heap.size w (Lib.bytesWorld w 5 s) := bytes_below (Below.refl _ _) (Nat.le_refl _) _ _
  have HOWN := Lib.hid hown
  have HBEL := Lib.hid hbel
  have hszs : s.data.toList.length = s.size := by simp
  have HSZ := Lib.hid hszs
  have HS := Lib.hid hs
  unfold maxLen at hsz
  clear hown hbel hszs hs
  go_enter Tryz.func272, Tryz.ntmps272
  go_wp2
  generalize Lib.bytesWorld w 5 s = w1 at *
  clear kb hne
  go_loop [12, 13, 101] (fun u n i => ∃ k x : Nat, k ≤ s.size ∧ i = .int .i64 k ∧ u = .bool false ∧ n = .int .u64 x ∧ x ≤ 255 ∧ Hid (x = num ((hex m).take k))) (fun _ _ i => s.size - (intOf i).toNat)
  case atStart => exact ⟨0, 0, Nat.zero_le _, rfl, rfl, rfl, by omega, rfl⟩
  case round =>
    obtain ⟨k, x, hk, rfl, rfl, rfl, hx, HX⟩ := hrel
    by_cases hlt : k < s.size
    · have hc := HOWN.out.cell k hlt
      have hg : HOWN.out.lt = HOWN.out.lt := rfl
      have hlt3 := HOWN.out.lt
      rw [Nat.zero_add, HS.out] at hc
      have hkl : k < (hex m).length := by rw [← HS.out, HSZ.out]; exact hlt
      have hgd : (hex m).getD k 0 = (hex m)[k] := by simp [List.getD, hkl]
      rw [hgd] at hc
      obtain ⟨d, hd, hcd⟩ := hex_mem m (List.getElem_mem hkl)
      have hn := num_take_le (hex m) (k + 1)
      rw [num_hex, List.take_succ_eq_append_getElem hkl, num_snoc, hcd, val_dig d hd, ← HX.out] at hn
      have HN : Hid (num ((hex m).take (k + 1)) = x * 16 + d) := by
        show _ = _
        rw [List.take_succ_eq_append_getElem hkl, num_snoc, hcd, val_dig d hd, ← HX.out]
      rw [hcd] at hc
      have hcut : ((1152921504606846976 : Int) ≤ (x : Int)) = False := by simp; omega
      have hmul : IntKind.u64.wrap ((x : Int) * 16) = (x : Int) * 16 := by rw [IntKind.wrap_u64]; omega
      have hadd : IntKind.u64.wrap ((x : Int) * 16 + (d : Int)) = (x : Int) * 16 + (d : Int) := by rw [IntKind.wrap_u64]; omega
      have hlss : ((x : Int) * 16 + (d : Int) < (x : Int) * 16) = False := eq_false (by omega)
      have hgtr : ((255 : Int) < (x : Int) * 16 + (d : Int)) = False := by simp; omega
      have hd16 : ((16 : Int) ≤ (d : Int)) = False := by simp; omega
      have hxm : x * 16 + d ≤ 255 := by omega
      have HXM := Lib.hid hxm
      clear hxm
      have HM := Lib.hid hm
      have HXX := Lib.hid hx
      clear hgd hcd hg hm hx hn
      rcases dig_case d hd with ⟨h1, h2, h3⟩ | ⟨h1, h2, h3, h4⟩
      · rw [h1] at hc
        clear h1
        generalize hcv : 48 + d = c at *
        have hc1 : (48 : Int) ≤ (c : Int) := by omega
        have hc2 : (c : Int) ≤ 57 := by omega
        have h95 : ((c : Int) == 95) = false := by simp; omega
        have hsub : (c : Int) - 48 = (d : Int) := by omega
        clear hcv
        go_wp2
        go_round
        case rel => exact ⟨k + 1, x * 16 + d, by omega, by go_num, rfl, by go_num, HXM.out, HN.out.symm⟩
        case measure => simp [intOf]; omega
      · rw [h1] at hc
        clear h1
        generalize hcv : 87 + d = c at *
        have hc1 : ¬ ((c : Int) ≤ 57) := by omega
        have h95 : ((c : Int) == 95) = false := by simp; omega
        have hsub2 : (c : Int) - 97 + 10 = (d : Int) := by omega
        clear hcv
        go_wp2
        go_round
        case rel => exact ⟨k + 1, x * 16 + d, by omega, by go_num, rfl, by go_num, HXM.out, HN.out.symm⟩
        case measure => simp [intOf]; omega
    · go_wp2
      go_ret2
      have e : (hex m).take k = hex m := List.take_of_length_le (by rw [← HS.out, HSZ.out]; omega)
      have := HX.out
      rw [e, num_hex] at this
      exact ⟨by rw [this]; rfl, HBEL.out⟩

/-- Whatever it is: some number, and an error or none. -/
theorem pu_any31 (s : ByteArray) (w : World) (hsz : s.size ≤ maxLen) :
    Calls Tryz.prog 272 #[.string s, .int .i64 16, .int .i64 31] w (PuPost w) := by
  unfold maxLen at hsz
  by_cases hne : s.toList.isEmpty = true
  · go_enter Tryz.func272, Tryz.ntmps272
    go_wp2
    go_ret2
    exact ⟨0, _, rfl, by omega, .inr (.inr rfl), Below.refl _ _⟩
  · rw [Bool.not_eq_true] at hne
    have kb := fun w => bytes_run w s
    have hown := bytes_own w s 5 (by unfold maxLen; omega)
    have hbel : Below w.heap.size w (Lib.bytesWorld w 5 s) := bytes_below (Below.refl _ _) (Nat.le_refl _) _ _
    have HOWN := Lib.hid hown
    have HBEL := Lib.hid hbel
    clear hown hbel
    go_enter Tryz.func272, Tryz.ntmps272
    go_wp2
    generalize Lib.bytesWorld w 5 s = w1 at *
    clear kb hne
    go_loop [12, 13, 101] (fun u n i => ∃ k x : Nat, k ≤ s.size ∧ i = .int .i64 k ∧ u = .bool false ∧ n = .int .u64 x ∧ x ≤ 2147483647) (fun _ _ i => s.size - (intOf i).toNat)
    case atStart => exact ⟨0, 0, Nat.zero_le _, rfl, rfl, rfl, by omega⟩
    case round =>
      obtain ⟨k, x, hk, rfl, rfl, rfl, hx⟩ := hrel
      by_cases hlt : k < s.size
      · have hc := HOWN.out.cell k hlt
        have hlt3 := HOWN.out.lt
        rw [Nat.zero_add] at hc
        have hc256 := (s.data.toList.getD k 0).toNat_lt
        generalize (s.data.toList.getD k 0).toNat = c at *
        obtain ⟨lo, hlo, hor⟩ := or_u8 c hc256
        have hcut : ((1152921504606846976 : Int) ≤ (x : Int)) = False := by simp; omega
        have hmul : IntKind.u64.wrap ((x : Int) * 16) = (x : Int) * 16 := by rw [IntKind.wrap_u64]; omega
        have HXX := Lib.hid hx
        have hxI : (x : Int) ≤ 2147483647 := by omega
        have hx0 : (0 : Int) ≤ (x : Int) := by omega
        have hcI : (c : Int) < 256 := by omega
        have hlI : (lo : Int) < 256 := by omega
        clear hx hc256 hlo
        go_wp2
        all_goals first | (go_ret2; exact ⟨0, _, rfl, by omega, .inr (.inr rfl), HBEL.out⟩) | (go_ret2; exact ⟨2147483647, _, rfl, by omega, .inr (.inl rfl), HBEL.out⟩) | (go_round; (case rel => first | exact ⟨k + 1, ((x : Int) * 16 + ((c : Int) - 48)).toNat, by omega, by go_num, rfl, by rw [Int.toNat_of_nonneg (by omega)], by omega⟩ | exact ⟨k + 1, ((x : Int) * 16 + ((lo : Int) - 97 + 10)).toNat, by omega, by go_num, rfl, by rw [Int.toNat_of_nonneg (by omega)], by omega⟩); (case measure => simp [intOf]; omega))
      · go_wp2
        go_ret2
        exact ⟨x, _, rfl, by omega, .inl rfl, HBEL.out⟩

/-- Digits that are all there are: just that number. -/
theorem pu_ok31 (s : ByteArray) (m : Nat) (w : World) (hs : s.data.toList = hex m) (hm : m ≤ 2147483647) (hsz : s.size ≤ maxLen) :
    Calls Tryz.prog 272 #[.string s, .int .i64 16, .int .i64 31] w fun e w' => e = .returned (.tuple #[.int .u64 m, .nilIface]) ∧ Below w.heap.size w w' := by
  have hne := list_ne s m hs
  have kb := fun w => bytes_run w s
  have hown := bytes_own w s 5 hsz
  have hbel : Below w.heap.size w (Lib.bytesWorld w 5 s) := bytes_below (Below.refl _ _) (Nat.le_refl _) _ _
  have HOWN := Lib.hid hown
  have HBEL := Lib.hid hbel
  have hszs : s.data.toList.length = s.size := by simp
  have HSZ := Lib.hid hszs
  have HS := Lib.hid hs
  unfold maxLen at hsz
  clear hown hbel hszs hs
  go_enter Tryz.func272, Tryz.ntmps272
  go_wp2
  generalize Lib.bytesWorld w 5 s = w1 at *
  clear kb hne
  go_loop [12, 13, 101] (fun u n i => ∃ k x : Nat, k ≤ s.size ∧ i = .int .i64 k ∧ u = .bool false ∧ n = .int .u64 x ∧ x ≤ 2147483647 ∧ Hid (x = num ((hex m).take k))) (fun _ _ i => s.size - (intOf i).toNat)
  case atStart => exact ⟨0, 0, Nat.zero_le _, rfl, rfl, rfl, by omega, rfl⟩
  case round =>
    obtain ⟨k, x, hk, rfl, rfl, rfl, hx, HX⟩ := hrel
    by_cases hlt : k < s.size
    · have hc := HOWN.out.cell k hlt
      have hg : HOWN.out.lt = HOWN.out.lt := rfl
      have hlt3 := HOWN.out.lt
      rw [Nat.zero_add, HS.out] at hc
      have hkl : k < (hex m).length := by rw [← HS.out, HSZ.out]; exact hlt
      have hgd : (hex m).getD k 0 = (hex m)[k] := by simp [List.getD, hkl]
      rw [hgd] at hc
      obtain ⟨d, hd, hcd⟩ := hex_mem m (List.getElem_mem hkl)
      have hn := num_take_le (hex m) (k + 1)
      rw [num_hex, List.take_succ_eq_append_getElem hkl, num_snoc, hcd, val_dig d hd, ← HX.out] at hn
      have HN : Hid (num ((hex m).take (k + 1)) = x * 16 + d) := by
        show _ = _
        rw [List.take_succ_eq_append_getElem hkl, num_snoc, hcd, val_dig d hd, ← HX.out]
      rw [hcd] at hc
      have hcut : ((1152921504606846976 : Int) ≤ (x : Int)) = False := by simp; omega
      have hmul : IntKind.u64.wrap ((x : Int) * 16) = (x : Int) * 16 := by rw [IntKind.wrap_u64]; omega
      have hadd : IntKind.u64.wrap ((x : Int) * 16 + (d : Int)) = (x : Int) * 16 + (d : Int) := by rw [IntKind.wrap_u64]; omega
      have hlss : ((x : Int) * 16 + (d : Int) < (x : Int) * 16) = False := eq_false (by omega)
      have hgtr : ((2147483647 : Int) < (x : Int) * 16 + (d : Int)) = False := by simp; omega
      have hd16 : ((16 : Int) ≤ (d : Int)) = False := by simp; omega
      have hxm : x * 16 + d ≤ 2147483647 := by omega
      have HXM := Lib.hid hxm
      clear hxm
      have HM := Lib.hid hm
      have HXX := Lib.hid hx
      clear hgd hcd hg hm hx hn
      rcases dig_case d hd with ⟨h1, h2, h3⟩ | ⟨h1, h2, h3, h4⟩
      · rw [h1] at hc
        clear h1
        generalize hcv : 48 + d = c at *
        have hc1 : (48 : Int) ≤ (c : Int) := by omega
        have hc2 : (c : Int) ≤ 57 := by omega
        have h95 : ((c : Int) == 95) = false := by simp; omega
        have hsub : (c : Int) - 48 = (d : Int) := by omega
        clear hcv
        go_wp2
        go_round
        case rel => exact ⟨k + 1, x * 16 + d, by omega, by go_num, rfl, by go_num, HXM.out, HN.out.symm⟩
        case measure => simp [intOf]; omega
      · rw [h1] at hc
        clear h1
        generalize hcv : 87 + d = c at *
        have hc1 : ¬ ((c : Int) ≤ 57) := by omega
        have h95 : ((c : Int) == 95) = false := by simp; omega
        have hsub2 : (c : Int) - 97 + 10 = (d : Int) := by omega
        clear hcv
        go_wp2
        go_round
        case rel => exact ⟨k + 1, x * 16 + d, by omega, by go_num, rfl, by go_num, HXM.out, HN.out.symm⟩
        case measure => simp [intOf]; omega
    · go_wp2
      go_ret2
      have e : (hex m).take k = hex m := List.take_of_length_le (by rw [← HS.out, HSZ.out]; omega)
      have := HX.out
      rw [e, num_hex] at this
      exact ⟨by rw [this]; rfl, HBEL.out⟩
end Go.Proofs.YtmimfkhkilijcaaGreatDoor
namespace Go.Proofs.YtmimfkhkilijcaaGreatDoor
set_option maxRecDepth 4000
open Go.ChangeShapes Go.WideShapes Go.ChangeAt Go.RowKit
open PVar

theorem not_i64 (n : Int) (h1 : -9223372036854775808 ≤ n) (h2 : n ≤ 9223372036854775807) : bits .xor .i64 (-1) n = -n - 1 := by
  show IntKind.i64.wrap ((BitVec.ofInt 64 (-1) ^^^ BitVec.ofInt 64 n).toNat : Int) = _
  have e : BitVec.ofInt 64 (-1) = BitVec.allOnes 64 := by decide
  rw [e, BitVec.allOnes_xor, BitVec.toNat_not, BitVec.toNat_ofInt, IntKind.wrap_i64]
  omega

set_option maxHeartbeats 400000 in
theorem var_back (n : Nat) (w : World) (hn : n ≤ 18446744073709551615) :
    Calls Tryz.prog 270 #[.int .u64 n] w fun e w' => e = .returned (.int .i64 (back n)) ∧ w = w' := by
  have hx := not_i64 ((n : Int) / 2) (by omega) (by omega)
  rcases (by omega : n % 2 = 1 ∨ n % 2 = 0) with h | h
  · have h' : ((n : Int) % 2 == 1) = true := by simp; omega
    go_enter Tryz.func270, Tryz.ntmps270
    go_wp2
    go_ret
    refine ⟨ret_int ?_, rfl⟩
    unfold back; split <;> omega
  · have h' : ((n : Int) % 2 == 1) = false := by simp; omega
    go_enter Tryz.func270, Tryz.ntmps270
    go_wp2
    go_ret
    refine ⟨ret_int ?_, rfl⟩
    unfold back; split <;> omega

set_option maxHeartbeats 400000 in
theorem var_fits (i : Nat) (d : Int) (w : World) (b : Bool) (hb : b = !decide (9 < i ∨ (i = 9 ∧ 1 < d))) :
    Calls Tryz.prog 268 #[.int .i64 i, .int .u8 d] w fun e w' => e = .returned (.bool b) ∧ w = w' := by
  have Hb := Lib.hid hb
  clear hb
  by_cases h : i = 9
  · subst h
    go_enter Tryz.func268, Tryz.ntmps268
    go_wp2
    go_ret
    refine ⟨ret_bool ?_, rfl⟩
    rw [Hb.out, Bool.eq_iff_iff]
    simp
  · go_enter Tryz.func268, Tryz.ntmps268
    go_wp2
    go_ret
    refine ⟨ret_bool ?_, rfl⟩
    rw [Hb.out, Bool.eq_iff_iff]
    simp [h]
    omega

end Go.Proofs.YtmimfkhkilijcaaGreatDoor

/- varint: numbers read. -/
namespace Go.Proofs.YtmimfkhkilijcaaGreatDoor
set_option maxRecDepth 4000
open Go.ChangeShapes Go.WideShapes Go.ChangeAt Go.RowKit
open PVar
set_option linter.unusedVariables false

theorem shl_step (acc k c : Nat) (hk : k ≤ 9) (ha : acc < 128 ^ k) (h9 : k = 9 → c % 128 ≤ 1) :
    IntKind.u64.wrap ((acc : Int) + IntKind.u64.wrap ((c : Int) % 128 * 2 ^ (7 * k))) = ((acc + c % 128 * 128 ^ k : Nat) : Int) ∧ acc + c % 128 * 128 ^ k ≤ 18446744073709551615 ∧ (k + 1 ≤ 9 → acc + c % 128 * 128 ^ k < 128 ^ (k + 1)) := by
  have e1 : ((c : Int) % 128 * 2 ^ (7 * k)) = ((c % 128 * 128 ^ k : Nat) : Int) := by
    rw [Int.pow_mul]
    simp
  have hc : c % 128 * 128 ^ k ≤ 127 * 128 ^ k := Nat.mul_le_mul_right _ (by omega)
  have hlt : acc + c % 128 * 128 ^ k < 128 ^ (k + 1) := by rw [Nat.pow_succ]; omega
  have h9' : (128 : Nat) ^ 9 = 9223372036854775808 := by decide
  have hle : acc + c % 128 * 128 ^ k ≤ 18446744073709551615 := by
    by_cases h : k = 9
    · subst h
      have : c % 128 * 128 ^ 9 ≤ 1 * 128 ^ 9 := Nat.mul_le_mul_right _ (h9 rfl)
      omega
    · have : (128 : Nat) ^ (k + 1) ≤ 128 ^ 9 := Nat.pow_le_pow_right (by omega) (by omega)
      omega
  refine ⟨?_, hle, fun _ => hlt⟩
  rw [e1, IntKind.wrap_u64, IntKind.wrap_u64]
  omega

theorem ret_get {a b c : Int} {x y z : Nat} {g : Nat × Nat × Nat} (h : g = (x, y, z)) (ha : a = x) (hb : b = y) (hc : c = z) :
    Ending.returned (.tuple #[.int .u64 a, .int .i64 b, .int .i64 c]) = .returned (.tuple #[.int .u64 (g.1 : Nat), .int .i64 (g.2.1 : Nat), .int .i64 (g.2.2 : Nat)]) := by
  rw [h, ha, hb, hc]

set_option maxRecDepth 100000 in
set_option maxHeartbeats 1000000 in
theorem var_get (s : ByteArray) (w : World) (hs : s.size ≤ maxLen) :
    Calls Tryz.prog 244 #[.string s] w fun e w' => e = .returned (.tuple #[.int .u64 ((get s.data.toList).1 : Nat), .int .i64 ((get s.data.toList).2.1 : Nat), .int .i64 ((get s.data.toList).2.2 : Nat)]) ∧ w = w' := by
  unfold maxLen at hs
  go_enter Tryz.func244, Tryz.ntmps244
  go_wp2
  go_loop [5, 10] (fun a i => ∃ k acc : Nat, k ≤ s.size ∧ i = .int .i64 k ∧ a = .int .u64 acc ∧ acc ≤ 18446744073709551615 ∧ (k ≤ 9 → acc < 128 ^ k) ∧ Hid (go k acc (s.data.toList.drop k) = get s.data.toList)) (fun _ i => s.size - (intOf i).toNat)
  case atStart => exact ⟨0, 0, Nat.zero_le _, rfl, rfl, by omega, by simp, rfl⟩
  case round =>
    obtain ⟨k, acc, hk, rfl, rfl, ha, hp, HG⟩ := hrel
    by_cases hlt : k < s.size
    · have hc := (s[k]).toNat_lt
      by_cases hbad : k > 9 ∨ (k = 9 ∧ s[k].toNat % 128 > 1)
      · have Hbad := Lib.hid hbad
        have HB : Hid (false = !decide (9 < k ∨ (k = 9 ∧ 1 < (s[k].toNat : Int) % 128))) := by show false = _; simp; omega
        clear hbad
        go_wp2_with (go_at_call 268; refine (var_fits _ _ _ false HB.out).mono ?_; rintro e w' ⟨rfl, rfl⟩)
        go_ret3
        have hd := drop_cons s k hlt
        have hG := HG.out
        rw [hd, go_bad Hbad.out] at hG
        exact ⟨ret_get hG.symm rfl rfl rfl, rfl⟩
      · have Hbad := Lib.hid hbad
        have hk9 : k ≤ 9 := by omega
        have HB : Hid (true = !decide (9 < k ∨ (k = 9 ∧ 1 < (s[k].toNat : Int) % 128))) := by show true = _; simp; omega
        have hp' := hp hk9
        have HS := Lib.hid (shl_step acc k s[k].toNat hk9 hp' (fun h => by omega))
        have hd := Lib.hid (drop_cons s k hlt)
        clear hbad
        go_wp2_with (go_at_call 268; refine (var_fits _ _ _ true HB.out).mono ?_; rintro e w' ⟨rfl, rfl⟩)
        · have h128 : 128 ≤ s[k].toNat := by have : (128 : Int) ≤ (s[k].toNat : Int) := by assumption
                                             omega
          have hG := HG.out
          rw [hd.out, go_on Hbad.out h128] at hG
          go_round
          case rel => exact ⟨k + 1, _, by omega, by go_num, by rw [HS.out.1], HS.out.2.1, fun h => HS.out.2.2 h, hG⟩
          case measure => simp [intOf]; omega
        · have h1 : s[k].toNat < 128 := by have : (s[k].toNat : Int) < 128 := by assumption
                                           omega
          have h2 : s[k].toNat = 0 := by have : (s[k].toNat : Int) % 128 = 0 := by assumption
                                         omega
          go_ret3
          have hG := HG.out
          rw [hd.out, go_zero h2 (by omega)] at hG
          exact ⟨ret_get hG.symm rfl rfl rfl, rfl⟩
        · have h1 : s[k].toNat < 128 := by have : (s[k].toNat : Int) < 128 := by assumption
                                           omega
          go_ret3
          have hG := HG.out
          rw [hd.out, go_end Hbad.out h1 (by omega)] at hG
          have h2 : (s[k].toNat : Int) % 128 = 0 := by assumption
          have hk0 : k = 0 := by omega
          have h3 : s[k].toNat = 0 := by omega
          have ha0 : acc = 0 := by rw [hk0] at hp'; simpa using hp'
          exact ⟨ret_get hG.symm (by rw [h3, ha0]; simp [IntKind.wrap_u64]) (by omega) rfl, rfl⟩
        · have h1 : s[k].toNat < 128 := by have : (s[k].toNat : Int) < 128 := by assumption
                                           omega
          have h2 : ¬ (s[k].toNat : Int) % 128 = 0 := by assumption
          go_ret3
          have hG := HG.out
          rw [hd.out, go_end Hbad.out h1 (by omega)] at hG
          exact ⟨ret_get hG.symm (by rw [HS.out.1, Nat.mod_eq_of_lt h1]) (by omega) rfl, rfl⟩
    · have hkl : s.size ≤ k := by omega
      go_wp2
      go_ret3
      have hG := HG.out
      rw [List.drop_eq_nil_of_le (by simpa using hkl), go_nil] at hG
      exact ⟨ret_get hG.symm rfl rfl rfl, rfl⟩

end Go.Proofs.YtmimfkhkilijcaaGreatDoor

/- varint: folded numbers; the document's bytes as a text. -/
namespace Go.Proofs.YtmimfkhkilijcaaGreatDoor
set_option maxRecDepth 4000
open Go.ChangeShapes Go.WideShapes Go.ChangeAt Go.RowKit
open PVar
set_option linter.unusedVariables false

set_option maxRecDepth 100000 in
set_option maxHeartbeats 1000000 in
theorem var_getint (s : ByteArray) (w : World) (hs : s.size ≤ maxLen) :
    Calls Tryz.prog 248 #[.string s] w fun e w' => e = .returned (.tuple #[.int .i64 (back (get s.data.toList).1), .int .i64 ((get s.data.toList).2.1 : Nat), .int .i64 ((get s.data.toList).2.2 : Nat)]) ∧ w = w' := by
  have hg := var_get s w hs
  have hle : (get s.data.toList).2.2 = 0 → (get s.data.toList).1 ≤ 18446744073709551615 := fun h => by
    have := @get_spec s.data.toList (get s.data.toList).1 (get s.data.toList).2.1 (by rw [← h])
    exact this.2.2.2
  rcases get_err s.data.toList with h | h | h
  · have HL := Lib.hid (hle h)
    clear hle
    generalize get s.data.toList = g at *
    obtain ⟨a, b, c⟩ := g
    simp only at h hg HL
    subst h
    have Hg := Lib.hid hg
    clear hg
    go_enter Tryz.func248, Tryz.ntmps248
    go_wp2_with (first | (go_at_call 244; refine Hg.out.mono ?_; rintro e w' ⟨rfl, rfl⟩) | (go_at_call 270; refine (var_back _ _ HL.out).mono ?_; rintro e w' ⟨rfl, rfl⟩))
    go_ret3
    exact ⟨rfl, rfl⟩
  all_goals
    rw [h] at hg ⊢
    have Hg := Lib.hid hg
    clear hg hle h
    go_enter Tryz.func248, Tryz.ntmps248
    go_wp2_with (first | (go_at_call 244; refine Hg.out.mono ?_; rintro e w' ⟨rfl, rfl⟩))
    go_ret3
    exact ⟨rfl, rfl⟩

end Go.Proofs.YtmimfkhkilijcaaGreatDoor

/- varint: the laws' own first question; numbers put into slices that the law has. -/
namespace Go.Proofs.YtmimfkhkilijcaaGreatDoor
set_option maxRecDepth 4000
open Go.ChangeShapes Go.WideShapes Go.ChangeAt Go.RowKit
open PVar
set_option linter.unusedVariables false

end Go.Proofs.YtmimfkhkilijcaaGreatDoor
