/- The library's digits of 16 (strconv.FormatInt at the base 16). -/
import Derived.Test.YtcigklninmddaaaGreatDoorKBase
import Derived.Test.YtcigklninmddaaaGreatDoorKSPlain
import Derived.Test.YtcigklninmddaaaGreatDoorShelf
import Derived.WalkKit
import Derived.ProofKit
import Derived.OpenShut
import Derived.Handy
import Derived.BigQuiet
import Derived.Deep.QuietTactic
import Derived.IntWalk
import Derived.Outline
import Derived.WalkLawsBesides
import Derived.Deep.RegionWith
import Derived.Deep.RegionHeld3
namespace Go.Proofs.YtcigklninmddaaaGreatDoor
set_option maxRecDepth 4000
open Go.ChangeShapes Go.WideShapes Go.ChangeAt Go.RowKit
open PHex
set_option linter.unusedVariables false

/-- What the library's own variables hold. -/
structure Env (w : World) : Prop where
  big : 8 ≤ w.heap.size
  syn : ∃ v, w.cell? ⟨3, 0, none⟩ = some v ∧ (v = .nilIface ∨ ∃ te pe, v = .iface te pe)
  rng : ∃ v, w.cell? ⟨4, 0, none⟩ = some v ∧ (v = .nilIface ∨ ∃ te pe, v = .iface te pe)
  four : w.cell? ⟨7, 15, none⟩ = some (.int .u8 4)

theorem Env.below {B : Nat} {w w' : World} (h : Env w) (hb : Below B w w') (hB : 8 ≤ B) : Env w' := by
  have hc : ∀ k o, k < 8 → w'.cell? ⟨k, o, none⟩ = w.cell? ⟨k, o, none⟩ := fun k o hk => hb.cell (p := ⟨k, o, none⟩) (Nat.lt_of_lt_of_le hk hB)
  refine ⟨Nat.le_trans h.big hb.size, ?_, ?_, ?_⟩
  · rw [hc 3 0 (by omega)]; exact h.syn
  · rw [hc 4 0 (by omega)]; exact h.rng
  · rw [hc 7 15 (by omega)]; exact h.four
theorem Env.on {w w' : World} (h : Env w) (hb : Below w.heap.size w w') : Env w' := h.below hb h.big

set_option maxHeartbeats 400000 in
theorem tz64 (w : World) (h : Env w) : Calls Tryz.prog 123 #[.int .u64 16] w fun e w' => e = .returned (.int .i64 4) ∧ w = w' := by
  have h4 := h.four
  have hn : IntKind.u64.wrap (bits BinOp.and IntKind.u64 16 (IntKind.u64.wrap (-16)) * 285870213051353865) / 288230376151711744 = 15 := by decide
  go_enter Tryz.func123, Tryz.ntmps123
  go_wp2
  go_ret
  exact ⟨rfl, rfl⟩

theorem and15_u64 (x : Nat) (hx : x < 18446744073709551616) : bits .and .u64 (x : Int) 15 = ((x % 16 : Nat) : Int) := by
  show IntKind.u64.wrap ((BitVec.ofInt 64 x &&& BitVec.ofInt 64 15).toNat : Int) = _
  rw [BitVec.ofInt_natCast, BitVec.toNat_and, BitVec.toNat_ofNat, Nat.mod_eq_of_lt hx, show (BitVec.ofInt 64 15).toNat = 2 ^ 4 - 1 from rfl, Nat.and_two_pow_sub_one_eq_mod, IntKind.wrap_u64]
  omega

abbrev digitText : ByteArray := ⟨#[48, 49, 50, 51, 52, 53, 54, 55, 56, 57, 97, 98, 99, 100, 101, 102, 103, 104, 105, 106, 107, 108, 109, 110, 111, 112, 113, 114, 115, 116, 117, 118, 119, 120, 121, 122]⟩
theorem digit_at : ∀ d, d < 16 → ∀ h : d < digitText.size, digitText[d] = dig d := by decide

theorem buf_made (w : World) : (zeroValue 171).run Tryz.prog w = .ok (.agg (Array.replicate 65 (.int .u8 0))) w := by kernel_rfl

theorem Own.fresh (w : World) (n : Nat) (v : Value) (e : TypeId) : Own (w.alloc (.cells (Array.replicate n v) e)) w.heap.size 0 n (fun _ => v) := by
  refine ⟨by simp, fun j hj => ?_, fun j hj => ?_⟩
  · rw [cell_of_row _ w.heap.size (0 + j) _ e (0, 0) (heap_alloc_new w _)]
    simp [hj]
  · have e0 := heap_alloc_new w (.cells (Array.replicate n v) e (0, 0))
    simp only [World.frozen?, e0]
    simp

set_option maxRecDepth 100000 in
set_option maxHeartbeats 400000 in
theorem fmt_bits (n : Nat) (w : World) (hn : n < 18446744073709551616) (h : Env w) :
    Calls Tryz.prog 110 #[.slice none 0 0, .int .u64 n, .int .i64 16, .bool false, .bool false] w fun e w' => e = .returned (.tuple #[.slice none 0 0, .string (bstr (hex n))]) ∧ Below w.heap.size w w' := by
  have hal := buf_made w
  have hown := Own.fresh w 65 (.int .u8 0) 171
  have hbel := (Below.refl w.heap.size w).alloc (Nat.le_refl _) (.cells (Array.replicate 65 (.int .u8 0)) 171)
  have HTZ : Hid (∀ w, Env w → Calls Tryz.prog 123 #[.int .u64 16] w fun e w' => e = .returned (.int .i64 4) ∧ w = w') := tz64
  have henv := h.on hbel
  have h16 : bits .and .i64 16 15 = 0 := by decide
  clear h
  have HENV := Lib.hid henv
  clear henv
  go_enter Tryz.func110, Tryz.ntmps110
  go_wp2_with (first | (go_at_call 123; refine (HTZ.out _ HENV.out).mono ?_; rintro e w' ⟨rfl, rfl⟩) | go_in)
  generalize hw1 : w.alloc (.cells (Array.replicate 65 (.int .u8 0)) 171) = w1 at *
  clear hal hw1 HTZ h16 HENV
  have hlen := hex_len64 hn
  go_loopw [1, 13] (fun u i wr => ∃ (x k : Nat) (f : Nat → Value) (l : List UInt8), u = .int .u64 x ∧ i = .int .i64 k ∧ x < 18446744073709551616 ∧ k + l.length = 65 ∧ Hid (hex n = hex x ++ l) ∧ Own wr w.heap.size 0 65 f ∧ Hid (∀ j (h : j < l.length), f (k + j) = .int .u8 (l[j].toNat : Int)) ∧ Below w.heap.size w wr) (fun u _ _ => (intOf u).toNat)
  case atStart => exact ⟨n, 65, _, [], rfl, rfl, hn, rfl, (by show _ = _; simp), hown, (fun j h => by simp at h), hbel⟩
  case round =>
    clear hown hbel
    obtain ⟨x, k, f, l, rfl, rfl, hx, hk, HX, ho, HF, hb⟩ := hrel
    have hl16 : (hex x).length + l.length ≤ 16 := by
      have := congrArg List.length HX.out
      rw [List.length_append] at this
      omega
    have hxp := hex_pos x
    obtain ⟨k', rfl⟩ : ∃ k', k = k' + 1 := ⟨k - 1, by omega⟩
    have hk1 : ((k' + 1 : Nat) : Int) - 1 = (k' : Int) := by omega
    have hk2 : ((k' : Int) + 1) - 1 = (k' : Int) := by omega
    have hc := ho.cell k' (by omega)
    have hf := ho.free k' (by omega)
    have hlt := ho.lt
    rw [Nat.zero_add] at hc hf
    have hand := and15_u64 x hx
    by_cases h16 : 16 ≤ x
    · have hm : x % 16 < digitText.size := by show _ < 36; omega
      have hd := digit_at (x % 16) (by omega) hm
      have hset := ho.set k' (by omega) (.int .u8 (digitText[x % 16].toNat : Int))
      rw [Nat.zero_add] at hset
      have HD := Lib.hid hd
      have HSET := Lib.hid hset
      clear hset hd
      have hx2 : Hid (hex n = hex (x / 16) ++ (digitText[x % 16]'hm :: l)) := by
        show _ = _
        rw [HX.out, hex_high h16, HD.out]
        simp
      go_wp2
      go_roundw
      case rel =>
        have hfin : ∀ j (h : j < (digitText[x % 16]'hm :: l).length), (fun i => if i = k' then Value.int .u8 (digitText[x % 16].toNat : Int) else f i) (k' + j) = .int .u8 ((digitText[x % 16]'hm :: l)[j].toNat : Int) := by
          intro j h
          by_cases e : j = 0
          · subst e; simp
          · obtain ⟨j', rfl⟩ : ∃ j', j = j' + 1 := ⟨j - 1, by omega⟩
            have h' : j' < l.length := by simpa using h
            have := HF.out j' h'
            simp only
            rw [if_neg (by omega), show k' + (j' + 1) = k' + 1 + j' by omega, this]
            simp
        have hb2 := hb.setCell (p := ⟨w.heap.size, k', none⟩) (Nat.le_refl _) (.int .u8 (digitText[x % 16].toNat : Int))
        have hkl : k' + (digitText[x % 16]'hm :: l).length = 65 := by simp; omega
        first
          | exact ⟨x / 16, k', _, _, by go_num, by go_num, by omega, hkl, hx2, HSET.out, hfin, hb2⟩
          | ((repeat apply Exists.intro); exact ⟨⟨x / 16, k', _, _, rfl, rfl, by omega, hkl, hx2, HSET.out, hfin, hb2⟩, rfl⟩)
      case measure => simp [intOf]; omega
    · have hx16 : x < 16 := by omega
      have hm : x < digitText.size := by show _ < 36; omega
      have hd := digit_at x hx16 hm
      have hset := ho.set k' (by omega) (.int .u8 (digitText[x].toNat : Int))
      rw [Nat.zero_add] at hset
      have hxl : hex n = digitText[x]'hm :: l := by rw [HX.out, hex_low hx16, hd]; rfl
      have hall : ∀ j (h : j < (hex n).length), (fun i => if i = k' then Value.int .u8 (digitText[x].toNat : Int) else f i) (k' + j) = .int .u8 ((hex n)[j].toNat : Int) := by
        intro j h
        have hgoal : ∀ (L : List UInt8) (hL : L = digitText[x]'hm :: l) (h : j < L.length), (fun i => if i = k' then Value.int .u8 (digitText[x].toNat : Int) else f i) (k' + j) = .int .u8 (L[j].toNat : Int) := by
         intro L hL h
         subst hL
         by_cases e : j = 0
         · subst e; simp
         · obtain ⟨j', rfl⟩ : ∃ j', j = j' + 1 := ⟨j - 1, by omega⟩
           have h' : j' < l.length := by simpa using h
           have := HF.out j' h'
           simp only
           rw [if_neg (by omega), show k' + (j' + 1) = k' + 1 + j' by omega, this]
           simp
        exact hgoal (hex n) hxl h
      have hlk : 65 - k' = (hex n).length := by rw [hxl]; simp; omega
      have hal : ((Tryz.prog.arrayLen 171 : Nat) : Int) = 65 := by rw [show Tryz.prog.arrayLen 171 = 65 by kernel_rfl]; rfl
      have hsl : ∀ W, (Instr.sliceAt 171 (.pointer (some ⟨w.heap.size, 0, none⟩)) (some (.int .i64 (k' : Int))) none none).run Tryz.prog W = .ok (.slice (some ⟨w.heap.size, k', none⟩) (hex n).length (hex n).length) W := fun W => by
        rw [run_sliceAt_array_l W 171 ⟨w.heap.size, 0, none⟩ (by kernel_rfl) .i64 (k' : Int) (by omega) (by rw [hal]; omega)]
        go_simp
        omega
      have kc := run_convert_bytes_back (P := Tryz.prog) (wr.setCell ⟨w.heap.size, k', none⟩ (.int .u8 (digitText[x].toNat : Int))) 44 9 5 ⟨w.heap.size, k', none⟩ (hex n).length (hex n) Tryz.underlying44 Tryz.underlying5 Tryz.underlying9 (fun j hj => by
        rw [Addr.add_lit]
        have h1 := hset.cell (k' + j) (by omega)
        rw [Nat.zero_add] at h1
        rw [h1]
        exact congrArg some (hall j hj))
      have hb2 := hb.setCell (p := ⟨w.heap.size, k', none⟩) (Nat.le_refl _) (.int .u8 (digitText[x].toNat : Int))
      clear hd hlk hal hxl hall hset
      go_wp2
      go_ret2
      exact ⟨rfl, hb2⟩

set_option maxHeartbeats 400000 in
theorem fmt_int (n : Nat) (w : World) (hn : n < 9223372036854775808) (h : Env w) :
    Calls Tryz.prog 98 #[.int .i64 n, .int .i64 16] w fun e w' => e = .returned (.string (bstr (hex n))) ∧ Below w.heap.size w w' := by
  have hf := fmt_bits n w (by omega) h
  have HF := Lib.hid hf
  clear hf
  have hn0 : ¬ ((n : Int) < 0) := by omega
  have hd : decide ((n : Int) < 0) = false := by simp
  go_enter Tryz.func98, Tryz.ntmps98
  go_wp2_with (first | (go_at_call 110; refine HF.out.mono ?_; rintro e w1 ⟨rfl, hb⟩))
  go_ret
  exact ⟨rfl, hb⟩

set_option maxHeartbeats 400000 in
theorem q_digits (n : Nat) (w : World) (hn : n < 9223372036854775808) (h : Env w) :
    Calls Tryz.prog 103 #[.int .i64 n] w fun e w' => e = .returned (.string (bstr (hex n))) ∧ Below w.heap.size w w' := by
  have hf := fmt_int n w hn h
  have HF := Lib.hid hf
  clear hf
  go_enter Tryz.func103, Tryz.ntmps103
  go_wp2_with (first | (go_at_call 98; refine HF.out.mono ?_; rintro e w1 ⟨rfl, hb⟩) | go_in)
  go_ret
  exact ⟨rfl, hb⟩
end Go.Proofs.YtcigklninmddaaaGreatDoor
