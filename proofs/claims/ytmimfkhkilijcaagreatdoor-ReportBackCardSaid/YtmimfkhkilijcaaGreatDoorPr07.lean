/- KCrc: what is reached of them. -/
import Derived.BigQuiet
import Derived.BigRegion
import Derived.Deep.DeepCutAuto
import Derived.Deep.DeepFit
import Derived.Deep.QuietTactic
import Derived.Deep.RegionHeld3
import Derived.Deep.RegionWith
import Derived.Handy
import Derived.IntWalk
import Derived.Lib.Hide
import Derived.OpenShut
import Derived.Outline
import Derived.ProofKit
import Derived.Test.YtmimfkhkilijcaaGreatDoorPr01
import Derived.Test.YtmimfkhkilijcaaGreatDoorPr03
import Derived.Test.YtmimfkhkilijcaaGreatDoorPr05
import Derived.WalkKit
import Derived.WalkLawsBesides
namespace Go.Proofs.YtmimfkhkilijcaaGreatDoor
set_option maxRecDepth 4000
open Go.ChangeShapes Go.WideShapes Go.ChangeAt Go.RowKit
open PCrc
set_option linter.unusedVariables false

theorem xor_u32 (x y : Nat) (hx : x < 4294967296) (hy : y < 4294967296) : bits .xor .u32 (x : Int) (y : Int) = ((x ^^^ y : Nat) : Int) := by
  show IntKind.u32.wrap ((BitVec.ofInt 32 x ^^^ BitVec.ofInt 32 y).toNat : Int) = _
  rw [BitVec.ofInt_natCast, BitVec.ofInt_natCast, BitVec.toNat_xor, BitVec.toNat_ofNat, BitVec.toNat_ofNat, Nat.mod_eq_of_lt hx, Nat.mod_eq_of_lt hy, IntKind.wrap_u32]
  have : x ^^^ y < 2 ^ 32 := Nat.xor_lt_two_pow hx hy
  omega
theorem xor_u8 (x y : Nat) (hx : x < 256) (hy : y < 256) : bits .xor .u8 (x : Int) (y : Int) = ((x ^^^ y : Nat) : Int) := by
  show IntKind.u8.wrap ((BitVec.ofInt 8 x ^^^ BitVec.ofInt 8 y).toNat : Int) = _
  rw [BitVec.ofInt_natCast, BitVec.ofInt_natCast, BitVec.toNat_xor, BitVec.toNat_ofNat, BitVec.toNat_ofNat, Nat.mod_eq_of_lt hx, Nat.mod_eq_of_lt hy, IntKind.wrap_u8]
  have : x ^^^ y < 2 ^ 8 := Nat.xor_lt_two_pow hx hy
  omega
theorem and1_u32 (x : Nat) (hx : x < 4294967296) : bits .and .u32 (x : Int) 1 = ((x % 2 : Nat) : Int) := by
  show IntKind.u32.wrap ((BitVec.ofInt 32 x &&& BitVec.ofInt 32 1).toNat : Int) = _
  rw [BitVec.ofInt_natCast, BitVec.toNat_and, BitVec.toNat_ofNat, Nat.mod_eq_of_lt hx, show (BitVec.ofInt 32 1).toNat = 1 from rfl, Nat.and_one_is_mod, IntKind.wrap_u32]
  omega
theorem not_u32 (x : Nat) (hx : x < 4294967296) : bits .xor .u32 4294967295 (x : Int) = ((4294967295 - x : Nat) : Int) := by
  show IntKind.u32.wrap ((BitVec.ofInt 32 4294967295 ^^^ BitVec.ofInt 32 x).toNat : Int) = _
  have e : BitVec.ofInt 32 4294967295 = BitVec.allOnes 32 := by decide
  rw [e, BitVec.allOnes_xor, BitVec.toNat_not, BitVec.ofInt_natCast, BitVec.toNat_ofNat, IntKind.wrap_u32]
  omega

set_option maxRecDepth 100000 in
set_option maxHeartbeats 1000000 in
theorem crc_remainder (r : Nat) (w : World) (hr : r < 4294967296) :
    Calls Tryz.prog 245 #[.int .u32 r] w fun e w' => e = .returned (.int .u32 (tab r : Nat)) ∧ w = w' := by
  go_enter Tryz.func245, Tryz.ntmps245
  go_wp2
  go_loop [0, 3, 4] (fun a f i => ∃ k x : Nat, k ≤ 8 ∧ i = .int .i64 k ∧ a = .int .u32 x ∧ x < 4294967296 ∧ Hid (iter (8 - k) x = tab r)) (fun _ _ i => 8 - (intOf i).toNat)
  case atStart => exact ⟨0, r, by omega, rfl, rfl, hr, rfl⟩
  case round =>
    obtain ⟨k, x, hk, rfl, rfl, hx, HI⟩ := hrel
    by_cases hlt : k < 8
    · have HX := Lib.hid (xor_u32 (x / 2) 3988292384 (by omega) (by decide))
      have e8 : iter (8 - k) x = iter (8 - (k + 1)) (cst x) := by rw [show 8 - k = (8 - (k + 1)) + 1 by omega, iter_1]
      have hst : cst x < 4294967296 := cst_lt hx
      have HE := Lib.hid e8
      have HST := Lib.hid hst
      clear e8 hst
      have ha := and1_u32 x hx
      rcases (by omega : x % 2 = 1 ∨ x % 2 = 0) with h | h
      · have h1 : (bits BinOp.and IntKind.u32 (↑x) 1 == 1) = true := by rw [ha, h]; rfl
        have hs : Hid (bits BinOp.xor IntKind.u32 (↑x / 2) 3988292384 = ((cst x : Nat) : Int)) := by
          show _ = _
          have := HX.out
          unfold cst
          rw [if_pos h]
          exact this
        clear ha
        go_wp2
        go_round
        case rel => exact ⟨k + 1, cst x, by omega, by go_num, by rw [hs.out], HST.out, by rw [← HI.out, HE.out]; exact rfl⟩
        case measure => simp [intOf]; omega
      · have h1 : (bits BinOp.and IntKind.u32 (↑x) 1 == 1) = false := by rw [ha, h]; rfl
        have hs : Hid ((x : Int) / 2 = ((cst x : Nat) : Int)) := by
          show _ = _
          unfold cst
          rw [if_neg (by omega)]
          omega
        clear ha
        go_wp2
        go_round
        case rel => exact ⟨k + 1, cst x, by omega, by go_num, by rw [hs.out], HST.out, by rw [← HI.out, HE.out]; exact rfl⟩
        case measure => simp [intOf]; omega
    · go_wp2
      go_ret
      refine ⟨ret_int ?_, rfl⟩
      have := HI.out
      rw [show 8 - k = 0 by omega, iter_0] at this
      rw [← this]

/-- The table: where it lies. -/
def Tab (w : World) (g : Nat) : Prop := Own w g 0 256 (fun j => .int .u32 (tab j : Nat))

set_option maxRecDepth 100000 in
theorem tab_made (w : World) : (zeroValue 320).run Tryz.prog w = .ok (.agg (Array.replicate 256 (.int .u32 0))) w := by kernel_rfl

theorem Own.made (w : World) (n : Nat) (v : Value) (e : TypeId) : Own (w.alloc (.cells (Array.replicate n v) e)) w.heap.size 0 n (fun _ => v) := by
  refine ⟨by simp, fun j hj => ?_, fun j hj => ?_⟩
  · rw [cell_of_row _ w.heap.size (0 + j) _ e (0, 0) (heap_alloc_new w _)]
    simp [hj]
  · have e0 := heap_alloc_new w (.cells (Array.replicate n v) e (0, 0))
    simp only [World.frozen?, e0]
    simp

set_option maxRecDepth 100000 in
set_option maxHeartbeats 1000000 in
theorem crc_new (w : World) : Calls Tryz.prog 208 #[] w fun e w' => ∃ g, e = .returned (.pointer (some ⟨g, 0, none⟩)) ∧ w.heap.size ≤ g ∧ Tab w' g ∧ Below w.heap.size w w' := by
  have hal := tab_made w
  have hown := Own.made w 256 (.int .u32 0) 320
  have hbel := (Below.refl w.heap.size w).alloc (Nat.le_refl _) (.cells (Array.replicate 256 (.int .u32 0)) 320)
  go_enter Tryz.func208, Tryz.ntmps208
  go_wp2
  generalize w.alloc (.cells (Array.replicate 256 (.int .u32 0)) 320) = w1 at *
  clear hal
  go_loopw [2, 4] (fun b i wr => ∃ k : Nat, k ≤ 256 ∧ i = .int .i64 k ∧ Own wr w.heap.size 0 256 (fun j => .int .u32 (if j < k then (tab j : Nat) else 0 : Nat)) ∧ Below w.heap.size w wr) (fun _ i _ => 256 - (intOf i).toNat)
  case atStart => exact ⟨0, by omega, rfl, hown.congr (fun j hj => by simp), hbel⟩
  case round =>
    obtain ⟨k, hk, rfl, ho, hb⟩ := hrel
    by_cases hlt : k < 256
    · have hc := ho.cell k hlt
      have hf := ho.free k hlt
      have hlt2 := ho.lt
      rw [Nat.zero_add] at hc hf
      rw [if_neg (by omega)] at hc
      have hw32 : IntKind.u32.wrap (k : Int) = k := by rw [IntKind.wrap_u32]; omega
      go_wp2
      go_region_with (go_at_call 245; refine (crc_remainder k _ (by omega)).mono ?_; rintro e w' ⟨rfl, rfl⟩)
      have hset := ho.drew.set k hlt (.int .u32 (tab k : Nat))
      rw [Nat.zero_add] at hset
      have hset' := hset.congr (f' := fun j => .int .u32 (if j < k + 1 then (tab j : Nat) else 0 : Nat)) (fun j hj => by
        show (if j = k then _ else _) = _
        by_cases e : j = k
        · subst e; rw [if_pos rfl, if_pos (by omega)]
        · rw [if_neg e]
          by_cases e2 : j < k
          · rw [if_pos e2, if_pos (by omega)]
          · rw [if_neg e2, if_neg (by omega)])
      go_wp2
      go_roundw
      case rel => exact ⟨k + 1, by omega, by go_num, hset', hb.drew.setCell (by simp) _⟩
      case measure => simp [intOf]; omega
    · go_wp2
      go_ret
      refine ⟨_, rfl, Nat.le_refl _, ho.congr (fun j hj => by rw [if_pos (by omega)]), hb⟩

theorem Tab.below {B : Nat} {w w' : World} {g : Nat} (h : Tab w g) (hb : Below B w w') (hg : g < B) : Tab w' g := Own.below h hb hg
theorem Tab.drew {w : World} {g : Nat} (h : Tab w g) : Tab w.drew g := Own.drew h

set_option maxRecDepth 100000 in
set_option maxHeartbeats 1000000 in
theorem crc_sum (g : Nat) (s : ByteArray) (w : World) (ht : Tab w g) (hs : s.size ≤ maxLen) :
    Calls Tryz.prog 269 #[.pointer (some ⟨g, 0, none⟩), .string s] w fun e w' => e = .returned (.int .u32 (PCrc.sum s.data.toList : Nat)) ∧ ∃ n, w' = w.drewN n := by
  unfold maxLen at hs
  go_enter Tryz.func269, Tryz.ntmps269
  go_wp2
  go_loopw [5, 6, 9] (fun a j i wr => ∃ k r n : Nat, k ≤ s.size ∧ i = .int .i64 k ∧ a = .int .u32 r ∧ r < 4294967296 ∧ Hid (r = PCrc.reg 4294967295 (s.data.toList.take k)) ∧ wr = w.drewN n) (fun _ _ i _ => s.size - (intOf i).toNat)
  case atStart => exact ⟨0, 4294967295, 0, Nat.zero_le _, rfl, rfl, by omega, rfl, rfl⟩
  case round =>
    obtain ⟨k, r, n, hk, rfl, rfl, hr, HR, rfl⟩ := hrel
    by_cases hlt : k < s.size
    · have hc := (s[k]).toNat_lt
      have hS := reg_snoc 4294967295 s.data.toList k (by simpa using hlt)
      rw [← HR.out] at hS
      have hidx : (r % 256) ^^^ s[k].toNat < 2 ^ 8 := Nat.xor_lt_two_pow (by omega) hc
      have HS : Hid (PCrc.reg 4294967295 (s.data.toList.take (k + 1)) = PCrc.upd r s[k].toNat) := hS
      have hx := xor_u8 (r % 256) s[k].toNat (by omega) hc
      have hcell := ht.cell _ hidx
      have htl := tab_lt hidx
      have HU : Hid (PCrc.upd r s[k].toNat = (PCrc.tab ((r % 256) ^^^ s[k].toNat)) ^^^ (r / 256)) := rfl
      clear hS
      rw [Nat.zero_add] at hcell
      generalize hi : (r % 256) ^^^ s[k].toNat = idx at *
      generalize PCrc.tab idx = t at *
      have hx2 := xor_u32 t (r / 256) htl (by omega)
      have HX2 := Lib.hid hx2
      clear hx2 hi
      have hx1 : bits .xor .u8 ((r : Int) % 256) (s[k].toNat : Int) = (idx : Int) := hx
      have hx3 : bits .xor .u8 (IntKind.u8.wrap (r : Int)) (s[k].toNat : Int) = (idx : Int) := by rw [IntKind.wrap_u8]; exact hx
      clear hx
      go_wp2
      go_region
      go_wp2
      go_roundw
      case rel => exact ⟨k + 1, t ^^^ (r / 256), n + 1, by omega, by go_num, by rw [← HX2.out]; rfl, Nat.xor_lt_two_pow htl (Nat.lt_of_le_of_lt (Nat.div_le_self _ _) hr), (by rw [HS.out, HU.out]; exact rfl), rfl⟩
      case measure => simp [intOf]; omega
    · go_wp2
      go_ret
      have hm : IntKind.u32.max = 4294967295 := by decide
      refine ⟨ret_int ?_, n, rfl⟩
      rw [hm, not_u32 r hr, PCrc.sum, HR.out, List.take_of_length_le (by simp; omega)]
end Go.Proofs.YtmimfkhkilijcaaGreatDoor

/- crc: sealed texts. -/
namespace Go.Proofs.YtmimfkhkilijcaaGreatDoor
set_option maxRecDepth 4000
open Go.ChangeShapes Go.WideShapes Go.ChangeAt Go.RowKit
open PCrc
set_option linter.unusedVariables false

theorem four_text (n : Nat) (hn : n < 4294967296) (w : World) (N : Nat) (hN : w.heap.size = N) :
    (convert 79 9 (.slice (some ⟨N, 0, none⟩) 4 4)).run Tryz.prog (w.alloc (.cells #[.int .u8 ((n : Int) / 16777216), .int .u8 ((n : Int) / 65536 % 256), .int .u8 ((n : Int) / 256 % 256), .int .u8 ((n : Int) % 256)] 5)) =
      .ok (.string (bstr (four n))) (w.alloc (.cells #[.int .u8 ((n : Int) / 16777216), .int .u8 ((n : Int) / 65536 % 256), .int .u8 ((n : Int) / 256 % 256), .int .u8 ((n : Int) % 256)] 5)) := by
  subst hN
  have h := Sl.made (B := w.heap.size) w #[.int .u8 ((n : Int) / 16777216), .int .u8 ((n : Int) / 65536 % 256), .int .u8 ((n : Int) / 256 % 256), .int .u8 ((n : Int) % 256)] 5 1 4 4 (Nat.le_refl _) (Nat.le_refl _) (by decide) (by simp)
  refine sl_string (n := 4) (l := four n) ?_ 79 9 5 Tryz.underlying79 Tryz.underlying5 Tryz.underlying9 (B := w.heap.size)
  have e : bv (four n) = [.int .u8 ((n : Int) / 16777216), .int .u8 ((n : Int) / 65536 % 256), .int .u8 ((n : Int) / 256 % 256), .int .u8 ((n : Int) % 256)] := by
    simp [bv, four]
    omega
  rw [e]
  simpa using h

set_option maxRecDepth 100000 in
set_option maxHeartbeats 1000000 in
theorem crc_seal4 (g : Nat) (s : ByteArray) (w : World) (ht : Tab w g) (hs : s.size ≤ maxLen) :
    Calls Tryz.prog 246 #[.pointer (some ⟨g, 0, none⟩), .string s] w fun e w' => e = .returned (.string (bstr (four (PCrc.sum s.data.toList)))) ∧ Below w.heap.size w w' := by
  have hlt := sum_lt s.data.toList
  have HS := Lib.hid (crc_sum g s w ht hs)
  generalize PCrc.sum s.data.toList = n at *
  have kc := fun m => four_text n hlt (w.drewN m) w.heap.size rfl
  go_enter Tryz.func246, Tryz.ntmps246
  go_wp2_with (first | (go_at_call 269; refine HS.out.mono ?_; rintro e w' ⟨rfl, m, rfl⟩))
  go_ret
  exact ⟨rfl, (below_drewN (Below.refl _ _) _).alloc (Nat.le_refl _) _⟩

set_option maxHeartbeats 1000000 in
theorem str_clone (s : ByteArray) (w : World) (hs : s.size ≤ 281474976710656) :
    Calls Tryz.prog 156 #[.string s] w fun e w' => e = .returned (.string s) ∧ Below w.heap.size w w' := by
  have HC := Lib.hid (Tryz.stringslite_Clone s w hs)
  go_enter Tryz.func156, Tryz.ntmps156
  go_wp2_with (first | (go_at_call 206; refine HC.out.mono ?_; rintro e w1 ⟨rfl, hb⟩))
  go_ret
  exact ⟨rfl, hb⟩

theorem ext_take (s : ByteArray) (n : Nat) : (s.extract 0 n).data.toList = s.data.toList.take n := by
  rw [Lib.extract_data]
  simp
theorem ext_drop (s : ByteArray) (n : Nat) : (s.extract n s.size).data.toList = s.data.toList.drop n := by
  rw [Lib.extract_data]
  have : s.data.toList.length = s.size := by simp
  rw [List.take_of_length_le]
  rw [List.length_drop]
  omega
theorem ext_bstr (s : ByteArray) (a b : Nat) : s.extract a b = bstr (s.extract a b).data.toList := rfl

end Go.Proofs.YtmimfkhkilijcaaGreatDoor

/- crc: sealed texts opened. -/
namespace Go.Proofs.YtmimfkhkilijcaaGreatDoor
set_option maxRecDepth 4000
open Go.ChangeShapes Go.WideShapes Go.ChangeAt Go.RowKit
open PCrc
set_option linter.unusedVariables false

set_option maxRecDepth 100000 in
set_option maxHeartbeats 1000000 in
theorem crc_open (g : Nat) (s : ByteArray) (w : World) (ht : Tab w g) (hs : s.size ≤ 140737488355328) :
    Calls Tryz.prog 209 #[.pointer (some ⟨g, 0, none⟩), .string s] w fun e w' => e = .returned (.tuple #[.string (bstr (opened s.data.toList)), .bool (opn s.data.toList)]) ∧ Below w.heap.size w w' := by
  have hsl : s.data.toList.length = s.size := by simp
  by_cases h4 : s.size < 4
  · have ho : opn s.data.toList = false := by unfold opn; simp; omega
    have hod : opened s.data.toList = [] := by unfold opened; rw [ho]; rfl
    rw [ho, hod]
    clear ho hod hsl
    go_enter Tryz.func209, Tryz.ntmps209
    go_wp2
    generalize hcut : (s.size : Int) - 4 = c
    have hneg : c < 0 := by omega
    clear hcut h4
    go_region
    go_wp2
    go_ret2
    exact ⟨rfl, (Below.refl _ _).drew⟩
  · obtain ⟨m, hm⟩ : ∃ m, s.size = m + 4 := ⟨s.size - 4, by omega⟩
    have hc4 := fun w' (h : Tab w' g) => crc_seal4 g (s.extract 0 m) w' h (by unfold maxLen; simp; omega)
    have HC4 := Lib.hid hc4
    clear hc4
    have hcm : (s.size : Int) - 4 = (m : Int) := by omega
    have hms : m ≤ s.size := by omega
    have hnd : decide ((m : Int) < 0) = false := by simp
    clear hm h4
    go_enter Tryz.func209, Tryz.ntmps209
    go_wp2
    go_region_held3 (fun _ => True) (exact trivial) (first | (go_at_call 246; refine (HC4.out _ ht.drew).mono ?_; rintro e w1 ⟨rfl, hb⟩))
    have hb' : Below w.heap.size w w1 := ⟨hb.os, hb.tape, hb.output, hb.size, hb.block⟩
    have hd := ext_drop s m
    have hpos : (4 : Nat) ≤ s.data.toList.length := by omega
    have hlm : s.data.toList.length - 4 = m := by omega
    have hcl := fun w' => str_clone (s.extract 0 m) w' (by simp; omega)
    have HCL := Lib.hid hcl
    clear hcl
    have he : Hid (s.extract 0 m = bstr (s.data.toList.take m)) := by show _ = _; rw [ext_bstr s 0 m, ext_take]
    have HD := Lib.hid hd
    clear hd
    go_wp2_with (first | (go_at_call 156; refine (HCL.out _).mono ?_; rintro e w2 ⟨rfl, hb2⟩))
    · have h : (!((s.extract m s.size).toList == four (PCrc.sum (s.data.toList.take m)))) = true := by assumption
      have hq : s.data.toList.drop m ≠ four (PCrc.sum (s.data.toList.take m)) := by rw [Lib.toList_data, HD.out] at h; simpa using h
      have ho : opn s.data.toList = false := by unfold opn; rw [hlm, decide_eq_false_iff_not]; exact fun h => hq h.2
      have hod : opened s.data.toList = [] := by unfold opened; rw [ho]; rfl
      go_ret2
      exact ⟨by rw [ho, hod]; rfl, hb'⟩
    · have h : (!((s.extract m s.size).toList == four (PCrc.sum (s.data.toList.take m)))) = false := by assumption
      have hq : s.data.toList.drop m = four (PCrc.sum (s.data.toList.take m)) := by rw [Lib.toList_data, HD.out] at h; simpa using h
      have ho : opn s.data.toList = true := by unfold opn; rw [hlm, decide_eq_true_iff]; exact ⟨hpos, hq⟩
      have hod : opened s.data.toList = s.data.toList.take m := by unfold opened; rw [ho, hlm]; rfl
      go_ret2
      exact ⟨by rw [he.out, ho, hod]; rfl, hb'.trans (hb2.mono hb'.size)⟩
end Go.Proofs.YtmimfkhkilijcaaGreatDoor

/- Sums that are known; a seal opened; a row of bytes as a text. -/
namespace Go.Proofs.YtmimfkhkilijcaaGreatDoor
set_option maxRecDepth 4000
open Go.ChangeShapes Go.WideShapes Go.ChangeAt Go.RowKit
open PCrc
set_option linter.unusedVariables false

/-! ### What the laws ask first -/

end Go.Proofs.YtmimfkhkilijcaaGreatDoor
