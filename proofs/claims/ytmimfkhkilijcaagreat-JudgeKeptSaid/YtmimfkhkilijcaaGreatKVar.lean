/- Contracts of varint's calls, and of the document's own answers beside them: numbers. -/
import Derived.Test.YtmimfkhkilijcaaGreatKBase
import Derived.WalkKit
import Derived.ProofKit
import Derived.OpenShut
import Derived.Handy
import Derived.BigQuiet
import Derived.Deep.QuietTactic
import Derived.IntWalk
import Derived.Outline
import Derived.Lib.Hide
import Derived.Test.YtmimfkhkilijcaaGreatKRec
import Derived.Lib.Strings
import Derived.Test.YtmimfkhkilijcaaGreatBytes
import Derived.Deep.RegionWith
import Derived.Deep.DeepCutAuto
namespace Go.Proofs.YtmimfkhkilijcaaGreat
set_option maxRecDepth 4000
open Go.ChangeShapes Go.WideShapes Go.ChangeAt Go.RowKit
open PVar

theorem not_i64 (n : Int) (h1 : -9223372036854775808 ≤ n) (h2 : n ≤ 9223372036854775807) : bits .xor .i64 (-1) n = -n - 1 := by
  show IntKind.i64.wrap ((BitVec.ofInt 64 (-1) ^^^ BitVec.ofInt 64 n).toNat : Int) = _
  have e : BitVec.ofInt 64 (-1) = BitVec.allOnes 64 := by decide
  rw [e, BitVec.allOnes_xor, BitVec.toNat_not, BitVec.toNat_ofInt, IntKind.wrap_i64]
  omega

set_option maxHeartbeats 400000 in
theorem var_fold (n : Int) (w : World) (hn : -9223372036854775808 ≤ n ∧ n ≤ 9223372036854775807) :
    Calls Tryz.prog 103 #[.int .i64 n] w fun e w' => e = .returned (.int .u64 (fold n : Nat)) ∧ w = w' := by
  obtain ⟨h1, h2⟩ := hn
  have hx := not_i64 n h1 h2
  by_cases h : n < 0
  all_goals
    go_enter Tryz.func103, Tryz.ntmps103
    go_wp2
    go_ret
    refine ⟨ret_int ?_, rfl⟩
    clear hx
    unfold fold
    try simp only [IntKind.wrap_u64]
    split <;> omega

set_option maxHeartbeats 400000 in
theorem var_back (n : Nat) (w : World) (hn : n ≤ 18446744073709551615) :
    Calls Tryz.prog 149 #[.int .u64 n] w fun e w' => e = .returned (.int .i64 (back n)) ∧ w = w' := by
  have hx := not_i64 ((n : Int) / 2) (by omega) (by omega)
  rcases (by omega : n % 2 = 1 ∨ n % 2 = 0) with h | h
  · have h' : ((n : Int) % 2 == 1) = true := by simp; omega
    go_enter Tryz.func149, Tryz.ntmps149
    go_wp2
    go_ret
    refine ⟨ret_int ?_, rfl⟩
    unfold back; split <;> omega
  · have h' : ((n : Int) % 2 == 1) = false := by simp; omega
    go_enter Tryz.func149, Tryz.ntmps149
    go_wp2
    go_ret
    refine ⟨ret_int ?_, rfl⟩
    unfold back; split <;> omega

set_option maxHeartbeats 400000 in
theorem ref_back (n : Nat) (w : World) (hn : n ≤ 18446744073709551615) :
    Calls Tryz.prog 97 #[.int .u64 n] w fun e w' => e = .returned (.int .i64 (back n)) ∧ w = w' := by
  rcases (by omega : n % 2 = 1 ∨ n % 2 = 0) with h | h
  · have h' : ((n : Int) % 2 == 1) = true := by simp; omega
    go_enter Tryz.func97, Tryz.ntmps97
    go_wp2
    go_ret
    refine ⟨ret_int ?_, rfl⟩
    unfold back; split <;> omega
  · have h' : ((n : Int) % 2 == 1) = false := by simp; omega
    go_enter Tryz.func97, Tryz.ntmps97
    go_wp2
    go_ret
    refine ⟨ret_int ?_, rfl⟩
    unfold back; split <;> omega

set_option maxHeartbeats 400000 in
theorem var_fits (i : Nat) (d : Int) (w : World) (b : Bool) (hb : b = !decide (9 < i ∨ (i = 9 ∧ 1 < d))) :
    Calls Tryz.prog 148 #[.int .i64 i, .int .u8 d] w fun e w' => e = .returned (.bool b) ∧ w = w' := by
  have Hb := Lib.hid hb
  clear hb
  by_cases h : i = 9
  · subst h
    go_enter Tryz.func148, Tryz.ntmps148
    go_wp2
    go_ret
    refine ⟨ret_bool ?_, rfl⟩
    rw [Hb.out, Bool.eq_iff_iff]
    simp
  · go_enter Tryz.func148, Tryz.ntmps148
    go_wp2
    go_ret
    refine ⟨ret_bool ?_, rfl⟩
    rw [Hb.out, Bool.eq_iff_iff]
    simp [h]
    omega

theorem info_u8 : (Tryz.prog.info? 5).map (fun i => (i.zero, i.size, i.bytes)) = some (some (.int .u8 0), 1, 1) := by kernel_rfl

/-- What Put leaves: the number's bytes behind those that were there. -/
def PutPost (B : Nat) (w : World) (v : Value) (n : Nat) (xs : List Value) (m : Nat) (e : Ending) (w' : World) : Prop :=
  ∃ v', e = .returned v' ∧ Sl B w' 1 v' (n + (digs m).length) (xs ++ bv (digs m)) ∧ Upd (fun k => v.ownBlock = some k) w w' ∧ (∀ k, v'.ownBlock = some k → v.ownBlock = some k ∨ w.heap.size ≤ k)

/-- The loop's relation: what is still to come, and what has come. -/
def PutAt (B : Nat) (w : World) (v0 : Value) (n0 : Nat) (xs : List Value) (m0 : Nat) (v u : Value) (wr : World) (m : Nat) : Prop :=
  ∃ ds : List UInt8, u = .int .u64 m ∧ m ≤ 18446744073709551615 ∧ digs m0 = ds ++ digs m ∧ Sl B wr 1 v (n0 + ds.length) (xs ++ bv ds) ∧ Upd (fun k => v0.ownBlock = some k) w wr ∧ (∀ k, v.ownBlock = some k → v0.ownBlock = some k ∨ w.heap.size ≤ k)

theorem putAt_start {B : Nat} {w : World} {v0 : Value} {n0 : Nat} {xs : List Value} {m0 : Nat} (h : Sl B w 1 v0 n0 xs) (hm : m0 ≤ 18446744073709551615) : PutAt B w v0 n0 xs m0 v0 (.int .u64 m0) w m0 :=
  ⟨[], rfl, hm, rfl, by simpa [bv] using h, Upd.refl _ _, fun k hk => .inl hk⟩

/-- One byte more. -/
theorem put_more {B : Nat} {w : World} {v0 : Value} {n0 : Nat} {xs : List Value} {v v' : Value} {wr w1 : World} {ds : List UInt8} {o : Obj} {c : UInt8} {u : Value} (hcu : u = .int .u8 (c.toNat : Int))
    (h5 : Upd (fun k => v0.ownBlock = some k) w wr) (h6 : ∀ k, v.ownBlock = some k → v0.ownBlock = some k ∨ w.heap.size ≤ k) 
    (k1 : Sl B w1 1 v' (n0 + ds.length + 1) (xs ++ bv ds ++ [u])) (k2 : Upd (fun k => v.ownBlock = some k) (wr.alloc o) w1) (k3 : ∀ k, v'.ownBlock = some k → v.ownBlock = some k ∨ (wr.alloc o).heap.size ≤ k) :
    Sl B w1 1 v' (n0 + (ds ++ [c]).length) (xs ++ bv (ds ++ [c])) ∧ Upd (fun k => v0.ownBlock = some k) w w1 ∧ (∀ k, v'.ownBlock = some k → v0.ownBlock = some k ∨ w.heap.size ≤ k) := by
  subst hcu
  refine ⟨?_, (h5.alloc o).trans k2 (fun i hi hS => ?_), fun k hk => ?_⟩
  · rw [bv_append, ← List.append_assoc]
    simpa [bv, Nat.add_assoc] using k1
  · rcases h6 i hS with h | h
    · exact h
    · omega
  · rcases k3 k hk with h | h
    · exact h6 k h
    · have := h5.size
      simp at h
      omega

set_option maxRecDepth 100000 in
set_option maxHeartbeats 1000000 in
theorem var_put (B : Nat) (v : Value) (n : Nat) (xs : List Value) (m : Nat) (w : World) (h : Sl B w 1 v n xs) (hm : m ≤ 18446744073709551615) (hn : n ≤ 70368744177664) (hB : B ≤ w.heap.size) :
    Calls Tryz.prog 62 #[v, .int .u64 m] w (PutPost B w v n xs m) := by
  obtain ⟨i0, hi, hz0, hz1, hz2⟩ := info_parts info_u8
  go_enter Tryz.func62, Tryz.ntmps62
  go_wp2
  go_loopw [0, 1] (fun v' u wr => ∃ m' : Nat, PutAt B w v n xs m v' u wr m') (fun _ u _ => (intOf u).toNat)
  case atStart => exact ⟨m, putAt_start h hm⟩
  case round =>
    obtain ⟨m', ds, rfl, hm', hd, hs, hu, hf⟩ := hrel
    have hlen : ds.length + (digs m').length ≤ 10 := by rw [← List.length_append, ← hd]; exact digs_len hm
    have hp := digs_pos m'
    have HD := Lib.hid hd
    have hsz := hu.size
    have HN := Lib.hid hn
    clear hd hn
    by_cases hlt : 128 ≤ m'
    · go_wp2_with (at_builtin; refine wpList_append_sl _ rfl (.tmp 7) (.tmp 12) 128 128 rfl 5 i0 (.int .u8 0) 1 Tryz.underlying128 hi hz0 hz1 hz2 rfl rfl (hs.alloc _) _ 1 _ rfl (src_one Tryz.underlying128 _ _ _ rfl) (by have := HN.out; unfold maxLen; omega) (by have := HN.out; omega) (by simp; omega) ?_; intro v1 w1 k1 k2 k3)
      have R := put_more (c := UInt8.ofNat (m' % 128 + 128)) (by rw [u8_of (n := m' % 128 + 128) (by omega)]; try go_num) hu hf k1 k2 k3
      refine ⟨⟨m' / 128, ds ++ [UInt8.ofNat (m' % 128 + 128)], by go_num, by omega, ?_, R.1, R.2.1, R.2.2⟩, by simp [intOf]; omega⟩
      rw [HD.out, digs_high hlt, List.append_assoc]; rfl
    · go_wp2_with (at_builtin; refine wpList_append_sl _ rfl (.tmp 16) (.tmp 19) 128 128 rfl 5 i0 (.int .u8 0) 1 Tryz.underlying128 hi hz0 hz1 hz2 rfl rfl (hs.alloc _) _ 1 _ rfl (src_one Tryz.underlying128 _ _ _ rfl) (by have := HN.out; unfold maxLen; omega) (by have := HN.out; omega) (by simp; omega) ?_; intro v1 w1 k1 k2 k3)
      have R := put_more (c := UInt8.ofNat m') (by rw [u8_of (n := m') (by omega)]; try go_num) hu hf k1 k2 k3
      go_ret
      rw [digs_low (n := m') (by omega)] at HD
      refine ⟨v1, rfl, ?_, R.2.1, R.2.2⟩
      rw [HD.out]
      exact R.1
end Go.Proofs.YtmimfkhkilijcaaGreat

/- varint: numbers read. -/
namespace Go.Proofs.YtmimfkhkilijcaaGreat
set_option maxRecDepth 4000
open Go.ChangeShapes Go.WideShapes Go.ChangeAt Go.RowKit
open PVar
set_option linter.unusedVariables false

theorem shl_step (acc k c : Nat) (hk : k ≤ 9) (ha : acc < 128 ^ k) (h9 : k = 9 → c % 128 ≤ 1) :
    IntKind.u64.wrap ((acc : Int) + IntKind.u64.wrap ((c : Int) % 128 * 2 ^ (7 * k))) = ((acc + c % 128 * 128 ^ k : Nat) : Int) ∧ acc + c % 128 * 128 ^ k ≤ 18446744073709551615 ∧ (k + 1 ≤ 9 → acc + c % 128 * 128 ^ k < 128 ^ (k + 1)) := by
  have e1 : ((c : Int) % 128 * 2 ^ (7 * k)) = ((c % 128 * 128 ^ k : Nat) : Int) := by
    rw [Int.pow_mul]
    simp
  have hc : c % 128 * 128 ^ k ≤ 127 * 128 ^ k := Nat.mul_le_mul_right _ (by omega)
  have hlt : acc + c % 128 * 128 ^ k < 128 ^ (k + 1) := by rw [Nat.pow_succ]; omega
  have h9' : (128 : Nat) ^ 9 = 9223372036854775808 := by decide
  have hle : acc + c % 128 * 128 ^ k ≤ 18446744073709551615 := by
    by_cases h : k = 9
    · subst h
      have : c % 128 * 128 ^ 9 ≤ 1 * 128 ^ 9 := Nat.mul_le_mul_right _ (h9 rfl)
      omega
    · have : (128 : Nat) ^ (k + 1) ≤ 128 ^ 9 := Nat.pow_le_pow_right (by omega) (by omega)
      omega
  refine ⟨?_, hle, fun _ => hlt⟩
  rw [e1, IntKind.wrap_u64, IntKind.wrap_u64]
  omega

theorem ret_get {a b c : Int} {x y z : Nat} {g : Nat × Nat × Nat} (h : g = (x, y, z)) (ha : a = x) (hb : b = y) (hc : c = z) :
    Ending.returned (.tuple #[.int .u64 a, .int .i64 b, .int .i64 c]) = .returned (.tuple #[.int .u64 (g.1 : Nat), .int .i64 (g.2.1 : Nat), .int .i64 (g.2.2 : Nat)]) := by
  rw [h, ha, hb, hc]

set_option maxRecDepth 100000 in
set_option maxHeartbeats 1000000 in
theorem var_get (s : ByteArray) (w : World) (hs : s.size ≤ maxLen) :
    Calls Tryz.prog 139 #[.string s] w fun e w' => e = .returned (.tuple #[.int .u64 ((get s.data.toList).1 : Nat), .int .i64 ((get s.data.toList).2.1 : Nat), .int .i64 ((get s.data.toList).2.2 : Nat)]) ∧ w = w' := by
  unfold maxLen at hs
  go_enter Tryz.func139, Tryz.ntmps139
  go_wp2
  go_loop [5, 10] (fun a i => ∃ k acc : Nat, k ≤ s.size ∧ i = .int .i64 k ∧ a = .int .u64 acc ∧ acc ≤ 18446744073709551615 ∧ (k ≤ 9 → acc < 128 ^ k) ∧ Hid (go k acc (s.data.toList.drop k) = get s.data.toList)) (fun _ i => s.size - (intOf i).toNat)
  case atStart => exact ⟨0, 0, Nat.zero_le _, rfl, rfl, by omega, by simp, rfl⟩
  case round =>
    obtain ⟨k, acc, hk, rfl, rfl, ha, hp, HG⟩ := hrel
    by_cases hlt : k < s.size
    · have hc := (s[k]).toNat_lt
      by_cases hbad : k > 9 ∨ (k = 9 ∧ s[k].toNat % 128 > 1)
      · have Hbad := Lib.hid hbad
        have HB : Hid (false = !decide (9 < k ∨ (k = 9 ∧ 1 < (s[k].toNat : Int) % 128))) := by show false = _; simp; omega
        clear hbad
        go_wp2_with (go_at_call 148; refine (var_fits _ _ _ false HB.out).mono ?_; rintro e w' ⟨rfl, rfl⟩)
        go_ret3
        have hd := drop_cons s k hlt
        have hG := HG.out
        rw [hd, go_bad Hbad.out] at hG
        exact ⟨ret_get hG.symm rfl rfl rfl, rfl⟩
      · have Hbad := Lib.hid hbad
        have hk9 : k ≤ 9 := by omega
        have HB : Hid (true = !decide (9 < k ∨ (k = 9 ∧ 1 < (s[k].toNat : Int) % 128))) := by show true = _; simp; omega
        have hp' := hp hk9
        have HS := Lib.hid (shl_step acc k s[k].toNat hk9 hp' (fun h => by omega))
        have hd := Lib.hid (drop_cons s k hlt)
        clear hbad
        go_wp2_with (go_at_call 148; refine (var_fits _ _ _ true HB.out).mono ?_; rintro e w' ⟨rfl, rfl⟩)
        · have h128 : 128 ≤ s[k].toNat := by have : (128 : Int) ≤ (s[k].toNat : Int) := by assumption
                                             omega
          have hG := HG.out
          rw [hd.out, go_on Hbad.out h128] at hG
          go_round
          case rel => exact ⟨k + 1, _, by omega, by go_num, by rw [HS.out.1], HS.out.2.1, fun h => HS.out.2.2 h, hG⟩
          case measure => simp [intOf]; omega
        · have h1 : s[k].toNat < 128 := by have : (s[k].toNat : Int) < 128 := by assumption
                                           omega
          have h2 : s[k].toNat = 0 := by have : (s[k].toNat : Int) % 128 = 0 := by assumption
                                         omega
          go_ret3
          have hG := HG.out
          rw [hd.out, go_zero h2 (by omega)] at hG
          exact ⟨ret_get hG.symm rfl rfl rfl, rfl⟩
        · have h1 : s[k].toNat < 128 := by have : (s[k].toNat : Int) < 128 := by assumption
                                           omega
          go_ret3
          have hG := HG.out
          rw [hd.out, go_end Hbad.out h1 (by omega)] at hG
          have h2 : (s[k].toNat : Int) % 128 = 0 := by assumption
          have hk0 : k = 0 := by omega
          have h3 : s[k].toNat = 0 := by omega
          have ha0 : acc = 0 := by rw [hk0] at hp'; simpa using hp'
          exact ⟨ret_get hG.symm (by rw [h3, ha0]; simp [IntKind.wrap_u64]) (by omega) rfl, rfl⟩
        · have h1 : s[k].toNat < 128 := by have : (s[k].toNat : Int) < 128 := by assumption
                                           omega
          have h2 : ¬ (s[k].toNat : Int) % 128 = 0 := by assumption
          go_ret3
          have hG := HG.out
          rw [hd.out, go_end Hbad.out h1 (by omega)] at hG
          exact ⟨ret_get hG.symm (by rw [HS.out.1, Nat.mod_eq_of_lt h1]) (by omega) rfl, rfl⟩
    · have hkl : s.size ≤ k := by omega
      go_wp2
      go_ret3
      have hG := HG.out
      rw [List.drop_eq_nil_of_le (by simpa using hkl), go_nil] at hG
      exact ⟨ret_get hG.symm rfl rfl rfl, rfl⟩

set_option maxRecDepth 100000 in
set_option maxHeartbeats 1000000 in
theorem ref_get (s : ByteArray) (w : World) (hs : s.size ≤ maxLen) :
    Calls Tryz.prog 95 #[.string s] w fun e w' => e = .returned (.tuple #[.int .u64 ((get s.data.toList).1 : Nat), .int .i64 ((get s.data.toList).2.1 : Nat), .int .i64 ((get s.data.toList).2.2 : Nat)]) ∧ w = w' := by
  unfold maxLen at hs
  go_enter Tryz.func95, Tryz.ntmps95
  go_wp2
  go_loop [5, 6, 7] (fun a o i => ∃ k acc one : Nat, k ≤ s.size ∧ i = .int .i64 k ∧ a = .int .u64 acc ∧ o = .int .u64 one ∧ acc ≤ 18446744073709551615 ∧ (k ≤ 9 → acc < 128 ^ k) ∧ Hid (k ≤ 9 → one = 128 ^ k) ∧ Hid (go k acc (s.data.toList.drop k) = get s.data.toList)) (fun _ _ i => s.size - (intOf i).toNat)
  case atStart => exact ⟨0, 0, 1, Nat.zero_le _, rfl, rfl, rfl, by omega, by simp, fun _ => rfl, rfl⟩
  case round =>
    obtain ⟨k, acc, one, hk, rfl, rfl, rfl, ha, hp, HO, HG⟩ := hrel
    by_cases hlt : k < s.size
    · have hc := (s[k]).toNat_lt
      have hd := Lib.hid (drop_cons s k hlt)
      by_cases hbad : k > 9 ∨ (k = 9 ∧ s[k].toNat % 128 > 1)
      · have Hbad := Lib.hid hbad
        have hfin : ∀ e, e = Ending.returned (.tuple #[.int .u64 0, .int .i64 0, .int .i64 2]) → e = .returned (.tuple #[.int .u64 ((get s.data.toList).1 : Nat), .int .i64 ((get s.data.toList).2.1 : Nat), .int .i64 ((get s.data.toList).2.2 : Nat)]) := by
          intro e he
          have hG := HG.out
          rw [hd.out, go_bad Hbad.out] at hG
          rw [he]
          exact ret_get hG.symm rfl rfl rfl
        by_cases h9 : k = 9
        · have h9' : ((k : Int) == 9) = true := by simp; omega
          have h1 : 1 < (s[k].toNat : Int) % 128 := by omega
          clear hbad h9
          go_wp2
          go_ret3
          exact ⟨hfin _ rfl, rfl⟩
        · have h9' : ((k : Int) == 9) = false := by simp; omega
          have h1 : 9 < (k : Int) := by omega
          clear hbad h9
          go_wp2
          go_ret3
          exact ⟨hfin _ rfl, rfl⟩
      · have Hbad := Lib.hid hbad
        have hk9 : k ≤ 9 := by omega
        have hp' := hp hk9
        have HS := Lib.hid (shl_step acc k s[k].toNat hk9 hp' (fun h => by omega))
        have e7 : ((128 ^ k : Nat) : Int) = 2 ^ (7 * k) := by rw [Int.pow_mul]; simp
        have HO1 : Hid (one = 128 ^ k) := HO.out hk9
        have HE := Lib.hid e7
        clear e7
        have hacc : ∀ z : Int, z = IntKind.u64.wrap ((acc : Int) + IntKind.u64.wrap ((s[k].toNat : Int) % 128 * (one : Int))) → z = ((acc + s[k].toNat % 128 * 128 ^ k : Nat) : Int) := by
          intro z hz
          rw [hz, HO1.out, HE.out]
          exact HS.out.1
        have Hacc := Lib.hid hacc
        clear hacc
        have hrest : (9 < (k : Int)) = False := by simp; omega
        by_cases h9 : k = 9
        · have h9' : ((k : Int) == 9) = true := by simp; omega
          have h1 : (1 < (s[k].toNat : Int) % 128) = False := by simp; omega
          clear hbad h9
          go_wp2
          · have h1 : s[k].toNat < 128 := by have : (s[k].toNat : Int) < 128 := by assumption
                                             omega
            go_ret3
            have hG := HG.out
            rw [hd.out, go_zero (by assumption) (by assumption)] at hG
            exact ⟨ret_get hG.symm rfl rfl rfl, rfl⟩
          · have h1 : s[k].toNat < 128 := by have : (s[k].toNat : Int) < 128 := by assumption
                                             omega
            have h3 : s[k].toNat = 0 := by assumption
            have hk0 : k = 0 := by have : ¬ 0 < k := by assumption
                                   omega
            go_ret3
            have hG := HG.out
            rw [hd.out, go_end Hbad.out h1 (by omega)] at hG
            have ha0 : acc = 0 := by rw [hk0] at hp'; simpa using hp'
            exact ⟨ret_get hG.symm (by rw [h3, ha0]; simp [IntKind.wrap_u64]) (by omega) rfl, rfl⟩
          · have h1 : s[k].toNat < 128 := by have : (s[k].toNat : Int) < 128 := by assumption
                                             omega
            have h3 : ¬ s[k].toNat = 0 := by assumption
            go_ret3
            have hG := HG.out
            rw [hd.out, go_end Hbad.out h1 (by omega)] at hG
            exact ⟨ret_get hG.symm (by rw [Hacc.out _ rfl, Nat.mod_eq_of_lt h1]) (by omega) rfl, rfl⟩
          · have h128 : 128 ≤ s[k].toNat := by have : (128 : Int) ≤ (s[k].toNat : Int) := by assumption
                                               omega
            have hG := HG.out
            rw [hd.out, go_on Hbad.out h128] at hG
            have hw : 0 ≤ IntKind.u64.wrap ((one : Int) * 128) ∧ (k + 1 ≤ 9 → (IntKind.u64.wrap ((one : Int) * 128)).toNat = 128 ^ (k + 1)) := by
              rw [IntKind.wrap_u64]
              refine ⟨by omega, fun h => ?_⟩
              have hle : (128 : Nat) ^ (k + 1) ≤ 128 ^ 9 := Nat.pow_le_pow_right (by omega) h
              have h9' : (128 : Nat) ^ 9 = 9223372036854775808 := by decide
              have ho : one = 128 ^ k := HO1.out
              rw [Nat.pow_succ] at hle ⊢
              omega
            go_round
            case rel => exact ⟨k + 1, _, (IntKind.u64.wrap ((one : Int) * 128)).toNat, by omega, by go_num, congrArg (Value.int .u64) (Hacc.out _ rfl), by rw [Int.toNat_of_nonneg hw.1], HS.out.2.1, HS.out.2.2, hw.2, hG⟩
            case measure => simp [intOf]; omega
        · have h9' : ((k : Int) == 9) = false := by simp; omega
          clear hbad h9
          go_wp2
          · have h1 : s[k].toNat < 128 := by have : (s[k].toNat : Int) < 128 := by assumption
                                             omega
            go_ret3
            have hG := HG.out
            rw [hd.out, go_zero (by assumption) (by assumption)] at hG
            exact ⟨ret_get hG.symm rfl rfl rfl, rfl⟩
          · have h1 : s[k].toNat < 128 := by have : (s[k].toNat : Int) < 128 := by assumption
                                             omega
            have h3 : s[k].toNat = 0 := by assumption
            have hk0 : k = 0 := by have : ¬ 0 < k := by assumption
                                   omega
            go_ret3
            have hG := HG.out
            rw [hd.out, go_end Hbad.out h1 (by omega)] at hG
            have ha0 : acc = 0 := by rw [hk0] at hp'; simpa using hp'
            exact ⟨ret_get hG.symm (by rw [h3, ha0]; simp [IntKind.wrap_u64]) (by omega) rfl, rfl⟩
          · have h1 : s[k].toNat < 128 := by have : (s[k].toNat : Int) < 128 := by assumption
                                             omega
            have h3 : ¬ s[k].toNat = 0 := by assumption
            go_ret3
            have hG := HG.out
            rw [hd.out, go_end Hbad.out h1 (by omega)] at hG
            exact ⟨ret_get hG.symm (by rw [Hacc.out _ rfl, Nat.mod_eq_of_lt h1]) (by omega) rfl, rfl⟩
          · have h128 : 128 ≤ s[k].toNat := by have : (128 : Int) ≤ (s[k].toNat : Int) := by assumption
                                               omega
            have hG := HG.out
            rw [hd.out, go_on Hbad.out h128] at hG
            have hw : 0 ≤ IntKind.u64.wrap ((one : Int) * 128) ∧ (k + 1 ≤ 9 → (IntKind.u64.wrap ((one : Int) * 128)).toNat = 128 ^ (k + 1)) := by
              rw [IntKind.wrap_u64]
              refine ⟨by omega, fun h => ?_⟩
              have hle : (128 : Nat) ^ (k + 1) ≤ 128 ^ 9 := Nat.pow_le_pow_right (by omega) h
              have h9' : (128 : Nat) ^ 9 = 9223372036854775808 := by decide
              have ho : one = 128 ^ k := HO1.out
              rw [Nat.pow_succ] at hle ⊢
              omega
            go_round
            case rel => exact ⟨k + 1, _, (IntKind.u64.wrap ((one : Int) * 128)).toNat, by omega, by go_num, congrArg (Value.int .u64) (Hacc.out _ rfl), by rw [Int.toNat_of_nonneg hw.1], HS.out.2.1, HS.out.2.2, hw.2, hG⟩
            case measure => simp [intOf]; omega
    · have hkl : s.size ≤ k := by omega
      go_wp2
      go_ret3
      have hG := HG.out
      rw [List.drop_eq_nil_of_le (by simpa using hkl), go_nil] at hG
      exact ⟨ret_get hG.symm rfl rfl rfl, rfl⟩
end Go.Proofs.YtmimfkhkilijcaaGreat

/- varint: folded numbers; the document's bytes as a text. -/
namespace Go.Proofs.YtmimfkhkilijcaaGreat
set_option maxRecDepth 4000
open Go.ChangeShapes Go.WideShapes Go.ChangeAt Go.RowKit
open PVar
set_option linter.unusedVariables false

set_option maxRecDepth 100000 in
set_option maxHeartbeats 1000000 in
theorem var_getint (s : ByteArray) (w : World) (hs : s.size ≤ maxLen) :
    Calls Tryz.prog 140 #[.string s] w fun e w' => e = .returned (.tuple #[.int .i64 (back (get s.data.toList).1), .int .i64 ((get s.data.toList).2.1 : Nat), .int .i64 ((get s.data.toList).2.2 : Nat)]) ∧ w = w' := by
  have hg := var_get s w hs
  have hle : (get s.data.toList).2.2 = 0 → (get s.data.toList).1 ≤ 18446744073709551615 := fun h => by
    have := @get_spec s.data.toList (get s.data.toList).1 (get s.data.toList).2.1 (by rw [← h])
    exact this.2.2.2
  rcases get_err s.data.toList with h | h | h
  · have HL := Lib.hid (hle h)
    clear hle
    generalize get s.data.toList = g at *
    obtain ⟨a, b, c⟩ := g
    simp only at h hg HL
    subst h
    have Hg := Lib.hid hg
    clear hg
    go_enter Tryz.func140, Tryz.ntmps140
    go_wp2_with (first | (go_at_call 139; refine Hg.out.mono ?_; rintro e w' ⟨rfl, rfl⟩) | (go_at_call 149; refine (var_back _ _ HL.out).mono ?_; rintro e w' ⟨rfl, rfl⟩))
    go_ret3
    exact ⟨rfl, rfl⟩
  all_goals
    rw [h] at hg ⊢
    have Hg := Lib.hid hg
    clear hg hle h
    go_enter Tryz.func140, Tryz.ntmps140
    go_wp2_with (first | (go_at_call 139; refine Hg.out.mono ?_; rintro e w' ⟨rfl, rfl⟩))
    go_ret3
    exact ⟨rfl, rfl⟩

set_option maxRecDepth 100000 in
set_option maxHeartbeats 1000000 in
theorem var_putint (B : Nat) (v : Value) (n : Nat) (xs : List Value) (m : Int) (w : World) (h : Sl B w 1 v n xs) (hm : -9223372036854775808 ≤ m ∧ m ≤ 9223372036854775807) (hn : n ≤ 70368744177664) (hB : B ≤ w.heap.size) :
    Calls Tryz.prog 61 #[v, .int .i64 m] w (PutPost B w v n xs (fold m)) := by
  have HN := Lib.hid hn
  have HM := Lib.hid (fold_le hm.1 hm.2)
  clear hn
  go_enter Tryz.func61, Tryz.ntmps61
  go_wp2_with (first | (go_at_call 103; refine (var_fold _ _ hm).mono ?_; rintro e w' ⟨rfl, rfl⟩) | (go_at_call 62; refine (var_put B _ n xs _ _ h HM.out HN.out hB).mono ?_; rintro e w' ⟨v', rfl, R⟩))
  go_ret
  exact ⟨v', rfl, R⟩

end Go.Proofs.YtmimfkhkilijcaaGreat

/- varint: the laws' own first question; numbers put into slices that the law has. -/
namespace Go.Proofs.YtmimfkhkilijcaaGreat
set_option maxRecDepth 4000
open Go.ChangeShapes Go.WideShapes Go.ChangeAt Go.RowKit
open PVar
set_option linter.unusedVariables false

theorem digs_129 : digs 129 = [129, 1] := by rw [digs_high (by omega), digs_low (by omega)]; rfl

/-- What PutInt leaves, where it is read as a text. -/
theorem put_string {B : Nat} {w : World} {v : Value} {n : Nat} {l : List UInt8} {m : Nat} {e : Ending} {w' : World} (h : PutPost B w v n (bv l) m e w') :
    ∃ v', e = .returned v' ∧ Sl B w' 1 v' (n + (digs m).length) (bv (l ++ digs m)) ∧ (convert 128 9 v').run Tryz.prog w' = .ok (.string (bstr (l ++ digs m))) w' ∧
      Upd (fun k => v.ownBlock = some k) w w' ∧ (∀ k, v'.ownBlock = some k → v.ownBlock = some k ∨ w.heap.size ≤ k) := by
  obtain ⟨v', h1, h2, h3, h4⟩ := h
  rw [← bv_append] at h2
  exact ⟨v', h1, h2, sl_string h2 128 9 5 Tryz.underlying128 Tryz.underlying5 Tryz.underlying9, h3, h4⟩

theorem putint_nil (m : Int) (w : World) (hm : -9223372036854775808 ≤ m ∧ m ≤ 9223372036854775807) : Calls Tryz.prog 61 #[.slice none 0 0, .int .i64 m] w (PutPost w.heap.size w (.slice none 0 0) 0 (bv []) (fold m)) :=
  var_putint w.heap.size _ 0 _ m w (Sl.nil _ _ _) hm (by omega) (Nat.le_refl _)

/-- A slice of bytes that the call owns, read as a text now and behind one more such slice's making. -/
theorem sl_texts {B : Nat} {w : World} {v : Value} {n : Nat} {l : List UInt8} (h : Sl B w 1 v n (bv l)) (s : ByteArray) :
    (convert 128 9 v).run Tryz.prog w = .ok (.string (bstr l)) w ∧
    (convert 128 9 v).run Tryz.prog (Lib.bytesWorld w 5 s) = .ok (.string (bstr l)) (Lib.bytesWorld w 5 s) :=
  ⟨sl_string h _ _ _ Tryz.underlying128 Tryz.underlying5 Tryz.underlying9,
   sl_string (h.upd (bytes_upd (fun _ => False) w s _) (fun _ _ h => h)) _ _ _ Tryz.underlying128 Tryz.underlying5 Tryz.underlying9⟩

/-- A number put into no slice, as a text. -/
theorem put_nil (m : Nat) (w : World) (hm : m ≤ 18446744073709551615) : Calls Tryz.prog 62 #[.slice none 0 0, .int .u64 m] w fun e w' =>
    ∃ v', e = .returned v' ∧ (convert 128 9 v').run Tryz.prog w' = .ok (.string (bstr (digs m))) w' ∧ Below w.heap.size w w' :=
  (var_put w.heap.size _ 0 (bv []) m w (Sl.nil _ _ _) hm (by omega) (Nat.le_refl _)).mono fun e w' h => by
    obtain ⟨v', he, _, kc, hu, _⟩ := put_string (l := []) h
    exact ⟨v', he, kc, upd_nil hu⟩

end Go.Proofs.YtmimfkhkilijcaaGreat
