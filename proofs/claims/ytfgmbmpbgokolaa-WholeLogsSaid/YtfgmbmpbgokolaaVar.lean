/- Contracts of varint's calls, and of the document's own answers beside them: numbers. -/
import Derived.Test.YtfgmbmpbgokolaaBase
import Derived.WalkKit
import Derived.ProofKit
import Derived.OpenShut
import Derived.Handy
import Derived.BigQuiet
import Derived.Deep.QuietTactic
import Derived.IntWalk
import Derived.Outline
import Derived.Lib.Hide
import Derived.Test.YtfgmbmpbgokolaaMem
import Derived.Test.YtfgmbmpbgokolaaVarPlain
namespace Go.Proofs.Ytfgmbmpbgokolaa
open Go.ChangeShapes Go.WideShapes Go.ChangeAt Go.RowKit
open PVar

theorem not_i64 (n : Int) (h1 : -9223372036854775808 ≤ n) (h2 : n ≤ 9223372036854775807) : bits .xor .i64 (-1) n = -n - 1 := by
  show IntKind.i64.wrap ((BitVec.ofInt 64 (-1) ^^^ BitVec.ofInt 64 n).toNat : Int) = _
  have e : BitVec.ofInt 64 (-1) = BitVec.allOnes 64 := by decide
  rw [e, BitVec.allOnes_xor, BitVec.toNat_not, BitVec.toNat_ofInt, IntKind.wrap_i64]
  omega

set_option maxHeartbeats 400000 in
theorem var_fold (n : Int) (w : World) (hn : -9223372036854775808 ≤ n ∧ n ≤ 9223372036854775807) :
    Calls Try.prog 37 #[.int .i64 n] w fun e w' => e = .returned (.int .u64 (fold n : Nat)) ∧ w = w' := by
  obtain ⟨h1, h2⟩ := hn
  have hx := not_i64 n h1 h2
  by_cases h : n < 0
  all_goals
    go_enter Try.func37, Try.ntmps37
    go_wp2
    go_ret
    refine ⟨ret_int ?_, rfl⟩
    clear hx
    unfold fold
    try simp only [IntKind.wrap_u64]
    split <;> omega

set_option maxHeartbeats 400000 in
theorem ref_fold (n : Int) (w : World) (hn : -9223372036854775808 ≤ n ∧ n ≤ 9223372036854775807) :
    Calls Try.prog 40 #[.int .i64 n] w fun e w' => e = .returned (.int .u64 (fold n : Nat)) ∧ w = w' := by
  obtain ⟨h1, h2⟩ := hn
  by_cases h : n < 0
  all_goals
    go_enter Try.func40, Try.ntmps40
    go_wp2
    go_ret
    refine ⟨ret_int ?_, rfl⟩
    unfold fold
    split <;> omega

set_option maxHeartbeats 400000 in
theorem var_back (n : Nat) (w : World) (hn : n ≤ 18446744073709551615) :
    Calls Try.prog 49 #[.int .u64 n] w fun e w' => e = .returned (.int .i64 (back n)) ∧ w = w' := by
  have hx := not_i64 ((n : Int) / 2) (by omega) (by omega)
  rcases (by omega : n % 2 = 1 ∨ n % 2 = 0) with h | h
  · have h' : ((n : Int) % 2 == 1) = true := by simp; omega
    go_enter Try.func49, Try.ntmps49
    go_wp2
    go_ret
    refine ⟨ret_int ?_, rfl⟩
    unfold back; split <;> omega
  · have h' : ((n : Int) % 2 == 1) = false := by simp; omega
    go_enter Try.func49, Try.ntmps49
    go_wp2
    go_ret
    refine ⟨ret_int ?_, rfl⟩
    unfold back; split <;> omega

set_option maxHeartbeats 400000 in
theorem ref_back (n : Nat) (w : World) (hn : n ≤ 18446744073709551615) :
    Calls Try.prog 34 #[.int .u64 n] w fun e w' => e = .returned (.int .i64 (back n)) ∧ w = w' := by
  rcases (by omega : n % 2 = 1 ∨ n % 2 = 0) with h | h
  · have h' : ((n : Int) % 2 == 1) = true := by simp; omega
    go_enter Try.func34, Try.ntmps34
    go_wp2
    go_ret
    refine ⟨ret_int ?_, rfl⟩
    unfold back; split <;> omega
  · have h' : ((n : Int) % 2 == 1) = false := by simp; omega
    go_enter Try.func34, Try.ntmps34
    go_wp2
    go_ret
    refine ⟨ret_int ?_, rfl⟩
    unfold back; split <;> omega

set_option maxHeartbeats 400000 in
theorem var_fits (i : Nat) (d : Int) (w : World) (b : Bool) (hb : b = !decide (9 < i ∨ (i = 9 ∧ 1 < d))) :
    Calls Try.prog 47 #[.int .i64 i, .int .u8 d] w fun e w' => e = .returned (.bool b) ∧ w = w' := by
  have Hb := Lib.hid hb
  clear hb
  by_cases h : i = 9
  · subst h
    go_enter Try.func47, Try.ntmps47
    go_wp2
    go_ret
    refine ⟨ret_bool ?_, rfl⟩
    rw [Hb.out, Bool.eq_iff_iff]
    simp
  · go_enter Try.func47, Try.ntmps47
    go_wp2
    go_ret
    refine ⟨ret_bool ?_, rfl⟩
    rw [Hb.out, Bool.eq_iff_iff]
    simp [h]
    omega

theorem info_u8 : (Try.prog.info? 5).map (fun i => (i.zero, i.size, i.bytes)) = some (some (.int .u8 0), 1, 1) := by kernel_rfl

/-- What Put leaves: the number's bytes behind those that were there. -/
def PutPost (B : Nat) (w : World) (v : Value) (n : Nat) (xs : List Value) (m : Nat) (e : Ending) (w' : World) : Prop :=
  ∃ v', e = .returned v' ∧ Sl B w' 1 v' (n + (digs m).length) (xs ++ bv (digs m)) ∧ Upd (fun k => v.ownBlock = some k) w w' ∧ (∀ k, v'.ownBlock = some k → v.ownBlock = some k ∨ w.heap.size ≤ k)

/-- The loop's relation: what is still to come, and what has come. -/
def PutAt (B : Nat) (w : World) (v0 : Value) (n0 : Nat) (xs : List Value) (m0 : Nat) (v u : Value) (wr : World) (m : Nat) : Prop :=
  ∃ ds : List UInt8, u = .int .u64 m ∧ m ≤ 18446744073709551615 ∧ digs m0 = ds ++ digs m ∧ Sl B wr 1 v (n0 + ds.length) (xs ++ bv ds) ∧ Upd (fun k => v0.ownBlock = some k) w wr ∧ (∀ k, v.ownBlock = some k → v0.ownBlock = some k ∨ w.heap.size ≤ k)

theorem putAt_start {B : Nat} {w : World} {v0 : Value} {n0 : Nat} {xs : List Value} {m0 : Nat} (h : Sl B w 1 v0 n0 xs) (hm : m0 ≤ 18446744073709551615) : PutAt B w v0 n0 xs m0 v0 (.int .u64 m0) w m0 :=
  ⟨[], rfl, hm, rfl, by simpa [bv] using h, Upd.refl _ _, fun k hk => .inl hk⟩

/-- One byte more. -/
theorem put_more {B : Nat} {w : World} {v0 : Value} {n0 : Nat} {xs : List Value} {v v' : Value} {wr w1 : World} {ds : List UInt8} {o : Obj} {c : UInt8} {u : Value} (hcu : u = .int .u8 (c.toNat : Int))
    (h5 : Upd (fun k => v0.ownBlock = some k) w wr) (h6 : ∀ k, v.ownBlock = some k → v0.ownBlock = some k ∨ w.heap.size ≤ k) 
    (k1 : Sl B w1 1 v' (n0 + ds.length + 1) (xs ++ bv ds ++ [u])) (k2 : Upd (fun k => v.ownBlock = some k) (wr.alloc o) w1) (k3 : ∀ k, v'.ownBlock = some k → v.ownBlock = some k ∨ (wr.alloc o).heap.size ≤ k) :
    Sl B w1 1 v' (n0 + (ds ++ [c]).length) (xs ++ bv (ds ++ [c])) ∧ Upd (fun k => v0.ownBlock = some k) w w1 ∧ (∀ k, v'.ownBlock = some k → v0.ownBlock = some k ∨ w.heap.size ≤ k) := by
  subst hcu
  refine ⟨?_, (h5.alloc o).trans k2 (fun i hi hS => ?_), fun k hk => ?_⟩
  · rw [bv_append, ← List.append_assoc]
    simpa [bv, Nat.add_assoc] using k1
  · rcases h6 i hS with h | h
    · exact h
    · omega
  · rcases k3 k hk with h | h
    · exact h6 k h
    · have := h5.size
      simp at h
      omega

set_option maxRecDepth 100000 in
set_option maxHeartbeats 1000000 in
theorem var_put (B : Nat) (v : Value) (n : Nat) (xs : List Value) (m : Nat) (w : World) (h : Sl B w 1 v n xs) (hm : m ≤ 18446744073709551615) (hn : n ≤ 70368744177664) (hB : B ≤ w.heap.size) :
    Calls Try.prog 24 #[v, .int .u64 m] w (PutPost B w v n xs m) := by
  obtain ⟨i0, hi, hz0, hz1, hz2⟩ := info_parts info_u8
  go_enter Try.func24, Try.ntmps24
  go_wp2
  go_loopw [0, 1] (fun v' u wr => ∃ m' : Nat, PutAt B w v n xs m v' u wr m') (fun _ u _ => (intOf u).toNat)
  case atStart => exact ⟨m, putAt_start h hm⟩
  case round =>
    obtain ⟨m', ds, rfl, hm', hd, hs, hu, hf⟩ := hrel
    have hlen : ds.length + (digs m').length ≤ 10 := by rw [← List.length_append, ← hd]; exact digs_len hm
    have hp := digs_pos m'
    have HD := Lib.hid hd
    have hsz := hu.size
    have HN := Lib.hid hn
    clear hd hn
    by_cases hlt : 128 ≤ m'
    · go_wp2_with (at_builtin; refine wpList_append_sl _ rfl (.tmp 7) (.tmp 12) 38 38 rfl 5 i0 (.int .u8 0) 1 Try.underlying38 hi hz0 hz1 hz2 rfl rfl (hs.alloc _) _ 1 _ rfl (src_one Try.underlying38 _ _ _ rfl) (by have := HN.out; unfold maxLen; omega) (by have := HN.out; omega) (by simp; omega) ?_; intro v1 w1 k1 k2 k3)
      have R := put_more (c := UInt8.ofNat (m' % 128 + 128)) (by rw [u8_of (n := m' % 128 + 128) (by omega)]; try go_num) hu hf k1 k2 k3
      refine ⟨⟨m' / 128, ds ++ [UInt8.ofNat (m' % 128 + 128)], by go_num, by omega, ?_, R.1, R.2.1, R.2.2⟩, by simp [intOf]; omega⟩
      rw [HD.out, digs_high hlt, List.append_assoc]; rfl
    · go_wp2_with (at_builtin; refine wpList_append_sl _ rfl (.tmp 16) (.tmp 19) 38 38 rfl 5 i0 (.int .u8 0) 1 Try.underlying38 hi hz0 hz1 hz2 rfl rfl (hs.alloc _) _ 1 _ rfl (src_one Try.underlying38 _ _ _ rfl) (by have := HN.out; unfold maxLen; omega) (by have := HN.out; omega) (by simp; omega) ?_; intro v1 w1 k1 k2 k3)
      have R := put_more (c := UInt8.ofNat m') (by rw [u8_of (n := m') (by omega)]; try go_num) hu hf k1 k2 k3
      go_ret
      rw [digs_low (n := m') (by omega)] at HD
      refine ⟨v1, rfl, ?_, R.2.1, R.2.2⟩
      rw [HD.out]
      exact R.1
end Go.Proofs.Ytfgmbmpbgokolaa
