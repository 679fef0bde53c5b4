/- varint: folded numbers; the document's bytes as a text. -/
import Derived.Test.YtfgmbmpbgokolaaVar2
import Derived.Lib.Strings
namespace Go.Proofs.Ytfgmbmpbgokolaa
open Go.ChangeShapes Go.WideShapes Go.ChangeAt Go.RowKit
open PVar
set_option linter.unusedVariables false

set_option maxRecDepth 100000 in
set_option maxHeartbeats 1000000 in
theorem var_getint (s : ByteArray) (w : World) (hs : s.size ≤ maxLen) :
    Calls Try.prog 43 #[.string s] w fun e w' => e = .returned (.tuple #[.int .i64 (back (get s.data.toList).1), .int .i64 ((get s.data.toList).2.1 : Nat), .int .i64 ((get s.data.toList).2.2 : Nat)]) ∧ w = w' := by
  have hg := var_get s w hs
  have hle : (get s.data.toList).2.2 = 0 → (get s.data.toList).1 ≤ 18446744073709551615 := fun h => by
    have := @get_spec s.data.toList (get s.data.toList).1 (get s.data.toList).2.1 (by rw [← h])
    exact this.2.2.2
  rcases get_err s.data.toList with h | h | h
  · have HL := Lib.hid (hle h)
    clear hle
    generalize get s.data.toList = g at *
    obtain ⟨a, b, c⟩ := g
    simp only at h hg HL
    subst h
    have Hg := Lib.hid hg
    clear hg
    go_enter Try.func43, Try.ntmps43
    go_wp2_with (first | (go_at_call 41; refine Hg.out.mono ?_; rintro e w' ⟨rfl, rfl⟩) | (go_at_call 49; refine (var_back _ _ HL.out).mono ?_; rintro e w' ⟨rfl, rfl⟩))
    go_ret3
    exact ⟨rfl, rfl⟩
  all_goals
    rw [h] at hg ⊢
    have Hg := Lib.hid hg
    clear hg hle h
    go_enter Try.func43, Try.ntmps43
    go_wp2_with (first | (go_at_call 41; refine Hg.out.mono ?_; rintro e w' ⟨rfl, rfl⟩))
    go_ret3
    exact ⟨rfl, rfl⟩

set_option maxRecDepth 100000 in
set_option maxHeartbeats 1000000 in
theorem var_putint (B : Nat) (v : Value) (n : Nat) (xs : List Value) (m : Int) (w : World) (h : Sl B w 1 v n xs) (hm : -9223372036854775808 ≤ m ∧ m ≤ 9223372036854775807) (hn : n ≤ 70368744177664) (hB : B ≤ w.heap.size) :
    Calls Try.prog 23 #[v, .int .i64 m] w (PutPost B w v n xs (fold m)) := by
  have HN := Lib.hid hn
  have HM := Lib.hid (fold_le hm.1 hm.2)
  clear hn
  go_enter Try.func23, Try.ntmps23
  go_wp2_with (first | (go_at_call 37; refine (var_fold _ _ hm).mono ?_; rintro e w' ⟨rfl, rfl⟩) | (go_at_call 24; refine (var_put B _ n xs _ _ h HM.out HN.out hB).mono ?_; rintro e w' ⟨v', rfl, R⟩))
  go_ret
  exact ⟨v', rfl, R⟩

set_option maxRecDepth 100000 in
set_option maxHeartbeats 1000000 in
theorem ref_put (m : Nat) (w : World) (hm : m ≤ 18446744073709551615) :
    Calls Try.prog 31 #[.int .u64 m] w (fun e w' => e = .returned (.string (bstr (digs m))) ∧ Below w.heap.size w w') := by
  obtain ⟨i0, hi, hz0, hz1, hz2⟩ := info_parts info_u8
  go_enter Try.func31, Try.ntmps31
  go_wp2
  have h0 : Sl w.heap.size (w.alloc (.cells #[] 5)) 1 (.slice (some ⟨w.heap.size, 0, none⟩) 0 0) 0 [] := by
    simpa using Sl.made (B := w.heap.size) w #[] 5 1 0 0 (Nat.le_refl _) (Nat.le_refl _) (Nat.zero_le _) (by simp)
  go_loopw [3, 0] (fun v' u wr => ∃ m' : Nat, PutAt w.heap.size (w.alloc (.cells #[] 5)) (.slice (some ⟨w.heap.size, 0, none⟩) 0 0) 0 [] m v' u wr m') (fun _ u _ => (intOf u).toNat)
  case atStart => exact ⟨m, putAt_start h0 hm⟩
  case round =>
    obtain ⟨m', ds, rfl, hm', hd, hs, hu, hf⟩ := hrel
    have hlen : ds.length + (digs m').length ≤ 10 := by rw [← List.length_append, ← hd]; exact digs_len hm
    have hp := digs_pos m'
    have HD := Lib.hid hd
    have hsz := hu.size
    have hB : w.heap.size ≤ wr.heap.size := by simp at hsz; omega
    clear hd
    by_cases hlt : 128 ≤ m'
    · go_wp2_with (at_builtin; refine wpList_append_sl _ rfl (.tmp 7) (.tmp 12) 38 38 rfl 5 i0 (.int .u8 0) 1 Try.underlying38 hi hz0 hz1 hz2 rfl rfl (hs.alloc _) _ 1 _ rfl (src_one Try.underlying38 _ _ _ rfl) (by unfold maxLen; omega) (by omega) (by simp; omega) ?_; intro v1 w1 k1 k2 k3)
      have R := put_more (c := UInt8.ofNat (m' % 128 + 128)) (by rw [u8_of (n := m' % 128 + 128) (by omega)]; try go_num) hu hf k1 k2 k3
      refine ⟨⟨m' / 128, ds ++ [UInt8.ofNat (m' % 128 + 128)], by go_num, by omega, ?_, R.1, R.2.1, R.2.2⟩, by simp [intOf]; omega⟩
      rw [HD.out, digs_high hlt, List.append_assoc]; rfl
    · go_wp2_with (at_builtin; refine wpList_append_sl _ rfl (.tmp 16) (.tmp 19) 38 38 rfl 5 i0 (.int .u8 0) 1 Try.underlying38 hi hz0 hz1 hz2 rfl rfl (hs.alloc _) _ 1 _ rfl (src_one Try.underlying38 _ _ _ rfl) (by unfold maxLen; omega) (by omega) (by simp; omega) ?_; intro v1 w1 k1 k2 k3; have R := put_more (c := UInt8.ofNat m') (by rw [u8_of (n := m') (by omega)]; try go_num) hu hf k1 k2 k3; rw [← digs_low (n := m') (by omega), ← HD.out] at R; have kc := sl_string R.1 38 9 5 Try.underlying38 Try.underlying5 Try.underlying9)
      go_ret
      refine ⟨rfl, ((Below.refl _ w).alloc (Nat.le_refl _) _).upd R.2.1 (by simp) (fun i hi hk => ?_)⟩
      have hk' : w.heap.size = i := by simpa [Value.ownBlock] using hk
      omega
end Go.Proofs.Ytfgmbmpbgokolaa
