/- The document's own answers of layer 12. -/
import Derived.Test.YthpnkjnieljdiaaPerPlain
import Derived.Test.YthpnkjnieljdiaaHistRef
import Derived.Test.YthpnkjnieljdiaaBoundRef
import Derived.Deep.DeepCutAuto
namespace Go.Proofs.Ythpnkjnieljdiaa
open Go.ChangeShapes Go.WideShapes Go.ChangeAt Go.RowKit
open PHist PRing PSat PClamp PBound
set_option linter.unusedVariables false
set_option linter.unusedSimpArgs false

theorem part_next (l : List Int) (k d : Nat) (h : k < l.length) : (lagsAll (l.take (k + 1))).drop d = (lagsAll (l.take k)).drop d ++ if d ≤ k then [sub (most (-9223372036854775808) (l.take (k + 1))) l[k]] else [] := by
  have hlen : (lagsAll (l.take k)).length = k := by rw [lagsAll_len, List.length_take]; omega
  rw [lagsAll_next l k h]
  by_cases hd : d ≤ k
  · rw [if_pos hd, List.drop_append_of_le_length (by omega)]
  · rw [if_neg hd, List.append_nil, List.drop_eq_nil_of_le (by rw [List.length_append, hlen]; simp; omega), List.drop_eq_nil_of_le (by omega)]

set_option maxHeartbeats 2000000 in
theorem ref_lags (a : Option Addr) (n c : Nat) (l : List Int) (win : Nat) (w : World) (hn : n = l.length) (hcap : n ≤ c) (hl : RowI w .i64 a l) (hb : l.length ≤ 1000) (hwin : win ≤ 1000) :
    Calls Try.prog 32 #[.slice a n c, .int .i64 win] w (AllPost (kept win l) w) := by
  subst hn
  obtain ⟨i0, hi0, hz0, hz1, hz2⟩ := info_parts info_int
  have hs0 : Sl w.heap.size (w.alloc (.cells #[] 3)) 1 (.slice (some ⟨w.heap.size, 0, none⟩) 0 0) 0 [] := Sl.made (B := w.heap.size) w #[] 3 1 0 0 (Nat.le_refl _) (Nat.le_refl _) (Nat.zero_le _) (by simp)
  have hb0 : Below w.heap.size w (w.alloc (.cells #[] 3)) := (Below.refl _ _).alloc (Nat.le_refl _) _
  go_enter Try.func32, Try.ntmps32
  go_wp2
  go_loopw [5, 6] (fun v i wr => ∃ (k : Nat) (acc : List Int), k ≤ l.length ∧ i = .int .i64 k ∧ Hid (acc = (lagsAll (l.take k)).drop (l.length - win)) ∧ acc.length ≤ k ∧ Sl w.heap.size wr 1 v acc.length (iv acc) ∧ Below w.heap.size w wr) (fun _ i _ => l.length - (intOf i).toNat)
  case atStart => exact ⟨0, [], Nat.zero_le _, rfl, Lib.hid (by simp [lagsAll, lagsOf]), Nat.zero_le _, hs0, hb0⟩
  case round =>
    obtain ⟨k, acc, hk, rfl, hacc, hal, hs, hbw⟩ := hrel
    by_cases hlt : k < l.length
    · have hN := part_next l k (l.length - win) hlt
      by_cases hin : l.length ≤ k + win
      · rw [if_pos (show l.length - win ≤ k by omega), ← hacc.out] at hN
        have HN := Lib.hid hN
        clear hN
        obtain ⟨b, off, rfl, hbb, hc⟩ := (hl.below hbw).at_ k hlt
        have hxb := hl.bound k hlt
        have hmb := most_in64 (l.take (k + 1)) (fun x hx => by
          obtain ⟨i, hi, rfl⟩ := List.mem_iff_getElem.1 (List.mem_of_mem_take hx)
          exact hl.bound i hi)
        have HMT := fun w' (h : Below w.heap.size w w') cc => Lib.hid (ref_most (some ⟨b, off, none⟩) (k + 1) cc (l.take (k + 1)) w' (by rw [List.length_take]; omega) (row_part (hl.below h) 0 (k + 1) off (by omega) (by omega) (l.take (k + 1)) (by simp)) (by rw [List.length_take]; omega) _ rfl)
        generalize most (-9223372036854775808) (l.take (k + 1)) = M at *
        generalize l[k] = x at *
        have HSB := fun w' => Lib.hid (ref_sub M x w' hmb hxb)
        generalize sub M x = z at *
        have hwr : IntKind.i64.wrap ((k : Int) + 1) = (k : Int) + 1 := by rw [IntKind.wrap_i64]; omega
        have hwr2 : IntKind.i64.wrap ((k : Int) + (win : Int)) = (k : Int) + (win : Int) := by rw [IntKind.wrap_i64]; omega
        have hge : (l.length : Int) ≤ (k : Int) + (win : Int) := by omega
        have hin1 : (k : Int) + 1 ≤ (l.length : Int) := by omega
        have hic : (k : Int) + 1 ≤ (c : Int) := by omega
        have htn : ((k : Int) + 1).toNat = k + 1 := by omega
        have h0 : (0 : Int) ≤ (k : Int) + 1 := by omega
        have hw1 := hbw.size
        have hb3 : Below w.heap.size w (wr.drew.alloc (.cells #[.int .i64 z] 3)) := hbw.drew.alloc (by simpa using hw1) _
        have hsd := (hs.upd (S := fun _ => False) ((Upd.refl _ wr).drew) (fun _ _ h => h)).alloc (.cells #[.int .i64 z] 3)
        obtain ⟨v2, W2, hr2, hs2, hu2, ho2⟩ := run_append_sl (wr.drew.alloc (.cells #[.int .i64 z] 3)) 37 37 37 3 i0 (.int .i64 0) 8 Try.underlying37 hi0 hz0 hz1 hz2 rfl hsd _ 1 _ (src_oneN Try.underlying37 wr.drew (.int .i64 z) 3 wr.heap.size rfl rfl) (by unfold maxLen; omega) (by omega) (by simp; omega)
        have hb2 := hb3.upd hu2 hb3.size (fun i _ h => (hs.lt i h).1)
        obtain ⟨av, cv, rfl⟩ := hs.shape
        have HM := fun cc => HMT wr.drew hbw.drew cc
        have HR2 := Lib.hid hr2
        have HF := Lib.hid (And.intro hs2 hb2)
        clear HMT hs2 hu2 ho2 hb2 hsd hb3 hr2
        go_wp2
        go_region_law (first | (refine step_append_run rfl (.tmp 20) (.tmp 31) 37 37 rfl _ _ (by simp [Act.eval, Act.put]) (by simp [Act.eval, Act.put]) HR2.out ?_) | (go_simp; go_at_call 42; refine (HM _).out.mono ?_; rintro e w' ⟨rfl, rfl⟩) | (go_simp; go_at_call 41; refine (HSB _).out.mono ?_; rintro e w' ⟨rfl, rfl⟩))
        all_goals go_wp2
        all_goals go_roundw
        all_goals first
          | exact ⟨k + 1, acc ++ [z], by omega, by go_num, Lib.hid HN.out.symm, by simp; omega, by rw [List.length_append, iv_snoc']; exact HF.out.1, HF.out.2⟩
          | (simp [intOf]; omega)
      · rw [if_neg (show ¬ l.length - win ≤ k by omega), List.append_nil, ← hacc.out] at hN
        have HN := Lib.hid hN
        clear hN hacc
        have hwr2 : IntKind.i64.wrap ((k : Int) + (win : Int)) = (k : Int) + (win : Int) := by rw [IntKind.wrap_i64]; omega
        have hge : (k : Int) + (win : Int) < (l.length : Int) := by omega
        go_wp2
        go_roundw
        case rel => exact ⟨k + 1, acc, by omega, by go_num, Lib.hid HN.out.symm, by omega, hs, hbw⟩
        case measure => simp [intOf]; omega
    · obtain rfl : k = l.length := by omega
      have hall : l.take l.length = l := List.take_of_length_le (Nat.le_refl _)
      have hfin : acc = kept win l := by
        rw [hacc.out, hall]
        unfold kept last
        rw [lagsAll_len]
      subst hfin
      obtain ⟨hk2, a1, c1, hv, hrow⟩ := rowi_of_sl hs (kept_in win l)
      subst hv
      clear hall hk2 hacc
      go_wp2
      go_ret
      exact ⟨a1, c1, rfl, hrow, hbw⟩

set_option maxHeartbeats 1000000 in
theorem ref_lag (a : Option Addr) (n c : Nat) (l : List Int) (p win : Nat) (w : World) (hn : n = l.length) (hcap : n ≤ c) (hl : RowI w .i64 a l) (hb : l.length ≤ 1000) (hwin : win ≤ 1000) (hp : p ≤ 100) (z : Int) (hz : pick (kept win l) p = z) :
    Calls Try.prog 19 #[.slice a n c, .int .i64 p, .int .i64 win] w fun e w' => e = .returned (.int .i64 z) ∧ Below w.heap.size w w' := by
  have HL := Lib.hid (ref_lags a n c l win w hn hcap hl hb hwin)
  have hkl := kept_len win l
  have HP := fun w' a' c' (h : RowI w' .i64 a' (kept win l)) => Lib.hid (ref_percent a' (kept win l).length c' (kept win l) p p rfl w' rfl h hp (by omega))
  rw [pick_least, hz] at HP
  have HKL := Lib.hid hkl
  clear hz hkl hl hn
  generalize (least (fun x => decide (p * (kept win l).length ≤ cnt (kept win l) x * 100)) (kept win l)).2 = q at *
  go_enter Try.func19, Try.ntmps19
  go_wp2_with (first | (go_at_call 32; refine HL.out.mono ?_; rintro e w1 ⟨a1, c1, rfl, hr1, hb1⟩) | (go_at_call 31; refine (HP _ _ _ hr1).out.mono ?_; rintro e w2 ⟨rfl, rfl⟩))
  go_ret
  exact ⟨rfl, hb1⟩

set_option maxHeartbeats 2000000 in
theorem ref_now12 (b off n c : Nat) (l : List Int) (p win : Nat) (w : World) (hn : n = l.length) (hcap : n ≤ c) (hl : RowI w .i64 (some ⟨b, off, none⟩) l) (hb : l.length ≤ 1000) (hwin : win ≤ 1000) (hp : p ≤ 100) (z : Int) (hz : nowTo p win l l.length = z) :
    Calls Try.prog 20 #[.slice (some ⟨b, off, none⟩) n c, .int .i64 p, .int .i64 win] w fun e w' => e = .returned (.int .i64 z) ∧ Below w.heap.size w w' := by
  subst hn
  have HZ := Lib.hid hz
  clear hz
  go_enter Try.func20, Try.ntmps20
  go_wp2
  go_loopw [7, 8] (fun o i wr => ∃ k : Nat, k ≤ l.length ∧ i = .int .i64 ((k : Int) + 1) ∧ o = .int .i64 (nowTo p win l k) ∧ Below w.heap.size w wr) (fun _ i _ => l.length + 1 - (intOf i).toNat)
  case atStart => exact ⟨0, Nat.zero_le _, rfl, rfl, Below.refl _ _⟩
  case round =>
    obtain ⟨k, hk, rfl, rfl, hbw⟩ := hrel
    by_cases hlt : k < l.length
    · have hnx : nowTo p win l (k + 1) = if nowTo p win l k < after (most (-9223372036854775808) (l.take (k + 1))) (pick (kept win (l.take (k + 1))) p) then after (most (-9223372036854775808) (l.take (k + 1))) (pick (kept win (l.take (k + 1))) p) else nowTo p win l k := rfl
      have hni := nowTo_in p win l k
      have hpi := pick_in (p := p) (kept_in win (l.take (k + 1)))
      have hll : (l.take (k + 1)).length = k + 1 := by rw [List.length_take]; omega
      have HLG := fun w' (h : Below w.heap.size w w') cc (hc : k + 1 ≤ cc) => Lib.hid (ref_lag (some ⟨b, off, none⟩) (k + 1) cc (l.take (k + 1)) p win w' hll.symm hc (row_part (hl.below h) 0 (k + 1) off (by omega) (by omega) (l.take (k + 1)) (by simp)) (by omega) hwin hp _ rfl)
      have HNW := fun w' (h : Below w.heap.size w w') cc => Lib.hid (ref_now10 (some ⟨b, off, none⟩) (k + 1) cc (l.take (k + 1)) (pick (kept win (l.take (k + 1))) p) w' hll.symm (by omega) (row_part (hl.below h) 0 (k + 1) off (by omega) (by omega) (l.take (k + 1)) (by simp)) (by omega) hpi _ rfl)
      clear hll
      generalize pick (kept win (l.take (k + 1))) p = y at *
      generalize most (-9223372036854775808) (l.take (k + 1)) = M at *
      have hin1 : (k : Int) + 1 ≤ (l.length : Int) := by omega
      have hic : (k : Int) + 1 ≤ (c : Int) := by omega
      have htn : ((k : Int) + 1).toNat = k + 1 := by omega
      have h0 : (0 : Int) ≤ (k : Int) + 1 := by omega
      have HX := Lib.hid hnx
      clear hnx
      generalize nowTo p win l k = m at *
      generalize hA : after M y = A at *
      clear hA
      by_cases hx : m < A
      · have hx1 := hx
        go_wp2
        go_region_with (first | (go_at_call 19; refine (HLG _ hbw.drew _ (by omega)).out.mono ?_; rintro e w3 ⟨rfl, hb3⟩; have hbw3 := on_below hbw.drew hb3) | (go_at_call 33; refine (HNW _ hbw3 _).out.mono ?_; rintro e w4 ⟨rfl, rfl⟩))
        all_goals go_wp2
        all_goals go_roundw
        all_goals first
          | exact ⟨k + 1, by omega, by go_num, by rw [HX.out, if_pos hx], hbw3⟩
          | (simp [intOf]; omega)
      · have hx1 : A ≤ m := by omega
        have HXN := Lib.hid (show nowTo p win l (k + 1) = m by rw [HX.out, if_neg hx])
        clear hx HX
        go_wp2
        go_region_with (first | (go_at_call 19; refine (HLG _ hbw.drew _ (by omega)).out.mono ?_; rintro e w3 ⟨rfl, hb3⟩; have hbw3 := on_below hbw.drew hb3) | (go_at_call 33; refine (HNW _ hbw3 _).out.mono ?_; rintro e w4 ⟨rfl, rfl⟩))
        all_goals go_wp2
        all_goals go_roundw
        all_goals first
          | exact ⟨k + 1, by omega, by go_num, by rw [HXN.out], hbw3⟩
          | (simp [intOf]; omega)
    · obtain rfl : k = l.length := by omega
      rw [HZ.out]
      have hgt : (l.length : Int) < (l.length : Int) + 1 := by omega
      go_wp2
      go_ret
      exact ⟨rfl, hbw⟩
end Go.Proofs.Ythpnkjnieljdiaa
