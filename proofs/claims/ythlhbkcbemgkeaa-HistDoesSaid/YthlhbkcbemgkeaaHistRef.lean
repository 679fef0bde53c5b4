/- The document's own counts of a row of numbers. -/
import Derived.Test.YthlhbkcbemgkeaaHistPlain
import Derived.Test.YthlhbkcbemgkeaaRing2
import Derived.Test.YthlhbkcbemgkeaaSub
import Derived.BigRegion
namespace Go.Proofs.Ythlhbkcbemgkeaa
open Go.ChangeShapes Go.WideShapes Go.ChangeAt Go.RowKit
open PHist
set_option linter.unusedVariables false
set_option linter.unusedSimpArgs false

set_option maxHeartbeats 1000000 in
theorem ref_below (a : Option Addr) (n c : Nat) (l : List Int) (x : Int) (w : World) (hn : n = l.length) (hl : RowI w .i64 a l) :
    Calls Try.prog 35 #[.slice a n c, .int .i64 x] w fun e w' => e = .returned (.int .i64 (cnt l x : Nat)) ∧ w = w' := by
  subst hn
  have hlen := hl.len
  unfold maxLen at hlen
  go_enter Try.func35, Try.ntmps35
  go_wp2
  go_loop [5, 6] (fun s i => ∃ k : Nat, k ≤ l.length ∧ i = .int .i64 k ∧ s = .int .i64 (cnt (l.take k) x : Nat)) (fun _ i => l.length - (intOf i).toNat)
  case atStart => exact ⟨0, Nat.zero_le _, rfl, rfl⟩
  case round =>
    obtain ⟨k, hk, rfl, rfl⟩ := hrel
    by_cases hlt : k < l.length
    · obtain ⟨b, off, rfl, hb, hc⟩ := hl.at_ k hlt
      have HS := Lib.hid (cnt_snoc l k hlt x)
      have hcl := cnt_le (l.take k) x
      rw [List.length_take] at hcl
      generalize cnt (l.take k) x = q at *
      by_cases hx : l[k] ≤ x
      · have HX := Lib.hid hx
        go_wp2
        go_round
        case rel => exact ⟨k + 1, by omega, by go_num, by rw [HS.out, if_pos HX.out]; simp⟩
        case measure => simp [intOf]; omega
      · have HX := Lib.hid hx
        go_wp2
        go_round
        case rel => exact ⟨k + 1, by omega, by go_num, by rw [HS.out, if_neg HX.out]; simp⟩
        case measure => simp [intOf]; omega
    · go_wp2
      go_ret
      exact ⟨ret_int (by rw [List.take_of_length_le (by omega)]), rfl⟩

theorem least_snoc (P : Int → Bool) (l : List Int) (k : Nat) (h : k < l.length) : least P (l.take (k + 1)) = lstep P (least P (l.take k)) l[k] := by
  unfold least
  rw [List.take_succ_eq_append_getElem h, List.foldl_append]
  rfl

set_option maxHeartbeats 2000000 in
theorem ref_least (a : Option Addr) (n c : Nat) (l : List Int) (m : Nat) (mz : Int) (hmz : mz = m) (w : World) (hn : n = l.length) (hl : RowI w .i64 a l) :
    Calls Try.prog 26 #[.slice a n c, .int .i64 mz] w fun e w' => e = .returned (.tuple #[.int .i64 (least (fun x => decide (m ≤ cnt l x)) l).1, .bool (least (fun x => decide (m ≤ cnt l x)) l).2]) ∧ w = w' := by
  subst hn hmz
  have hlen := hl.len
  unfold maxLen at hlen
  obtain ⟨P, hP⟩ : ∃ P : Int → Bool, P = fun x => decide (m ≤ cnt l x) := ⟨_, rfl⟩
  rw [← hP]
  have HPP := fun x => Lib.hid (show P x = decide (m ≤ cnt l x) by rw [hP])
  clear hP
  have HB := fun x => Lib.hid (ref_below a l.length c l x w rfl hl)
  go_enter Try.func26, Try.ntmps26
  go_wp2
  go_loop [6, 7, 8] (fun o b i => ∃ k : Nat, k ≤ l.length ∧ i = .int .i64 k ∧ o = .int .i64 (least P (l.take k)).1 ∧ b = .bool (least P (l.take k)).2) (fun _ _ i => l.length - (intOf i).toNat)
  case atStart => exact ⟨0, Nat.zero_le _, rfl, rfl, rfl⟩
  case round =>
    obtain ⟨k, hk, rfl, rfl, rfl⟩ := hrel
    by_cases hlt : k < l.length
    · obtain ⟨b, off, rfl, hb, hc⟩ := hl.at_ k hlt
      have hF := least_snoc P l k hlt
      generalize l[k] = x at *
      have hPx := (HPP x).out
      have HB' := HB x
      generalize cnt l x = q at *
      generalize least P (l.take k) = acc at *
      obtain ⟨out, is⟩ := acc
      by_cases hP : m ≤ q
      · have hPt : P x = true := by rw [hPx]; simpa using hP
        clear hPx
        cases is
        · have HF := Lib.hid (show least P (l.take (k + 1)) = (x, true) by rw [hF]; simp [lstep, hPt])
          clear hF hPt
          go_wp2_with (go_at_call 35; refine HB'.out.mono ?_; rintro e w' ⟨rfl, rfl⟩)
          go_round
          case rel => exact ⟨k + 1, by omega, by go_num, by rw [HF.out], by rw [HF.out]⟩
          case measure => simp [intOf]; omega
        · by_cases hx : x < out
          · have HF := Lib.hid (show least P (l.take (k + 1)) = (x, true) by rw [hF]; simp [lstep, hPt, hx])
            clear hF hPt
            go_wp2_with (go_at_call 35; refine HB'.out.mono ?_; rintro e w' ⟨rfl, rfl⟩)
            go_round
            case rel => exact ⟨k + 1, by omega, by go_num, by rw [HF.out], by rw [HF.out]⟩
            case measure => simp [intOf]; omega
          · have HF := Lib.hid (show least P (l.take (k + 1)) = (out, true) by rw [hF]; simp [lstep, hPt, hx])
            clear hF hPt
            go_wp2_with (go_at_call 35; refine HB'.out.mono ?_; rintro e w' ⟨rfl, rfl⟩)
            go_round
            case rel => exact ⟨k + 1, by omega, by go_num, by rw [HF.out], by rw [HF.out]⟩
            case measure => simp [intOf]; omega
      · have hPt : P x = false := by rw [hPx]; simpa using hP
        clear hPx
        have HF := Lib.hid (show least P (l.take (k + 1)) = (out, is) by rw [hF]; simp [lstep, hPt])
        clear hF hPt
        go_wp2_with (go_at_call 35; refine HB'.out.mono ?_; rintro e w' ⟨rfl, rfl⟩)
        go_round
        case rel => exact ⟨k + 1, by omega, by go_num, by rw [HF.out], by rw [HF.out]⟩
        case measure => simp [intOf]; omega
    · rw [List.take_of_length_le (show l.length ≤ k by omega)]
      go_wp2
      go_ret2
      exact ⟨rfl, rfl⟩
set_option maxHeartbeats 2000000 in
theorem ref_percent (a : Option Addr) (n c : Nat) (l : List Int) (p : Nat) (mz : Int) (hmz : mz = p) (w : World) (hn : n = l.length) (hl : RowI w .i64 a l) (hp : p ≤ 100) (h1000 : l.length ≤ 1000) :
    Calls Try.prog 28 #[.slice a n c, .int .i64 mz] w fun e w' => e = .returned (.tuple #[.int .i64 (least (fun x => decide (p * l.length ≤ cnt l x * 100)) l).1, .bool (least (fun x => decide (p * l.length ≤ cnt l x * 100)) l).2]) ∧ w = w' := by
  subst hn hmz
  have hlen := hl.len
  unfold maxLen at hlen
  obtain ⟨P, hP⟩ : ∃ P : Int → Bool, P = fun x => decide (p * l.length ≤ cnt l x * 100) := ⟨_, rfl⟩
  rw [← hP]
  have HPP := fun x => Lib.hid (show P x = decide (p * l.length ≤ cnt l x * 100) by rw [hP])
  clear hP
  have hq1 : p * l.length ≤ 100 * 1000 := Nat.mul_le_mul hp h1000
  have hq2 : (p : Int) * (l.length : Int) = ((p * l.length : Nat) : Int) := by simp
  obtain ⟨m, hm⟩ : ∃ m, p * l.length = m := ⟨_, rfl⟩
  rw [hm] at hq1 hq2 HPP
  clear hm
  have hcl := fun x => cnt_le l x
  have HB := fun x => Lib.hid (ref_below a l.length c l x w rfl hl)
  go_enter Try.func28, Try.ntmps28
  go_wp2
  go_loop [6, 7, 8] (fun o b i => ∃ k : Nat, k ≤ l.length ∧ i = .int .i64 k ∧ o = .int .i64 (least P (l.take k)).1 ∧ b = .bool (least P (l.take k)).2) (fun _ _ i => l.length - (intOf i).toNat)
  case atStart => exact ⟨0, Nat.zero_le _, rfl, rfl, rfl⟩
  case round =>
    obtain ⟨k, hk, rfl, rfl, rfl⟩ := hrel
    by_cases hlt : k < l.length
    · obtain ⟨b, off, rfl, hb, hc⟩ := hl.at_ k hlt
      have hF := least_snoc P l k hlt
      generalize l[k] = x at *
      have hPx := (HPP x).out
      have HB' := HB x
      have hcx := hcl x
      clear hcl
      generalize cnt l x = q at *
      generalize least P (l.take k) = acc at *
      obtain ⟨out, is⟩ := acc
      by_cases hP : m ≤ q * 100
      · have hPt : P x = true := by rw [hPx]; simpa using hP
        clear hPx
        cases is
        · have HF := Lib.hid (show least P (l.take (k + 1)) = (x, true) by rw [hF]; simp [lstep, hPt])
          clear hF hPt
          go_wp2_with (go_at_call 35; refine HB'.out.mono ?_; rintro e w' ⟨rfl, rfl⟩)
          go_round
          case rel => exact ⟨k + 1, by omega, by go_num, by rw [HF.out], by rw [HF.out]⟩
          case measure => simp [intOf]; omega
        · by_cases hx : x < out
          · have HF := Lib.hid (show least P (l.take (k + 1)) = (x, true) by rw [hF]; simp [lstep, hPt, hx])
            clear hF hPt
            go_wp2_with (go_at_call 35; refine HB'.out.mono ?_; rintro e w' ⟨rfl, rfl⟩)
            go_round
            case rel => exact ⟨k + 1, by omega, by go_num, by rw [HF.out], by rw [HF.out]⟩
            case measure => simp [intOf]; omega
          · have HF := Lib.hid (show least P (l.take (k + 1)) = (out, true) by rw [hF]; simp [lstep, hPt, hx])
            clear hF hPt
            go_wp2_with (go_at_call 35; refine HB'.out.mono ?_; rintro e w' ⟨rfl, rfl⟩)
            go_round
            case rel => exact ⟨k + 1, by omega, by go_num, by rw [HF.out], by rw [HF.out]⟩
            case measure => simp [intOf]; omega
      · have hPt : P x = false := by rw [hPx]; simpa using hP
        clear hPx
        have HF := Lib.hid (show least P (l.take (k + 1)) = (out, is) by rw [hF]; simp [lstep, hPt])
        clear hF hPt
        go_wp2_with (go_at_call 35; refine HB'.out.mono ?_; rintro e w' ⟨rfl, rfl⟩)
        go_round
        case rel => exact ⟨k + 1, by omega, by go_num, by rw [HF.out], by rw [HF.out]⟩
        case measure => simp [intOf]; omega
    · rw [List.take_of_length_le (show l.length ≤ k by omega)]
      go_wp2
      go_ret2
      exact ⟨rfl, rfl⟩

theorem wout_at (n : Int) : ∀ (l : List Int) (k : Nat) (h : k < l.length), n ∉ l.take k → l[k] = n → wout n l = l.take k ++ l.drop (k + 1)
  | x :: l, 0, _, _, h => by
    have h' : x = n := h
    unfold wout
    rw [if_pos h']; rfl
  | x :: l, k + 1, hk, hn, h => by
    have hx : x ≠ n := fun e => hn (by rw [List.take_succ_cons, e]; exact List.mem_cons_self ..)
    unfold wout
    rw [if_neg hx, wout_at n l k (by simpa using hk) (fun hm => hn (by rw [List.take_succ_cons]; exact List.mem_cons_of_mem _ hm)) h]
    rfl

theorem Sl.le {B : Nat} {w : World} {size : Nat} {a : Option Addr} {m c n : Nat} {xs : List Value} (h : Sl B w size (.slice a m c) n xs) : m ≤ c := by
  rcases h.2 with ⟨e, _⟩ | ⟨_, _, _, e, _, _, h1, _⟩
  · injection e; omega
  · injection e; omega
theorem row_src {P : Program} {w : World} {b off : Nat} {l : List Int} (h : RowI w .i64 (some ⟨b, off, none⟩) l) {t e : TypeId} (ht : P.underlying t = some (.slice e)) (lo m o c : Nat) (ho : o = off + lo ∨ m = 0) (hm : lo + m ≤ l.length) : Src P 1 t (.slice (some ⟨b, o, none⟩) m c) m (iv ((l.drop lo).take m)) w := by
  refine Src.ofSlice w ht ⟨b, o, none⟩ m c _ (by rw [iv_len, List.length_take, List.length_drop]; omega) (fun j u hu => ?_) (fun u hu => ?_)
  · have hj := (List.getElem?_eq_some_iff.1 hu).1
    rw [iv_len, List.length_take, List.length_drop] at hj
    obtain ⟨_, hc⟩ := h.cell (lo + j) (by omega)
    have ho' : o = off + lo := by omega
    rw [Addr.add_lit, ho', Nat.add_assoc, hc, ← hu]
    unfold iv
    rw [List.getElem?_map, List.getElem?_take_of_lt (by omega), List.getElem?_drop, List.getElem?_eq_getElem (by omega)]
    rfl
  · obtain ⟨x, _, rfl⟩ := List.mem_map.1 hu
    rfl

def WPost (l : List Int) (w w' : World) (a : Option Addr) : Prop := RowI w' .i64 a l ∧ Below w.heap.size w w'
def WNew (l : List Int) (w w' : World) (a : Option Addr) : Prop := WPost l w w' a ∧ ∀ p, a = some p → w.heap.size ≤ p.block ∧ p.block < w'.heap.size
theorem Sl.fresh {B : Nat} {w : World} {size : Nat} {a : Option Addr} {m c n : Nat} {xs : List Value} (h : Sl B w size (.slice a m c) n xs) : ∀ p, a = some p → B ≤ p.block ∧ p.block < w.heap.size := by
  intro p hp
  rcases h.2 with ⟨e, _⟩ | ⟨_, _, _, e, h1, h2, _⟩
  · injection e with e; rw [hp] at e; cases e
  · injection e with e; rw [hp] at e; cases e; exact ⟨h1, h2⟩

set_option maxHeartbeats 2000000 in
theorem ref_without2 (a : Option Addr) (n c : Nat) (l : List Int) (x : Int) (w : World) (hn : n = l.length) (hc : n ≤ c) (hl : RowI w .i64 a l) (hx : x ∈ l) (h1000 : l.length ≤ 1000) :
    Calls Try.prog 21 #[.slice a n c, .int .i64 x] w fun e w' => ∃ a' m c', e = .returned (.tuple #[.slice a' m c', .bool true]) ∧ m = (wout x l).length ∧ m ≤ c' ∧ WNew (wout x l) w w' a' := by
  subst hn
  have hbd := fun x (hx : x ∈ l) => bounds_i64 (hl.wf x hx)
  obtain ⟨i0, hi0, hz0, hz1, hz2⟩ := info_parts info_int
  go_enter Try.func21, Try.ntmps21
  go_wp2
  go_loop [6] (fun i => ∃ k : Nat, k ≤ l.length ∧ i = .int .i64 k ∧ x ∉ l.take k) (fun i => l.length - (intOf i).toNat)
  case atStart => exact ⟨0, Nat.zero_le _, rfl, by simp⟩
  case round =>
    obtain ⟨k, hk, rfl, hnk⟩ := hrel
    by_cases hlt : k < l.length
    · obtain ⟨b, off, rfl, hb, hcell⟩ := hl.at_ k hlt
      by_cases hx1 : l[k] = x
      · have hw := wout_at x l k hlt hnk hx1
        rw [hx1] at hcell
        have hxx : (x == x) = true := by simp
        have hu0 : Upd (fun _ => False) w (w.drew.alloc (.cells #[] 3)) := ((Upd.refl _ w).drew).alloc _
        have hb0 : Below w.heap.size w (w.drew.alloc (.cells #[] 3)) := hu0.below (Nat.le_refl _) (fun _ _ h => h.elim)
        have hs0 : Sl w.heap.size (w.drew.alloc (.cells #[] 3)) 1 (.slice (some ⟨w.heap.size, 0, none⟩) 0 0) 0 [] := Sl.made (B := w.heap.size) w.drew #[] 3 1 0 0 (Nat.le_refl _) (Nat.le_refl _) (Nat.zero_le _) (by simp)
        obtain ⟨v2, W2, hr2, hs2, hu2, ho2⟩ := run_append_sl (w.drew.alloc (.cells #[] 3)) 22 22 22 3 i0 (.int .i64 0) 8 Try.underlying22 hi0 hz0 hz1 hz2 rfl hs0 _ k _ (row_src (hl.below hb0) Try.underlying22 0 k off c (.inl rfl) (by omega)) (by unfold maxLen; omega) (by omega) (by simp)
        have hb2 : Below w.heap.size w W2 := hb0.upd hu2 (by simp) (fun i hi hk => by simp [Value.ownBlock] at hk; omega)
        obtain ⟨av, cv, rfl⟩ := hs2.shape
        have hin : k ≤ l.length := by omega
        have hic : k ≤ c := by omega
        have hic2 : (k : Int) ≤ (c : Int) := by omega
        have hb1 : (0 : Int) ≤ (k : Int) + 1 := by omega
        have hin1 : (k : Int) + 1 ≤ (l.length : Int) := by omega
        have htn : ((k : Int) + 1).toNat = k + 1 := by omega
        have hwr : IntKind.i64.wrap ((k : Int) + 1) = (k : Int) + 1 := by rw [IntKind.wrap_i64]; omega
        have hfin : [] ++ iv ((l.drop 0).take k) ++ iv ((l.drop (k + 1)).take (l.length - (k + 1))) = iv (wout x l) := by
          rw [hw, List.take_of_length_le (show (l.drop (k + 1)).length ≤ l.length - (k + 1) by simp)]
          simp [iv]
        have hlw : 0 + k + (l.length - (k + 1)) = (wout x l).length := by rw [hw, List.length_append, List.length_take, List.length_drop]; omega
        have hbw : ∀ y ∈ wout x l, -9223372036854775808 ≤ y ∧ y ≤ 9223372036854775807 := fun y hy => by
          rw [hw] at hy
          rcases List.mem_append.1 hy with h | h
          · exact hbd y (List.mem_of_mem_take h)
          · exact hbd y (List.mem_of_mem_drop h)
        rcases Decidable.em (c = k + 1) with hci | hci
        · obtain ⟨v3, W3, hr3, hs3, hu3, ho3⟩ := run_append_sl W2 22 22 22 3 i0 (.int .i64 0) 8 Try.underlying22 hi0 hz0 hz1 hz2 rfl hs2 _ (l.length - (k + 1)) _ (row_src (hl.below hb2) Try.underlying22 (k + 1) (l.length - (k + 1)) off 0 (.inr (by omega)) (by omega)) (by unfold maxLen; omega) (by omega) hb2.size
          have hb3 : Below w.heap.size w W3 := hb2.upd hu3 hb2.size (fun i hi hk => (hs2.lt i hk).1)
          rw [hfin] at hs3
          obtain ⟨hm3, a3, c3, rfl, hrow3⟩ := rowi_of_sl hs3 hbw
          have HF := Lib.hid (show (wout x l).length ≤ c3 ∧ WNew (wout x l) w W3 a3 from ⟨hs3.le, ⟨hrow3, hb3⟩, hs3.fresh⟩)
          clear hs3 hrow3 hb3 hu3 hs2 hu2 hb2 hs0 hb0 hu0 hfin hlw hbw hw hm3
          have hic3 : (k : Int) ≤ (k : Int) + 1 := by omega
          have hri : l.length - (k + 1) = 0 := by omega
          rw [hri] at hr3
          subst hci
          go_wp2
          go_region_law (first | (refine step_append_run rfl _ _ 22 22 rfl _ _ (by simp [Act.eval, Act.put]) (by simp [Act.eval, Act.put]) hr2 ?_) | (refine step_append_run rfl _ _ 22 22 rfl _ _ (by simp [Act.eval, Act.put]) (by simp [Act.eval, Act.put]) hr3 ?_))
          all_goals go_wp2
          all_goals (go_ret2; exact ⟨_, _, _, rfl, rfl, HF.out⟩)
        · obtain ⟨v3, W3, hr3, hs3, hu3, ho3⟩ := run_append_sl W2 22 22 22 3 i0 (.int .i64 0) 8 Try.underlying22 hi0 hz0 hz1 hz2 rfl hs2 _ (l.length - (k + 1)) _ (row_src (hl.below hb2) Try.underlying22 (k + 1) (l.length - (k + 1)) (off + (k + 1)) (c - (k + 1)) (.inl rfl) (by omega)) (by unfold maxLen; omega) (by omega) hb2.size
          have hb3 : Below w.heap.size w W3 := hb2.upd hu3 hb2.size (fun i hi hk => (hs2.lt i hk).1)
          rw [hfin] at hs3
          obtain ⟨hm3, a3, c3, rfl, hrow3⟩ := rowi_of_sl hs3 hbw
          have HF := Lib.hid (show (wout x l).length ≤ c3 ∧ WNew (wout x l) w W3 a3 from ⟨hs3.le, ⟨hrow3, hb3⟩, hs3.fresh⟩)
          clear hs3 hrow3 hb3 hu3 hs2 hu2 hb2 hs0 hb0 hu0 hfin hlw hbw hw hm3
          go_wp2
          go_region_law (first | (refine step_append_run rfl _ _ 22 22 rfl _ _ (by simp [Act.eval, Act.put]) (by simp [Act.eval, Act.put]) hr2 ?_) | (refine step_append_run rfl _ _ 22 22 rfl _ _ (by simp [Act.eval, Act.put]) (by simp [Act.eval, Act.put]) hr3 ?_))
          all_goals go_wp2
          all_goals (go_ret2; exact ⟨_, _, _, rfl, rfl, HF.out⟩)
      · have hxx : (l[k] == x) = false := by simpa using hx1
        have hnk2 : x ∉ l.take (k + 1) := by
          rw [List.take_succ_eq_append_getElem hlt]
          intro h
          rcases List.mem_append.1 h with h | h
          · exact hnk h
          · exact hx1 (List.mem_singleton.1 h).symm
        go_wp2
        go_round
        case rel => exact ⟨k + 1, by omega, by go_num, hnk2⟩
        case measure => simp [intOf]; omega
    · have hnl : x ∉ l := by rw [List.take_of_length_le (show l.length ≤ k by omega)] at hnk; exact hnk
      exact absurd hx hnl

theorem ref_without (a : Option Addr) (n c : Nat) (l : List Int) (x : Int) (w : World) (hn : n = l.length) (hc : n ≤ c) (hl : RowI w .i64 a l) (hx : x ∈ l) (h1000 : l.length ≤ 1000) :
    Calls Try.prog 21 #[.slice a n c, .int .i64 x] w fun e w' => ∃ a' m c', e = .returned (.tuple #[.slice a' m c', .bool true]) ∧ m = (wout x l).length ∧ m ≤ c' ∧ WPost (wout x l) w w' a' := by
  refine (ref_without2 a n c l x w hn hc hl hx h1000).mono ?_
  rintro e w' ⟨a', m, c', h1, h2, h3, h4⟩
  exact ⟨a', m, c', h1, h2, h3, h4.1⟩

set_option maxHeartbeats 2000000 in
theorem ref_without_none (a : Option Addr) (n c : Nat) (l : List Int) (x : Int) (w : World) (hn : n = l.length) (hl : RowI w .i64 a l) (hx : x ∉ l) (h1000 : l.length ≤ 1000) :
    Calls Try.prog 21 #[.slice a n c, .int .i64 x] w fun e w' => e = .returned (.tuple #[.slice a n c, .bool false]) ∧ w = w' := by
  subst hn
  go_enter Try.func21, Try.ntmps21
  go_wp2
  go_loop [6] (fun i => ∃ k : Nat, k ≤ l.length ∧ i = .int .i64 k) (fun i => l.length - (intOf i).toNat)
  case atStart => exact ⟨0, Nat.zero_le _, rfl⟩
  case round =>
    obtain ⟨k, hk, rfl⟩ := hrel
    by_cases hlt : k < l.length
    · obtain ⟨b, off, rfl, hb, hcell⟩ := hl.at_ k hlt
      have hx1 : l[k] ≠ x := fun e => hx (by rw [← e]; exact List.getElem_mem hlt)
      have hxx : (l[k] == x) = false := by simpa using hx1
      go_wp2
      go_round
      case rel => exact ⟨k + 1, by omega, by go_num⟩
      case measure => simp [intOf]; omega
    · go_wp2
      go_ret2
      exact ⟨rfl, rfl⟩
end Go.Proofs.Ythlhbkcbemgkeaa
