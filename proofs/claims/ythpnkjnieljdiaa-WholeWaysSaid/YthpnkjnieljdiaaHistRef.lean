/- The document's own counts of a row of numbers. -/
import Derived.Test.YthpnkjnieljdiaaHistPlain
import Derived.Test.YthpnkjnieljdiaaRing2
import Derived.Test.YthpnkjnieljdiaaSub
import Derived.BigRegion
namespace Go.Proofs.Ythpnkjnieljdiaa
open Go.ChangeShapes Go.WideShapes Go.ChangeAt Go.RowKit
open PHist
set_option linter.unusedVariables false
set_option linter.unusedSimpArgs false

set_option maxHeartbeats 1000000 in
theorem ref_below (a : Option Addr) (n c : Nat) (l : List Int) (x : Int) (w : World) (hn : n = l.length) (hl : RowI w .i64 a l) :
    Calls Try.prog 40 #[.slice a n c, .int .i64 x] w fun e w' => e = .returned (.int .i64 (cnt l x : Nat)) ∧ w = w' := by
  subst hn
  have hlen := hl.len
  unfold maxLen at hlen
  go_enter Try.func40, Try.ntmps40
  go_wp2
  go_loop [5, 6] (fun s i => ∃ k : Nat, k ≤ l.length ∧ i = .int .i64 k ∧ s = .int .i64 (cnt (l.take k) x : Nat)) (fun _ i => l.length - (intOf i).toNat)
  case atStart => exact ⟨0, Nat.zero_le _, rfl, rfl⟩
  case round =>
    obtain ⟨k, hk, rfl, rfl⟩ := hrel
    by_cases hlt : k < l.length
    · obtain ⟨b, off, rfl, hb, hc⟩ := hl.at_ k hlt
      have HS := Lib.hid (cnt_snoc l k hlt x)
      have hcl := cnt_le (l.take k) x
      rw [List.length_take] at hcl
      generalize cnt (l.take k) x = q at *
      by_cases hx : l[k] ≤ x
      · have HX := Lib.hid hx
        go_wp2
        go_round
        case rel => exact ⟨k + 1, by omega, by go_num, by rw [HS.out, if_pos HX.out]; simp⟩
        case measure => simp [intOf]; omega
      · have HX := Lib.hid hx
        go_wp2
        go_round
        case rel => exact ⟨k + 1, by omega, by go_num, by rw [HS.out, if_neg HX.out]; simp⟩
        case measure => simp [intOf]; omega
    · go_wp2
      go_ret
      exact ⟨ret_int (by rw [List.take_of_length_le (by omega)]), rfl⟩

theorem least_snoc (P : Int → Bool) (l : List Int) (k : Nat) (h : k < l.length) : least P (l.take (k + 1)) = lstep P (least P (l.take k)) l[k] := by
  unfold least
  rw [List.take_succ_eq_append_getElem h, List.foldl_append]
  rfl

set_option maxHeartbeats 2000000 in
theorem ref_percent (a : Option Addr) (n c : Nat) (l : List Int) (p : Nat) (mz : Int) (hmz : mz = p) (w : World) (hn : n = l.length) (hl : RowI w .i64 a l) (hp : p ≤ 100) (h1000 : l.length ≤ 1000) :
    Calls Try.prog 31 #[.slice a n c, .int .i64 mz] w fun e w' => e = .returned (.tuple #[.int .i64 (least (fun x => decide (p * l.length ≤ cnt l x * 100)) l).1, .bool (least (fun x => decide (p * l.length ≤ cnt l x * 100)) l).2]) ∧ w = w' := by
  subst hn hmz
  have hlen := hl.len
  unfold maxLen at hlen
  obtain ⟨P, hP⟩ : ∃ P : Int → Bool, P = fun x => decide (p * l.length ≤ cnt l x * 100) := ⟨_, rfl⟩
  rw [← hP]
  have HPP := fun x => Lib.hid (show P x = decide (p * l.length ≤ cnt l x * 100) by rw [hP])
  clear hP
  have hq1 : p * l.length ≤ 100 * 1000 := Nat.mul_le_mul hp h1000
  have hq2 : (p : Int) * (l.length : Int) = ((p * l.length : Nat) : Int) := by simp
  obtain ⟨m, hm⟩ : ∃ m, p * l.length = m := ⟨_, rfl⟩
  rw [hm] at hq1 hq2 HPP
  clear hm
  have hcl := fun x => cnt_le l x
  have HB := fun x => Lib.hid (ref_below a l.length c l x w rfl hl)
  go_enter Try.func31, Try.ntmps31
  go_wp2
  go_loop [6, 7, 8] (fun o b i => ∃ k : Nat, k ≤ l.length ∧ i = .int .i64 k ∧ o = .int .i64 (least P (l.take k)).1 ∧ b = .bool (least P (l.take k)).2) (fun _ _ i => l.length - (intOf i).toNat)
  case atStart => exact ⟨0, Nat.zero_le _, rfl, rfl, rfl⟩
  case round =>
    obtain ⟨k, hk, rfl, rfl, rfl⟩ := hrel
    by_cases hlt : k < l.length
    · obtain ⟨b, off, rfl, hb, hc⟩ := hl.at_ k hlt
      have hF := least_snoc P l k hlt
      generalize l[k] = x at *
      have hPx := (HPP x).out
      have HB' := HB x
      have hcx := hcl x
      clear hcl
      generalize cnt l x = q at *
      generalize least P (l.take k) = acc at *
      obtain ⟨out, is⟩ := acc
      by_cases hP : m ≤ q * 100
      · have hPt : P x = true := by rw [hPx]; simpa using hP
        clear hPx
        cases is
        · have HF := Lib.hid (show least P (l.take (k + 1)) = (x, true) by rw [hF]; simp [lstep, hPt])
          clear hF hPt
          go_wp2_with (go_at_call 40; refine HB'.out.mono ?_; rintro e w' ⟨rfl, rfl⟩)
          go_round
          case rel => exact ⟨k + 1, by omega, by go_num, by rw [HF.out], by rw [HF.out]⟩
          case measure => simp [intOf]; omega
        · by_cases hx : x < out
          · have HF := Lib.hid (show least P (l.take (k + 1)) = (x, true) by rw [hF]; simp [lstep, hPt, hx])
            clear hF hPt
            go_wp2_with (go_at_call 40; refine HB'.out.mono ?_; rintro e w' ⟨rfl, rfl⟩)
            go_round
            case rel => exact ⟨k + 1, by omega, by go_num, by rw [HF.out], by rw [HF.out]⟩
            case measure => simp [intOf]; omega
          · have HF := Lib.hid (show least P (l.take (k + 1)) = (out, true) by rw [hF]; simp [lstep, hPt, hx])
            clear hF hPt
            go_wp2_with (go_at_call 40; refine HB'.out.mono ?_; rintro e w' ⟨rfl, rfl⟩)
            go_round
            case rel => exact ⟨k + 1, by omega, by go_num, by rw [HF.out], by rw [HF.out]⟩
            case measure => simp [intOf]; omega
      · have hPt : P x = false := by rw [hPx]; simpa using hP
        clear hPx
        have HF := Lib.hid (show least P (l.take (k + 1)) = (out, is) by rw [hF]; simp [lstep, hPt])
        clear hF hPt
        go_wp2_with (go_at_call 40; refine HB'.out.mono ?_; rintro e w' ⟨rfl, rfl⟩)
        go_round
        case rel => exact ⟨k + 1, by omega, by go_num, by rw [HF.out], by rw [HF.out]⟩
        case measure => simp [intOf]; omega
    · rw [List.take_of_length_le (show l.length ≤ k by omega)]
      go_wp2
      go_ret2
      exact ⟨rfl, rfl⟩

theorem wout_at (n : Int) : ∀ (l : List Int) (k : Nat) (h : k < l.length), n ∉ l.take k → l[k] = n → wout n l = l.take k ++ l.drop (k + 1)
  | x :: l, 0, _, _, h => by
    have h' : x = n := h
    unfold wout
    rw [if_pos h']; rfl
  | x :: l, k + 1, hk, hn, h => by
    have hx : x ≠ n := fun e => hn (by rw [List.take_succ_cons, e]; exact List.mem_cons_self ..)
    unfold wout
    rw [if_neg hx, wout_at n l k (by simpa using hk) (fun hm => hn (by rw [List.take_succ_cons]; exact List.mem_cons_of_mem _ hm)) h]
    rfl

theorem Sl.le {B : Nat} {w : World} {size : Nat} {a : Option Addr} {m c n : Nat} {xs : List Value} (h : Sl B w size (.slice a m c) n xs) : m ≤ c := by
  rcases h.2 with ⟨e, _⟩ | ⟨_, _, _, e, _, _, h1, _⟩
  · injection e; omega
  · injection e; omega
theorem row_src {P : Program} {w : World} {b off : Nat} {l : List Int} (h : RowI w .i64 (some ⟨b, off, none⟩) l) {t e : TypeId} (ht : P.underlying t = some (.slice e)) (lo m o c : Nat) (ho : o = off + lo ∨ m = 0) (hm : lo + m ≤ l.length) : Src P 1 t (.slice (some ⟨b, o, none⟩) m c) m (iv ((l.drop lo).take m)) w := by
  refine Src.ofSlice w ht ⟨b, o, none⟩ m c _ (by rw [iv_len, List.length_take, List.length_drop]; omega) (fun j u hu => ?_) (fun u hu => ?_)
  · have hj := (List.getElem?_eq_some_iff.1 hu).1
    rw [iv_len, List.length_take, List.length_drop] at hj
    obtain ⟨_, hc⟩ := h.cell (lo + j) (by omega)
    have ho' : o = off + lo := by omega
    rw [Addr.add_lit, ho', Nat.add_assoc, hc, ← hu]
    unfold iv
    rw [List.getElem?_map, List.getElem?_take_of_lt (by omega), List.getElem?_drop, List.getElem?_eq_getElem (by omega)]
    rfl
  · obtain ⟨x, _, rfl⟩ := List.mem_map.1 hu
    rfl

def WPost (l : List Int) (w w' : World) (a : Option Addr) : Prop := RowI w' .i64 a l ∧ Below w.heap.size w w'
def WNew (l : List Int) (w w' : World) (a : Option Addr) : Prop := WPost l w w' a ∧ ∀ p, a = some p → w.heap.size ≤ p.block ∧ p.block < w'.heap.size
theorem Sl.fresh {B : Nat} {w : World} {size : Nat} {a : Option Addr} {m c n : Nat} {xs : List Value} (h : Sl B w size (.slice a m c) n xs) : ∀ p, a = some p → B ≤ p.block ∧ p.block < w.heap.size := by
  intro p hp
  rcases h.2 with ⟨e, _⟩ | ⟨_, _, _, e, h1, h2, _⟩
  · injection e with e; rw [hp] at e; cases e
  · injection e with e; rw [hp] at e; cases e; exact ⟨h1, h2⟩

end Go.Proofs.Ythpnkjnieljdiaa
