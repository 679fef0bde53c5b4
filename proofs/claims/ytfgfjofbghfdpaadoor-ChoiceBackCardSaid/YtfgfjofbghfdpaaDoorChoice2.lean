/- choice: Ticks and Round. -/
import Derived.Test.YtfgfjofbghfdpaaDoorChoice1
import Derived.Test.YtfgfjofbghfdpaaDoorKBase
import Derived.Test.YtfgfjofbghfdpaaDoorKClock
import Derived.Laws.MakeOwn
import Derived.Deep.LoopGhost
namespace Go.Proofs.YtfgfjofbghfdpaaDoor
set_option maxRecDepth 4000
open Go.ChangeShapes Go.WideShapes Go.ChangeAt Go.RowKit
open PWord
set_option linter.unusedVariables false
set_option linter.unusedSimpArgs false

def chc (x : Bool × Int) : List Value := [.bool x.1, .int .i64 x.2]
/-- By how much the clock goes on. -/
def tstep (s : Int) (x : Bool × Int) : Int := if x.1 = true ∧ 0 ≤ x.2 then PSat.add s x.2 else s
def tsum (l : List (Bool × Int)) : Int := l.foldl tstep 0
theorem tsum_take (l : List (Bool × Int)) (k : Nat) (hk : k < l.length) : tsum (l.take (k + 1)) = tstep (tsum (l.take k)) l[k] := by
  unfold tsum
  rw [List.take_succ_eq_append_getElem hk, List.foldl_append]
  rfl
theorem tstep_in (s : Int) (x : Bool × Int) (h : in64 s) : in64 (tstep s x) := by
  unfold tstep
  split
  · exact PSat.add_in _ _
  · exact h
theorem tsum_in (l : List (Bool × Int)) : in64 (tsum l) := by
  have h : ∀ (l : List (Bool × Int)) (z : Int), in64 z → in64 (l.foldl tstep z) := by
    intro l
    induction l with
    | nil => intro z hz; exact hz
    | cons x l ih => intro z hz; exact ih _ (tstep_in _ _ hz)
  exact h l 0 zero64

theorem RowC.cells {w : World} {b off : Nat} {l : List (Bool × Int)} (h : RowG w 2 chc (some ⟨b, off, none⟩) l) (k : Nat) (hk : k < l.length) :
    b < w.heap.size ∧ w.cell? ⟨b, off + k * 2, none⟩ = some (.bool l[k].1) ∧ w.cell? ⟨b, off + k * 2 + 1, none⟩ = some (.int .i64 l[k].2) := by
  obtain ⟨h1, h2⟩ := RowG.cell h k hk
  exact ⟨h1, h2 0 (by omega), h2 1 (by omega)⟩

set_option maxRecDepth 100000 in
set_option maxHeartbeats 2000000 in
theorem ch_ticks (l : List (Bool × Int)) (a : Option Addr) (n c : Nat) (w : World) (hr : RowG w 2 chc a l) (hb64 : ∀ x ∈ l, in64 x.2) (hn : n = l.length) (hl : n ≤ 100000) :
    Calls Tryd.prog 32 #[.slice a n c] w fun e w' => e = .returned (.int .i64 (tsum l)) ∧ Below w.heap.size w w' := by
  have HN := Lib.hid hn
  have HB := Lib.hid hb64
  clear hn hb64
  have hb0 := Below.refl w.heap.size w
  have hTS : tsum l = tsum (l.take n) := by rw [List.take_of_length_le (by rw [HN.out]; exact Nat.le_refl _)]
  rw [hTS]
  clear hTS
  go_enter Tryd.func32, Tryd.ntmps32
  go_wp2
  go_loopw [3, 8] (fun v i wr => ∃ k : Nat, k ≤ n ∧ i = .int .i64 k ∧ v = .int .i64 (tsum (l.take k)) ∧ Below w.heap.size w wr) (fun _ i _ => n - (intOf i).toNat)
  case atStart => exact ⟨0, Nat.zero_le _, rfl, rfl, hb0⟩
  case round =>
    clear hb0
    obtain ⟨k, hk, rfl, rfl, hb⟩ := hrel
    by_cases hlt : k < n
    · have hk1 : k < l.length := by rw [← HN.out]; exact hlt
      have hrow := hr.below hb
      obtain ⟨b1, o1, rfl, -, -⟩ := hrow.at_ k hk1
      obtain ⟨hbl1, p0, p1⟩ := RowC.cells hrow k hk1
      have hx := HB.out _ (List.getElem_mem hk1)
      have hst := tsum_take l k hk1
      have hin := tsum_in (l.take k)
      have HST := Lib.hid hst
      clear hrow hst
      generalize l[k] = r at *
      obtain ⟨rt, rn⟩ := r
      simp only at p0 p1 hx
      generalize tsum (l.take k) = z at *
      have HADD := Lib.hid (fun w => sat_add z rn w hin hx)
      have hbx := hb.alloc hb.size (.cells #[.bool rt, .int .i64 rn] 50)
      obtain ⟨hx1, hx2⟩ := hx
      clear hk1
      cases rt
      · have hz : tsum (l.take (k + 1)) = z := by rw [HST.out]; simp [tstep]
        have HZ := Lib.hid hz
        clear hz
        go_wp2
        go_roundw
        case rel => exact ⟨k + 1, by omega, by go_num, (by rw [HZ.out]), hbx⟩
        case measure => simp [intOf]; omega
      · by_cases h0 : 0 ≤ rn
        · have hz : tsum (l.take (k + 1)) = PSat.add z rn := by rw [HST.out]; simp [tstep, h0]
          have HZ := Lib.hid hz
          clear hz
          go_wp2_with (go_at_call 46; (with_reducible refine (HADD.out _).mono ?_); rintro e w3 ⟨rfl, rfl⟩)
          go_roundw
          case rel => exact ⟨k + 1, by omega, by go_num, (by rw [HZ.out]), hbx⟩
          case measure => simp [intOf]; omega
        · have hz : tsum (l.take (k + 1)) = z := by rw [HST.out]; simp [tstep, h0]
          have HZ := Lib.hid hz
          clear hz
          go_wp2
          go_roundw
          case rel => exact ⟨k + 1, by omega, by go_num, (by rw [HZ.out]), hbx⟩
          case measure => simp [intOf]; omega
    · obtain rfl : k = n := by omega
      go_wp2
      go_ret
      exact ⟨rfl, hb⟩

/-- Polls, round by round: the cells of the first n. -/
def rnd (P : Nat) : Nat → List Value
  | 0 => []
  | n + 1 => rnd P n ++ [.bool false, .int .i64 ((n % P : Nat) : Int)]
theorem rnd_len (P : Nat) : ∀ n, (rnd P n).length = n * 2
  | 0 => rfl
  | n + 1 => by simp only [rnd, List.length_append, rnd_len P n, List.length_cons, List.length_nil]; omega
theorem rnd_at (P : Nat) : ∀ n k, k < n → (rnd P n)[k * 2]? = some (.bool false) ∧ (rnd P n)[k * 2 + 1]? = some (.int .i64 ((k % P : Nat) : Int))
  | 0, k, h => by omega
  | n + 1, k, h => by
    have hl := rnd_len P n
    by_cases e : k = n
    · subst e
      simp only [rnd]
      rw [List.getElem?_append_right (by omega), List.getElem?_append_right (by omega), hl, show k * 2 - k * 2 = 0 by omega, show k * 2 + 1 - k * 2 = 1 by omega]
      exact ⟨rfl, rfl⟩
    · obtain ⟨h1, h2⟩ := rnd_at P n k (by omega)
      simp only [rnd]
      rw [List.getElem?_append_left (by omega), List.getElem?_append_left (by omega)]
      exact ⟨h1, h2⟩
/-- What Round answers: so many polls of the call's own. -/
def RoundPost (P n : Nat) (w : World) (e : Ending) (w' : World) : Prop := ∃ v, e = .returned v ∧ Sl w.heap.size w' 2 v n (rnd P n) ∧ Below w.heap.size w w'

theorem info_ch : (Tryd.prog.info? 50).map (fun i => (i.zero, i.size, i.bytes)) = some (some (.agg #[.bool false, .int .i64 0]), 2, 16) := by kernel_rfl
theorem src_ch {P : Program} {tx e' : TypeId} (hk : P.underlying tx = some (.slice e')) (w : World) (b : Bool) (n : Int) (e : TypeId) (N : Nat) (hN : w.heap.size = N) :
    Src P 2 tx (.slice (some ⟨N, 0, none⟩) 1 1) 1 [.bool b, .int .i64 n] (w.alloc (.cells #[.bool b, .int .i64 n] e)) := by
  subst hN
  refine Src.ofSlice _ hk ⟨w.heap.size, 0, none⟩ 1 1 [.bool b, .int .i64 n] rfl (fun j u hx => ?_) (fun u hx => ?_)
  · have ha := At.alloc w [.bool b, .int .i64 n] e
    obtain ⟨hj, rfl⟩ := List.getElem?_eq_some_iff.1 hx
    rw [Addr.add_lit, Nat.zero_add]
    exact (ha.2 j hj).1
  · simp at hx
    rcases hx with rfl | rfl <;> rfl
theorem make_ch (n : Nat) (hn : n ≤ 1000000) (w : World) : (Instr.makeSlice 48 (.int .i64 0) (.int .i64 n)).run Tryd.prog w = .ok (.slice (some ⟨w.heap.size, 0, none⟩) 0 n) (w.alloc (.cells (madeCells #[.bool false, .int .i64 0] (n * 2)) 50)) := by
  obtain ⟨i0, hi, hz0, hz1, hz2⟩ := info_parts info_ch
  have h := run_make (P := Tryd.prog) w 48 50 i0 (.agg #[.bool false, .int .i64 0]) Tryd.underlying48 hi hz0 .i64 .i64 0 n (by omega) (by omega) (by rw [hz2]; omega) (by omega)
  rw [hz1, show (Value.agg #[.bool false, .int .i64 0]).cells = #[.bool false, .int .i64 0] from rfl] at h
  simpa [madeCells] using h

set_option maxRecDepth 100000 in
set_option maxHeartbeats 2000000 in
theorem ch_round (P R : Nat) (hP : 1 ≤ P) (hP2 : P ≤ 100) (hR : 1 ≤ R) (hR2 : R ≤ 100) (w : World) :
    Calls Tryd.prog 33 #[.int .i64 P, .int .i64 R] w (RoundPost P (R * P) w) := by
  have hdv : (21474836 : Int) ≤ 2147483647 / (R : Int) := by rw [Int.le_ediv_iff_mul_le (by omega)]; omega
  have hdu : 2147483647 / (R : Int) ≤ 2147483647 := Int.ediv_le_self _ (by omega)
  have hdt : (2147483647 : Int).tdiv (R : Int) = 2147483647 / (R : Int) := Int.tdiv_eq_ediv_of_nonneg (by omega)
  obtain ⟨q, hq⟩ : ∃ q : Int, 2147483647 / (R : Int) = q := ⟨_, rfl⟩
  rw [hq] at hdv hdu hdt
  have hqP : ¬ q < (P : Int) := by omega
  have hM2 : R * P ≤ 10000 := Nat.le_trans (Nat.mul_le_mul_right P hR2) (by omega)
  obtain ⟨M, hM⟩ : ∃ M, R * P = M := ⟨_, rfl⟩
  have hMI : (P : Int) * (R : Int) = (M : Int) := by rw [← hM, Int.natCast_mul, Int.mul_comm]
  rw [hM] at hM2 ⊢
  have hmk := make_ch M (by omega) w
  have hs0 := Sl.made (B := w.heap.size) w (madeCells #[.bool false, .int .i64 0] (M * 2)) 50 2 0 M (Nat.le_refl _) (Nat.zero_le _) (by unfold maxLen; omega) (by simp [madeCells])
  have hb0 : Below w.heap.size w (w.alloc (.cells (madeCells #[.bool false, .int .i64 0] (M * 2)) 50)) := (Below.refl _ _).alloc (Nat.le_refl _) _
  have h1P : ¬ (P : Int) < 1 := by omega
  have h1R : ¬ (R : Int) < 1 := by omega
  have hR0 : ¬ (R : Int) = 0 := by omega
  have HM := Lib.hid hM
  have HP := Lib.hid (fun n w => ch_poll n w)
  obtain ⟨i0, hi, hz0, hz1, hz2⟩ := info_parts info_ch
  clear hM
  go_enter Tryd.func33, Tryd.ntmps33
  go_wp2
  go_loopw [5, 24] (fun v j wr => ∃ J : Nat, J ≤ R ∧ j = .int .i64 J ∧ Sl w.heap.size wr 2 v (J * P) (rnd P (J * P)) ∧ Below w.heap.size w wr) (fun _ j _ => R - (intOf j).toNat)
  case atStart => exact ⟨0, Nat.zero_le _, rfl, by rw [Nat.zero_mul]; exact hs0, hb0⟩
  case round =>
    clear hs0 hb0
    obtain ⟨J, hJ, rfl, hs, hb⟩ := hrel
    by_cases hlt : J < R
    · have hJP : J * P + P ≤ 10000 := by
        have h1 : (J + 1) * P ≤ R * P := Nat.mul_le_mul_right P (by omega)
        rw [Nat.succ_mul, HM.out] at h1
        omega
      have hJ1 : (J + 1) * P = J * P + P := Nat.succ_mul _ _
      have HJ1 := Lib.hid hJ1
      clear hJ1
      have hmod : ∀ I, I < P → (J * P + I) % P = I := fun I hI => by rw [Nat.add_comm, Nat.mul_comm, Nat.add_mul_mod_self_left, Nat.mod_eq_of_lt hI]
      have HMOD := Lib.hid hmod
      clear hmod hmk hMI
      generalize J * P = K at *
      go_wp2
      go_loopw [5, 27] (fun v i wx => ∃ I : Nat, I ≤ P ∧ i = .int .i64 I ∧ Sl w.heap.size wx 2 v (K + I) (rnd P (K + I)) ∧ Below w.heap.size w wx) (fun _ i _ => P - (intOf i).toNat)
      case atStart => exact ⟨0, Nat.zero_le _, rfl, hs, hb⟩
      case round =>
        clear hs hb
        obtain ⟨I, hI, rfl, hs, hb⟩ := hrel
        by_cases hlt2 : I < P
        · have hm1 : K + I + 1 ≤ maxLen := by unfold maxLen; omega
          have hmo := HMOD.out I hlt2
          have HMO := Lib.hid hmo
          clear hmo
          go_wp2_with (first | (go_at_call 31; (with_reducible refine (HP.out _ _).mono ?_); rintro e w3 ⟨rfl, hb3⟩; have hs3 := (hs.onW hb3).alloc (.cells #[.bool false, .int .i64 I] 50); have hw3 : w.heap.size ≤ w3.heap.size := Nat.le_trans hb.size hb3.size) | (at_builtin; refine wpList_append_sl _ rfl (.tmp 30) (.tmp 33) 48 48 rfl 50 i0 _ 16 Tryd.underlying48 hi hz0 hz1 hz2 rfl rfl hs3 _ 1 _ rfl (src_ch Tryd.underlying48 _ false I _ _ (by simp)) hm1 (by omega) (by simp; omega) ?_; intro v1 w4 k1 k2 k3))
          go_roundw
          case rel => exact ⟨I + 1, by omega, by go_num, (by show Sl _ _ 2 _ (K + I + 1) (rnd P (K + I) ++ [.bool false, .int .i64 (((K + I) % P : Nat) : Int)]); rw [HMO.out]; exact k1), ((on_below hb hb3).alloc (by omega) _).upd k2 (by simp; omega) (fun i _ hi => by have := (hs.lt i hi).1; omega)⟩
          case measure => simp [intOf]; omega
        · have hIP : I = P := by omega
          subst hIP
          go_wp2
          go_roundw
          case rel => exact ⟨J + 1, by omega, by go_num, (by rw [HJ1.out]; exact hs), hb⟩
          case measure => simp [intOf]; omega
    · obtain rfl : J = R := by omega
      go_wp2
      go_ret
      exact ⟨_, rfl, (by rw [← HM.out]; exact hs), hb⟩

set_option maxRecDepth 100000 in
set_option maxHeartbeats 1000000 in
theorem ch_round_none (p r : Int) (w : World) (hp : p ≤ 100) (hr : r ≤ 100) (h : p < 1 ∨ r < 1) :
    Calls Tryd.prog 33 #[.int .i64 p, .int .i64 r] w fun e w' => e = .returned (.slice none 0 0) ∧ Below w.heap.size w w' := by
  by_cases h1 : p < 1
  · go_enter Tryd.func33, Tryd.ntmps33
    go_wp2
    go_ret
    exact ⟨rfl, Below.refl _ _⟩
  · have h2 : r < 1 := by omega
    go_enter Tryd.func33, Tryd.ntmps33
    go_wp2
    go_ret
    exact ⟨rfl, Below.refl _ _⟩
end Go.Proofs.YtfgfjofbghfdpaaDoor
