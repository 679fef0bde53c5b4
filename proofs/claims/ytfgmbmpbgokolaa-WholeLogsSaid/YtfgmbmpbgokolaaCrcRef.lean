/- The document's own sum, by a long division: its calls. -/
import Derived.Test.YtfgmbmpbgokolaaCrc3
import Derived.Deep.OwnRows
namespace Go.Proofs.Ytfgmbmpbgokolaa
open Go.ChangeShapes Go.WideShapes Go.ChangeAt Go.RowKit
open PCrc
set_option linter.unusedVariables false

theorem Own.row (w : World) (cs : List Value) (e : TypeId) : Own (w.alloc (.cells cs.toArray e)) w.heap.size 0 cs.length (fun j => cs.getD j undef) := by
  refine ⟨by simp, fun j hj => ?_, fun j hj => ?_⟩
  · rw [cell_of_row _ w.heap.size (0 + j) _ e (0, 0) (heap_alloc_new w _)]
    simp [hj]
  · have e0 := heap_alloc_new w (.cells cs.toArray e (0, 0))
    simp only [World.frozen?, e0]
    simp
theorem Own.madeRow (w : World) (z : Value) (n : Nat) (e : TypeId) : Own (w.alloc (.cells (madeCells #[z] n) e)) w.heap.size 0 n (fun _ => z) := by
  refine ⟨by simp, fun j hj => ?_, fun j hj => ?_⟩
  · rw [cell_of_row _ w.heap.size (0 + j) _ e (0, 0) (heap_alloc_new w _)]
    simp [madeCells, hj, Nat.mod_one]
  · have e0 := heap_alloc_new w (.cells (madeCells #[z] n) e (0, 0))
    simp only [World.frozen?, e0]
    simp

def pws : List Int := [26, 23, 22, 16, 12, 11, 10, 8, 7, 5, 4, 2, 1, 0]
theorem pw_hit (n k : Nat) (hk : k < 14) (h : (n : Int) = pws.getD k 0) : pw n = 1 := by
  have : ∀ k, k < 14 → pw (pws.getD k 0).toNat = 1 := by decide
  have h2 := this k hk
  rw [← h] at h2
  exact h2
theorem pw_miss (n : Nat) (h : ∀ k, k < 14 → (n : Int) ≠ pws.getD k 0) : pw n = 0 := by
  unfold pw
  rw [if_neg]
  intro hm
  have : ∀ n ∈ [26, 23, 22, 16, 12, 11, 10, 8, 7, 5, 4, 2, 1, 0], ∃ k, k < 14 ∧ ((n : Nat) : Int) = pws.getD k 0 := by decide
  obtain ⟨k, hk, he⟩ := this n hm
  exact h k hk he

set_option maxRecDepth 100000 in
set_option maxHeartbeats 1000000 in
theorem ref_pow (z : Int) (n : Nat) (w : World) (hz : z = n) (hn : n ≤ 31) :
    Calls Try.prog 51 #[.int .i64 z] w fun e w' => e = .returned (.int .i64 (pw n : Nat)) ∧ Below w.heap.size w w' := by
  subst hz
  have ho := Own.row w (pws.map (.int .i64)) 3
  have hb : Below w.heap.size w (w.alloc (.cells (pws.map (.int .i64)).toArray 3)) := (Below.refl _ _).alloc (Nat.le_refl _) _
  go_enter Try.func51, Try.ntmps51
  go_wp2
  have HO := Lib.hid ho
  clear ho
  generalize hw1 : w.alloc _ = w1
  have ho : Own w1 w.heap.size 0 14 (fun j => (pws.map (Value.int .i64)).getD j undef) := by rw [← hw1]; exact HO.out
  have hb1 : Below w.heap.size w w1 := by rw [← hw1]; exact hb
  clear hw1 HO hb
  go_loop [4] (fun i => ∃ k : Nat, k ≤ 14 ∧ i = .int .i64 k ∧ Hid (∀ j, j < k → (n : Int) ≠ pws.getD j 0)) (fun i => 14 - (intOf i).toNat)
  case atStart => exact ⟨0, by omega, rfl, fun j hj => by omega⟩
  case round =>
    obtain ⟨k, hk, rfl, HM⟩ := hrel
    by_cases hlt : k < 14
    · have hc := ho.cell k hlt
      have hv : (pws.map (Value.int .i64)).getD k undef = .int .i64 (pws.getD k 0) := by
        have : k < pws.length := hlt
        simp [List.getD, this]
      rw [Nat.zero_add, hv] at hc
      clear hv
      generalize hx : pws.getD k 0 = x at *
      by_cases he : x = (n : Int)
      · have he' : (x == (n : Int)) = true := by simpa using he
        go_wp2
        go_ret
        exact ⟨ret_int (by rw [pw_hit n k hlt (by rw [hx, he])]; rfl), hb1⟩
      · have he' : (x == (n : Int)) = false := by simpa using he
        go_wp2
        go_round
        case rel => exact ⟨k + 1, by omega, by go_num, fun j hj => by
          by_cases e : j = k
          · subst e; rw [hx]; exact fun h => he h.symm
          · exact HM.out j (by omega)⟩
        case measure => simp [intOf]; omega
    · go_wp2
      go_ret
      exact ⟨ret_int (by rw [pw_miss n (fun j hj => HM.out j (by omega))]; rfl), hb1⟩

set_option maxRecDepth 100000 in
set_option maxHeartbeats 1000000 in
theorem ref_bit (s : ByteArray) (i : Nat) (w : World) (hs : s.size ≤ maxLen) (hi : i < 8 * s.size) :
    Calls Try.prog 50 #[.string s, .int .i64 i] w fun e w' => e = .returned (.int .i64 (tb s.data.toList i : Nat)) ∧ w = w' := by
  unfold maxLen at hs
  have hq : i / 8 < s.size := by omega
  have hc := (s[i / 8]).toNat_lt
  have htb : tb s.data.toList i = s[i / 8].toNat / 2 ^ (i % 8) % 2 := by
    unfold tb
    rw [List.getElem?_eq_getElem (by simpa using hq)]
    rfl
  have HT := Lib.hid htb
  clear htb
  go_enter Try.func50, Try.ntmps50
  go_wp2
  go_loop [5, 6] (fun c j => ∃ k x : Nat, k ≤ i % 8 ∧ j = .int .i64 k ∧ c = .int .i64 x ∧ x < 256 ∧ Hid (x = s[i / 8].toNat / 2 ^ k)) (fun _ j => i % 8 - (intOf j).toNat)
  case atStart => exact ⟨0, s[i / 8].toNat, by omega, rfl, rfl, hc, by show _ = _; simp⟩
  case round =>
    obtain ⟨k, x, hk, rfl, rfl, hx, HX⟩ := hrel
    by_cases hlt : k < i % 8
    · have hlt' : (k : Int) < (i : Int) % 8 := by omega
      go_wp2
      go_round
      case rel => exact ⟨k + 1, x / 2, by omega, by go_num, by go_num, by omega, by show _ = _; rw [HX.out, Nat.pow_succ, Nat.div_div_eq_div_mul]⟩
      case measure => simp [intOf]; omega
    · have hlt' : ¬ (k : Int) < (i : Int) % 8 := by omega
      go_wp2
      go_ret
      refine ⟨ret_int ?_, rfl⟩
      rw [HT.out, show i % 8 = k by omega, ← HX.out]
      omega

set_option maxRecDepth 100000 in
set_option maxHeartbeats 400000 in
theorem ref_sum (s : ByteArray) (w : World) (hs : s.size ≤ 4096) :
    Calls Try.prog 44 #[.string s] w fun e w' => e = .returned (.int .u32 (PCrc.sum s.data.toList : Nat)) ∧ Below w.heap.size w w' := by
  obtain ⟨N, hN⟩ : ∃ N, 8 * s.size = N := ⟨_, rfl⟩
  have hmk := run_make_row' (P := Try.prog) 49 3 (.int .i64 0) 8 Try.underlying49 (by kernel_rfl) rfl .i64 .i64 (N + 32) (by omega) (by omega)
  have hmk' : ∀ w, (Instr.makeSlice 49 (.int .i64 ((N : Int) + 32)) (.int .i64 ((N : Int) + 32))).run Try.prog w = .ok (.slice (some ⟨w.heap.size, 0, none⟩) (N + 32) (N + 32)) (w.alloc (.cells (madeCells #[.int .i64 0] (N + 32)) 3)) := hmk
  have hown := Own.madeRow w (.int .i64 0) (N + 32) 3
  have hbel : Below w.heap.size w (w.alloc (.cells (madeCells #[.int .i64 0] (N + 32)) 3)) := (Below.refl _ _).alloc (Nat.le_refl _) _
  have HOWN := Lib.hid hown
  have HBEL := Lib.hid hbel
  have hNi : 8 * (s.size : Int) = (N : Int) := by omega
  have hN8 : N ≤ 32768 := by omega
  have hrow0 := fun j => row_start s.data.toList j
  have HR0 := Lib.hid hrow0
  have htb0 : ∀ j, N ≤ j → tb s.data.toList j = 0 := by
    intro j hj
    unfold tb
    rw [List.getElem?_eq_none (by simp; omega)]
    simp
  have HTB := Lib.hid htb0
  have hfin : fin (fun k => PCrc.row s.data.toList N (N + k)) 32 = PCrc.sum s.data.toList := by
    have h := fin_sum s.data.toList
    rw [show 8 * s.data.toList.length = N by simp; omega] at h
    exact h
  have HF := Lib.hid hfin
  clear hown hbel hmk hrow0 htb0 hfin
  generalize hl : s.data.toList = l at *
  have HL := Lib.hid hl
  clear hl
  go_enter Try.func44, Try.ntmps44
  go_wp2
  generalize hw1 : w.alloc _ = w1
  have ho1 : Own w1 w.heap.size 0 (N + 32) (fun x => Value.int .i64 0) := by rw [← hw1]; exact HOWN.out
  have hb1 : Below w.heap.size w w1 := by rw [← hw1]; exact HBEL.out
  clear hw1 HOWN HBEL hmk'
  go_loopw [5] (fun i wr => ∃ k : Nat, k ≤ N ∧ i = .int .i64 k ∧ Own wr w.heap.size 0 (N + 32) (fun j => if j < k then .int .i64 (tb l j : Nat) else .int .i64 0) ∧ Below w.heap.size w wr) (fun i _ => N - (intOf i).toNat)
  case atStart => exact ⟨0, by omega, rfl, ho1.congr (fun j hj => by simp), hb1⟩
  case round =>
    obtain ⟨k, hk, rfl, ho, hb⟩ := hrel
    clear ho1 hb1
    by_cases hlt : k < N
    · have hc := ho.cell k (by omega)
      have hf := ho.free k (by omega)
      have hlt2 := ho.lt
      have hset := ho.fill (by omega)
      have hbit := ref_bit s k wr (by unfold maxLen; omega) (by omega)
      rw [HL.out] at hbit
      rw [Nat.zero_add] at hc hf hset
      rw [if_neg (by omega)] at hc
      have HSET := Lib.hid hset
      have HB := Lib.hid hbit
      clear hset hbit
      go_wp2_with (first | (go_at_call 50; refine HB.out.mono ?_; rintro e w' ⟨rfl, rfl⟩))
      go_roundw
      case rel => exact ⟨k + 1, by omega, by go_num, HSET.out, hb.setCell (by simp) _⟩
      case measure => simp [intOf]; omega
    · have ho2 : Own wr w.heap.size 0 (N + 32) (fun j => .int .i64 (tb l j : Nat)) := ho.congr (fun j hj => by
        by_cases e : j < k
        · rw [if_pos e]
        · rw [if_neg e, HTB.out j (by omega)]; rfl)
      clear ho
      go_wp2
      go_loopw [6] (fun i wx => ∃ k : Nat, k ≤ 32 ∧ i = .int .i64 k ∧ Own wx w.heap.size 0 (N + 32) (fun j => if j < k then .int .i64 (PCrc.row l 0 j : Nat) else .int .i64 (tb l j : Nat)) ∧ Below w.heap.size w wx) (fun i _ => 32 - (intOf i).toNat)
      case atStart => exact ⟨0, by omega, rfl, ho2.congr (fun j hj => by simp), hb⟩
      case round =>
        obtain ⟨k, hk, rfl, ho, hb⟩ := hrel
        clear ho2
        by_cases hlt : k < 32
        · have hc := ho.cell k (by omega)
          have hf := ho.free k (by omega)
          have hlt2 := ho.lt
          have hset := ho.fill (by omega)
          have hsub : (1 : Int) - (tb l k : Nat) = (PCrc.row l 0 k : Nat) := by
            rw [HR0.out k, if_pos hlt]
            have := tb_lt l k
            omega
          rw [Nat.zero_add] at hc hf hset
          rw [if_neg (by omega)] at hc
          have HSET := Lib.hid hset
          clear hset
          go_wp2
          go_roundw
          case rel => exact ⟨k + 1, by omega, by go_num, HSET.out, hb.setCell (by simp) _⟩
          case measure => simp [intOf]; omega
        · have ho3 : Own _ w.heap.size 0 (N + 32) (fun j => .int .i64 (PCrc.row l 0 j : Nat)) := ho.congr (fun j hj => by
            by_cases e : j < k
            · rw [if_pos e]
            · rw [if_neg e, HR0.out j, if_neg (by omega)])
          clear ho
          go_wp2
          go_loopw [7, 8] (fun i m wx => ∃ (k : Nat) (f : Nat → Nat), k ≤ N ∧ i = .int .i64 k ∧ Own wx w.heap.size 0 (N + 32) (fun j => .int .i64 (f j : Nat)) ∧ Hid (∀ j, k ≤ j → f j = PCrc.row l k j) ∧ Below w.heap.size w wx) (fun i _ _ => N - (intOf i).toNat)
          case atStart => exact ⟨0, _, by omega, rfl, ho3, fun j hj => rfl, hb⟩
          case round =>
            obtain ⟨k, f, hk, rfl, ho, HFK, hb⟩ := hrel
            clear ho3
            by_cases hlt : k < N
            · have hc := ho.cell k (by omega)
              have hlt2 := ho.lt
              rw [Nat.zero_add] at hc
              have hfk := HFK.out k (Nat.le_refl _)
              have hr2 := row_lt l k k
              rcases (by omega : PCrc.row l k k = 1 ∨ PCrc.row l k k = 0) with h1 | h0
              · have HH1 := Lib.hid h1
                rw [hfk, h1] at hc
                clear hfk h1 hr2
                have hc' : wr.cell? ⟨w.heap.size, k, none⟩ = some (.int .i64 1) := hc
                clear hc
                go_wp2
                go_loopw [8] (fun i wx => ∃ (m : Nat) (f : Nat → Nat), 1 ≤ m ∧ m ≤ 33 ∧ i = .int .i64 m ∧ Own wx w.heap.size 0 (N + 32) (fun j => .int .i64 (f j : Nat)) ∧ Hid (∀ j, k < j → f j = if j < k + m then PCrc.row l (k + 1) j else PCrc.row l k j) ∧ Below w.heap.size w wx) (fun i _ => 33 - (intOf i).toNat)
                case atStart => exact ⟨1, f, by omega, by omega, rfl, ho, fun j hj => by rw [if_neg (by omega)]; exact HFK.out j (by omega), hb⟩
                case round =>
                  clear ho hb hc' HFK
                  obtain ⟨m, f, hm1, hm, rfl, ho, HFM, hb⟩ := hrel
                  by_cases hlm : m ≤ 32
                  · have hc := ho.cell (k + m) (by omega)
                    have hf := ho.free (k + m) (by omega)
                    have hlt3 := ho.lt
                    have hpw := fun w' => ref_pow (32 - (m : Int)) (32 - m) w' (by omega) (by omega)
                    have hx := HFM.out (k + m) (by omega)
                    rw [if_neg (by omega)] at hx
                    have hone := row_one l k m HH1.out hm1 hlm
                    have hr3 := row_lt l k (k + m)
                    have hp3 := pw_lt (32 - m)
                    have HO1 := Lib.hid hone
                    rw [Nat.zero_add] at hc hf
                    rw [hx] at hc
                    clear hone hx
                    have HPW := Lib.hid hpw
                    clear hpw
                    have hcx : wr.cell? ⟨w.heap.size, k + m, none⟩ = some (.int .i64 (PCrc.row l k (k + m) : Nat)) := hc
                    clear hc
                    generalize PCrc.row l k (k + m) = x at *
                    generalize hpe : PCrc.pw (32 - m) = pe at *
                    have hws : IntKind.i64.wrap ((k : Int) + (m : Int)) = (k : Int) + (m : Int) := by rw [IntKind.wrap_i64]; omega
                    have hws2 : IntKind.i64.wrap (32 - (m : Int)) = 32 - (m : Int) := by rw [IntKind.wrap_i64]; omega
                    have hws3 : IntKind.i64.wrap ((x : Int) + (pe : Int)) = (x : Int) + (pe : Int) := by rw [IntKind.wrap_i64]; omega
                    have hi1 : (k : Int) + (m : Int) < (N : Int) + 32 := by omega
                    have hi0 : 0 ≤ (k : Int) + (m : Int) := by omega
                    have hkm : k + m = ((k : Int) + (m : Int)).toNat := by omega
                    rw [hkm] at hcx hf
                    clear hkm
                    go_wp2
                    go_region_with (first | (go_at_call 51; refine (HPW.out _).mono ?_; rintro e w2 ⟨rfl, hb2⟩; have hcy := cell_on hb2 hcx hlt3; have hfy := free_on hb2 hf hlt3))
                    all_goals
                      have ho2 := (ho.drew.below hb2 hlt3).set (k + m) (by omega) (.int .i64 (PCrc.row l (k + 1) (k + m) : Nat))
                      have hv : ((x : Int) + (pe : Int)).tmod 2 = (PCrc.row l (k + 1) (k + m) : Nat) := by
                        rw [Int.tmod_eq_emod_of_nonneg (by omega), HO1.out]
                        omega
                      have hb3 : Below w.heap.size w w2 := hb.drew.trans (hb2.mono hb.size)
                      have ho3 : Own (w2.setCell ⟨w.heap.size, ((k : Int) + (m : Int)).toNat, none⟩ (.int .i64 (((x : Int) + (pe : Int)).tmod 2))) w.heap.size 0 (N + 32) (fun j => .int .i64 ((if j = k + m then PCrc.row l (k + 1) (k + m) else f j : Nat) : Int)) := by
                        rw [hv, show ((k : Int) + (m : Int)).toNat = k + m by omega]
                        rw [Nat.zero_add] at ho2
                        exact ho2.congr (fun j hj => by by_cases e : j = k + m <;> simp [e])
                      clear hv ho2 hcy hfy hcx hf hws hws2 hws3
                      go_wp2
                      go_roundw
                      case rel => exact ⟨m + 1, _, by omega, by omega, by go_num, ho3, fun j hj => by
                        by_cases e : j = k + m
                        · rw [if_pos e, e, if_pos (by omega)]
                        · rw [if_neg e, HFM.out j hj]
                          by_cases e2 : j < k + m
                          · rw [if_pos e2, if_pos (by omega)]
                          · rw [if_neg e2, if_neg (by omega)], hb3.setCell (by simp) _⟩
                      case measure => simp [intOf]; omega
                  · obtain rfl : m = 33 := by omega
                    go_wp2
                    go_roundw
                    case rel => exact ⟨k + 1, f, by omega, by go_num, ho, fun j hj => by
                      rw [HFM.out j (by omega)]
                      by_cases e : j < k + 33
                      · rw [if_pos e]
                      · rw [if_neg e, row_one_far l k j (by omega)], hb⟩
                    case measure => simp [intOf]; omega
              · have HH0 := Lib.hid h0
                rw [hfk, h0] at hc
                clear hfk h0 hr2
                have hc' : wr.cell? ⟨w.heap.size, k, none⟩ = some (.int .i64 0) := hc
                clear hc
                go_wp2
                go_roundw
                case rel => exact ⟨k + 1, f, by omega, by go_num, ho, fun j hj => by rw [HFK.out j (by omega), row_zero l k j HH0.out (by omega)], hb⟩
                case measure => simp [intOf]; omega
            · obtain rfl : k = N := by omega
              have ho4 : Own wr w.heap.size 0 (k + 32) (fun j => .int .i64 (f j : Nat)) := ho
              have HF2 : Hid (∀ j, k ≤ j → f j = PCrc.row l k j) := HFK
              clear ho HFK
              go_wp2
              go_loop [9, 10] (fun o i => ∃ (m : Nat) (q : Int), m ≤ 32 ∧ q + m = 31 ∧ i = .int .i64 q ∧ o = .int .u32 (fin (fun j => PCrc.row l k (k + j)) m : Nat)) (fun _ i => (intOf i + 1).toNat)
              case atStart => exact ⟨0, 31, by omega, by omega, rfl, rfl⟩
              case round =>
                obtain ⟨m, q, hm, hq, rfl, rfl⟩ := hrel
                by_cases h0 : 0 ≤ q
                · obtain ⟨p, rfl⟩ := Int.eq_ofNat_of_zero_le h0
                  have hp : p = 31 - m := by omega
                  have hc := ho4.cell (k + p) (by omega)
                  have hlt3 := ho4.lt
                  rw [Nat.zero_add, HF2.out (k + p) (by omega)] at hc
                  have hr2 := row_lt l k (k + p)
                  have hfl := fin_lt (fun j => PCrc.row l k (k + j)) m
                  have hpow : 2 ^ m ≤ 2 ^ 31 := Nat.pow_le_pow_right (by omega) (by omega)
                  have hnext : fin (fun j => PCrc.row l k (k + j)) (m + 1) = fin (fun j => PCrc.row l k (k + j)) m * 2 + (1 - PCrc.row l k (k + p)) := by rw [fin, hp]
                  have HN := Lib.hid hnext
                  clear hnext hp
                  have hfl2 : fin (fun j => PCrc.row l k (k + j)) m < 2147483648 := by omega
                  clear hfl hpow
                  generalize fin (fun j => PCrc.row l k (k + j)) m = a at *
                  generalize PCrc.row l k (k + p) = x at *
                  go_wp2
                  go_round
                  case rel => exact ⟨m + 1, (p : Int) - 1, by omega, by omega, rfl, by rw [HN.out]; try go_num⟩
                  case measure => simp [intOf] <;> omega
                · have hm32 : m = 32 := by omega
                  go_wp2
                  go_ret
                  refine ⟨ret_int ?_, hb⟩
                  rw [HF.out]
end Go.Proofs.Ytfgmbmpbgokolaa
