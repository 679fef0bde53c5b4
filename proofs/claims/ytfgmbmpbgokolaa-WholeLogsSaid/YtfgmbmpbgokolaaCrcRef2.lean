/- The document's own seal; the laws' first question; sums that are known. -/
import Derived.Test.YtfgmbmpbgokolaaCrcRef
import Derived.Test.YtfgmbmpbgokolaaCrcMore
namespace Go.Proofs.Ytfgmbmpbgokolaa
open Go.ChangeShapes Go.WideShapes Go.ChangeAt Go.RowKit
open PCrc
set_option linter.unusedVariables false

set_option maxRecDepth 100000 in
set_option maxHeartbeats 1000000 in
theorem ref_seal (s : ByteArray) (w : World) (hs : s.size ≤ 4096) :
    Calls Try.prog 32 #[.string s] w fun e w' => e = .returned (.string (bstr (sld s.data.toList))) ∧ Below w.heap.size w w' := by
  have hsum := ref_sum s w hs
  have hn0 := sum_lt s.data.toList
  have hfin : s ++ bstr (four (PCrc.sum s.data.toList)) = bstr (sld s.data.toList) := bstr_cat s _
  generalize PCrc.sum s.data.toList = n0 at *
  have HS := Lib.hid hsum
  have HF := Lib.hid hfin
  clear hsum hfin
  have hmk := fun w => run_make_row' (P := Try.prog) 38 5 (.int .u8 0) 1 Try.underlying38 (by kernel_rfl) rfl .i64 .i64 4 (by omega) (by omega) w
  have hmk' : ∀ w, (Instr.makeSlice 38 (.int .i64 4) (.int .i64 4)).run Try.prog w = .ok (.slice (some ⟨w.heap.size, 0, none⟩) 4 4) (w.alloc (.cells (madeCells #[.int .u8 0] 4) 5)) := hmk
  clear hmk
  go_enter Try.func32, Try.ntmps32
  go_wp2_with (first | (go_at_call 44; refine HS.out.mono ?_; rintro e w1 ⟨rfl, hb⟩))
  clear HS
  have hown := Own.madeRow w1 (.int .u8 0) 4 5
  have hbel : Below w.heap.size w (w1.alloc (.cells (madeCells #[.int .u8 0] 4) 5)) := hb.alloc hb.size _
  have hlt := hb.size
  generalize hw2 : w1.alloc _ = w2 at *
  clear hw2 hmk' hb
  go_loopw [3, 5] (fun x i wx => ∃ (m a : Nat) (q : Int), m ≤ 4 ∧ q + m = 3 ∧ i = .int .i64 q ∧ x = .int .u32 a ∧ a ≤ n0 ∧ Hid (a = n0 / 256 ^ m) ∧ Own wx w1.heap.size 0 4 (fun j => if 3 < j + m then .int .u8 (n0 / 256 ^ (3 - j) % 256 : Nat) else .int .u8 0) ∧ Below w.heap.size w wx) (fun _ i _ => (intOf i + 1).toNat)
  case atStart => exact ⟨0, n0, 3, by omega, by omega, rfl, rfl, Nat.le_refl _, (by show _ = _; simp), hown.congr (fun j hj => by rw [if_neg (by omega)]), hbel⟩
  case round =>
    clear hown hbel
    obtain ⟨m, a, q, hm, hq, rfl, rfl, han, HA, ho, hb⟩ := hrel
    by_cases h0 : 0 ≤ q
    · obtain ⟨p, rfl⟩ := Int.eq_ofNat_of_zero_le h0
      have hp : 3 - p = m := by omega
      have hc := ho.cell p (by omega)
      have hf := ho.free p (by omega)
      have hset := ho.set p (by omega) (.int .u8 (a % 256 : Nat))
      have hlt3 := ho.lt
      rw [Nat.zero_add] at hc hf hset
      rw [if_neg (by omega)] at hc
      have HSET := Lib.hid hset
      have HP := Lib.hid hp
      clear hset hp
      go_wp2
      go_roundw
      case rel => exact ⟨m + 1, a / 256, (p : Int) - 1, by omega, by omega, by go_num, by go_num, by omega, (by show _ = _; rw [HA.out, Nat.pow_succ, Nat.div_div_eq_div_mul]), HSET.out.congr (fun j hj => by
        show (if j = p then _ else _) = _
        by_cases e : j = p
        · rw [if_pos e, if_pos (by omega), e, HP.out, HA.out]
        · rw [if_neg e]
          by_cases e2 : 3 < j + m
          · rw [if_pos e2, if_pos (by omega)]
          · rw [if_neg e2, if_neg (by omega)]), hb.setCell (by simp; omega) _⟩
      case measure => simp [intOf] <;> omega
    · have hm4 : m = 4 := by omega
      have kc := own_string (P := Try.prog) ho (four n0) (by rw [four_len]; omega) (fun j hj => by
        rw [if_pos (by omega)]
        rw [four_len] at hj
        match j, hj with
        | 0, _ => simp [four]
        | 1, _ => simp [four]
        | 2, _ => simp [four]
        | 3, _ => simp [four]) 4 38 9 5 Try.underlying38 Try.underlying5 Try.underlying9
      rw [four_len] at kc
      have h4 := four_len n0
      go_wp2
      go_ret
      exact ⟨by rw [HF.out]; rfl, hb⟩

end Go.Proofs.Ytfgmbmpbgokolaa
