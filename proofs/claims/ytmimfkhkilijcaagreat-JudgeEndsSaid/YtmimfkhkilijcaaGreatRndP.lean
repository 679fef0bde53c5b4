/- Rounds of polls, as choices. -/
import Derived.Test.YtmimfkhkilijcaaGreatKJuP
import Derived.Test.YtmimfkhkilijcaaGreatKSp25
namespace Go.Proofs.YtmimfkhkilijcaaGreat
set_option maxRecDepth 4000
open Go.ChangeShapes Go.WideShapes Go.ChangeAt Go.RowKit
open PHist PRing PSat PClamp PBound PFrame PSign PTree PEv
set_option linter.unusedVariables false
set_option linter.unusedSimpArgs false

def polls (P n : Nat) : List (Bool × Int) := (List.range n).map fun (k : Nat) => (false, ((k % P : Nat) : Int))
theorem rnd_polls (P : Nat) : ∀ n, rnd P n = (polls P n).flatMap chc
  | 0 => rfl
  | n + 1 => by
    show rnd P n ++ _ = _
    rw [rnd_polls P n]
    unfold polls
    rw [List.range_succ, List.map_append, List.flatMap_append]
    rfl
theorem polls_rounds (P : Nat) : ∀ R, polls P (R * P) = rounds P R
  | 0 => by rw [Nat.zero_mul]; rfl
  | R + 1 => by
    have e : (R + 1) * P = P + R * P := by rw [Nat.succ_mul, Nat.add_comm]
    unfold polls
    rw [e, List.range_add, List.map_append, List.map_map]
    show _ = oneRound P ++ rounds P R
    congr 1
    · refine List.map_congr_left fun k hk => ?_
      rw [Nat.mod_eq_of_lt (List.mem_range.1 hk)]
    · rw [← polls_rounds P R]
      refine List.map_congr_left fun k hk => ?_
      show (false, (((P + k) % P : Nat) : Int)) = _
      rw [Nat.add_mod_left]
theorem rounds_len (P R : Nat) : (rounds P R).length = R * P := by
  rw [← polls_rounds]; simp [polls]
theorem rounds_in (P R : Nat) (hP : P ≤ 100) : ∀ x ∈ rounds P R, in64 x.2 := by
  intro x hx
  rw [← polls_rounds] at hx
  obtain ⟨k, hk, rfl⟩ := List.mem_map.1 hx
  have h1 := List.mem_range.1 hk
  have hP0 : 0 < P := by
    rcases Nat.eq_zero_or_pos P with e | e
    · subst e; omega
    · exact e
  have := Nat.mod_lt k hP0
  show in64 (((k % P : Nat)) : Int)
  unfold in64
  omega
def RoundP25 (P R : Nat) (w : World) (e : Ending) (w' : World) : Prop := ∃ a c, e = .returned (.slice a (R * P) c) ∧ Sl w.heap.size w' 2 (.slice a (R * P) c) (R * P) ((rounds P R).flatMap chc) ∧ Below w.heap.size w w'
theorem ch_round25 (P R : Nat) (hP2 : P ≤ 100) (hR2 : R ≤ 4000) (h : (1 ≤ P ∧ 1 ≤ R) ∨ (P = 0 ∧ R = 0)) (w : World) :
    Calls Tryz.prog 22 #[.int .i64 (P : Int), .int .i64 (R : Int)] w (RoundP25 P R w) := by
  rcases h with ⟨h1, h2⟩ | ⟨rfl, rfl⟩
  · refine (ch_round P R h1 hP2 h2 hR2 w).mono fun e w' k => ?_
    obtain ⟨v, rfl, q1, q2⟩ := k
    rw [rnd_polls, polls_rounds] at q1
    obtain ⟨a, c, rfl⟩ := q1.shape
    exact ⟨a, c, rfl, q1, q2⟩
  · refine (ch_round_none 0 0 w (by omega) (by omega) (by omega)).mono fun e w' k => ?_
    obtain ⟨rfl, q2⟩ := k
    exact ⟨none, 0, rfl, Sl.nil _ _ _, q2⟩
theorem recsIn_take {ls : List (List UInt8)} (k : Nat) (hk : k < ls.length) : recsIn (ls.take (k + 1)) = recsIn (ls.take k) + (parse ls[k]).1.length := by
  unfold recsIn
  rw [List.take_succ_eq_append_getElem hk, List.map_append, List.sum_append]
  simp
end Go.Proofs.YtmimfkhkilijcaaGreat
