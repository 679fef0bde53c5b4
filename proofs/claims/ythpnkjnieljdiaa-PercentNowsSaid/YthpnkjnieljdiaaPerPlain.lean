/- Plain facts on lags, and on how far time has come by them. -/
import Derived.Test.YthpnkjnieljdiaaPer2
namespace Go.Proofs.Ythpnkjnieljdiaa
open PHist PRing PSat PClamp PBound
set_option linter.unusedVariables false

/-- By how much each is behind the latest of those up to it. -/
def lagsOf (M : Int) : List Int → List Int
  | [] => []
  | t :: l => sub (if M < t then t else M) t :: lagsOf (if M < t then t else M) l
theorem lagsOf_len : ∀ (l : List Int) (M : Int), (lagsOf M l).length = l.length
  | [], _ => rfl
  | t :: l, M => by show (lagsOf _ l).length + 1 = l.length + 1; rw [lagsOf_len l]
theorem lagsOf_snoc : ∀ (l : List Int) (M x : Int), lagsOf M (l ++ [x]) = lagsOf M l ++ [sub (most M (l ++ [x])) x]
  | [], _, _ => rfl
  | t :: l, M, x => by show _ :: lagsOf _ (l ++ [x]) = _; rw [lagsOf_snoc l]; rfl
theorem lagsOf_in : ∀ (l : List Int) (M : Int), ∀ x ∈ lagsOf M l, -9223372036854775808 ≤ x ∧ x ≤ 9223372036854775807
  | t :: l, M, x, h => by
    rcases List.mem_cons.1 h with rfl | h
    · exact sub_in _ _
    · exact lagsOf_in l _ x h
theorem lagsOf_pos : ∀ (l : List Int) (M : Int), ∀ x ∈ lagsOf M l, 0 ≤ x
  | t :: l, M, x, h => by
    rcases List.mem_cons.1 h with rfl | h
    · unfold sub clampI; (repeat' split) <;> omega
    · exact lagsOf_pos l _ x h
/-- The lags of all. -/
def lagsAll (l : List Int) : List Int := lagsOf (-9223372036854775808) l
theorem lagsAll_len (l : List Int) : (lagsAll l).length = l.length := lagsOf_len l _
theorem lagsAll_next (l : List Int) (k : Nat) (h : k < l.length) : lagsAll (l.take (k + 1)) = lagsAll (l.take k) ++ [sub (most (-9223372036854775808) (l.take (k + 1))) l[k]] := by
  unfold lagsAll
  rw [List.take_succ_eq_append_getElem h, lagsOf_snoc]
/-- The lags of the last ones. -/
def kept (w : Nat) (l : List Int) : List Int := last w (lagsAll l)
theorem kept_next (w : Nat) (h1 : 1 ≤ w) (l : List Int) (k : Nat) (h : k < l.length) : push w (kept w (l.take k)) (sub (most (-9223372036854775808) (l.take (k + 1))) l[k]) = kept w (l.take (k + 1)) := by
  unfold kept
  rw [last_push w h1, lagsAll_next l k h]
theorem kept_mem {w : Nat} {l : List Int} {x : Int} (h : x ∈ kept w l) : x ∈ lagsAll l := List.mem_of_mem_drop h
theorem kept_in (w : Nat) (l : List Int) : ∀ x ∈ kept w l, -9223372036854775808 ≤ x ∧ x ≤ 9223372036854775807 := fun x hx => lagsOf_in l _ x (kept_mem hx)
theorem kept_pos (w : Nat) (l : List Int) : ∀ x ∈ kept w l, 0 ≤ x := fun x hx => lagsOf_pos l _ x (kept_mem hx)
theorem kept_len (w : Nat) (l : List Int) : (kept w l).length ≤ l.length := by unfold kept; rw [last_len, lagsAll_len]; omega
/-- How far time has come behind the first k. -/
def nowTo (p w : Nat) (l : List Int) : Nat → Int
  | 0 => -9223372036854775808
  | k + 1 => if nowTo p w l k < after (most (-9223372036854775808) (l.take (k + 1))) (pick (kept w (l.take (k + 1))) p) then after (most (-9223372036854775808) (l.take (k + 1))) (pick (kept w (l.take (k + 1))) p) else nowTo p w l k
theorem nowTo_take (p w : Nat) (l : List Int) (j : Nat) : ∀ k, k ≤ j → nowTo p w (l.take j) k = nowTo p w l k
  | 0, _ => rfl
  | k + 1, h => by
    unfold nowTo
    rw [nowTo_take p w l j k (by omega), List.take_take, show min (k + 1) j = k + 1 by omega]
theorem nowTo_in (p w : Nat) (l : List Int) : ∀ k, -9223372036854775808 ≤ nowTo p w l k ∧ nowTo p w l k ≤ 9223372036854775807
  | 0 => by unfold nowTo; omega
  | k + 1 => by
    have h1 := nowTo_in p w l k
    have h2 := after_in (most (-9223372036854775808) (l.take (k + 1))) (pick (kept w (l.take (k + 1))) p)
    unfold inR at h2
    unfold nowTo
    split <;> omega
/-- What is looked for by a row's ranks is the lag that counts. -/
theorem pick_least (L : List Int) (p : Nat) : (least (fun x => decide (p * L.length ≤ cnt L x * 100)) L).1 = pick L p := by
  rw [percent_rank]
  unfold pick
  split
  · rename_i h; rw [List.getElem?_eq_getElem h]; rfl
  · rename_i h; rw [List.getElem?_eq_none (by omega)]; rfl
theorem pick_in {L : List Int} {p : Nat} (h : ∀ x ∈ L, -9223372036854775808 ≤ x ∧ x ≤ 9223372036854775807) : -9223372036854775808 ≤ pick L p ∧ pick L p ≤ 9223372036854775807 := by
  unfold pick
  cases hq : (srt L)[prank L.length p - 1]? with
  | none => simp
  | some z => exact h z ((srt_mem z L).1 (List.mem_of_getElem? hq))
theorem pick_pos {L : List Int} {p : Nat} (h : ∀ x ∈ L, 0 ≤ x) : 0 ≤ pick L p := by
  unfold pick
  cases hq : (srt L)[prank L.length p - 1]? with
  | none => simp
  | some z => exact h z ((srt_mem z L).1 (List.mem_of_getElem? hq))
theorem pick_zero {L : List Int} {p : Nat} (h : ∀ x ∈ L, x = 0) : pick L p = 0 := by
  unfold pick
  cases hq : (srt L)[prank L.length p - 1]? with
  | none => rfl
  | some z => exact h z ((srt_mem z L).1 (List.mem_of_getElem? hq))
/-- Fewer of a hundred: no greater a lag. -/
theorem pick_mono (L : List Int) {p q : Nat} (h : p ≤ q) (hq : q ≤ 100) : pick L p ≤ pick L q := by
  by_cases h0 : L.length = 0
  · have : L = [] := List.eq_nil_of_length_eq_zero h0
    subst this
    simp [pick, srt]
  · have hl := srt_len L
    have h1 := prank_lt L.length q hq (by omega)
    have h2 : prank L.length p ≤ prank L.length q := by
      unfold prank
      have : p * L.length ≤ q * L.length := Nat.mul_le_mul_right _ h
      have : (p * L.length + 99) / 100 ≤ (q * L.length + 99) / 100 := Nat.div_le_div_right (by omega)
      omega
    unfold pick
    rw [List.getElem?_eq_getElem (by omega), List.getElem?_eq_getElem (by omega)]
    exact sorted_le (srt_sorted L) _ _ (by omega) (by omega)
theorem after_anti (m : Int) {b b' : Int} (h : b ≤ b') : after m b' ≤ after m b := sub_mono 1 (sub_anti m h)
end Go.Proofs.Ythpnkjnieljdiaa
