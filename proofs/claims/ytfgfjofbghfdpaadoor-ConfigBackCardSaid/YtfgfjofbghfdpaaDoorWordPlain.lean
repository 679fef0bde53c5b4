/- Plain facts: numbers, rules and sources in words, and read again. -/
import Derived.Test.YtfgfjofbghfdpaaDoorRulPlain
import Derived.Lib.AtoiAll
import Derived.Lib.AtoiAllCases
import Derived.Lib.ItoaNum
import Derived.Lib.ItoaLen
import Derived.Lib.ItoaMem
import Derived.Lib.Split
import Derived.Lib.SplitLaws
import Derived.Lib.IndexBytes
namespace Go.Proofs.YtfgfjofbghfdpaaDoor.PWord
open Go.Lib
open Go.Proofs.YtfgfjofbghfdpaaDoor
set_option linter.unusedVariables false

/-! ### Numbers -/

theorem digit_val {d : Nat} (h : d < 10) : (UInt8.ofNat (48 + d)).toNat = 48 + d := by
  rw [UInt8.toNat_ofNat']
  omega
theorem dec_digit (u : Nat) : ∀ c ∈ decDigits u, 48 ≤ c.toNat ∧ c.toNat ≤ 57 := by
  induction u using Nat.strongRecOn with
  | _ u ih =>
    intro c hc
    rw [decDigits] at hc
    split at hc
    · rename_i h
      rw [List.mem_singleton] at hc
      subst hc
      rw [digit_val h]
      omega
    · rename_i h
      rcases List.mem_append.1 hc with hc | hc
      · exact ih (u / 10) (by omega) c hc
      · rw [List.mem_singleton] at hc
        subst hc
        rw [digit_val (by omega)]
        omega
theorem dec_ne (u : Nat) : decDigits u ≠ [] := by
  rw [decDigits]
  split <;> simp
theorem parse_snoc : ∀ (l : List UInt8) (acc m d : Nat), parseUint10 acc l = .ok m → d < 10 → m * 10 + d < 18446744073709551616 → parseUint10 acc (l ++ [UInt8.ofNat (48 + d)]) = .ok (m * 10 + d)
  | [], acc, m, d, h, hd, hm => by
    have e : acc = m := by simpa [parseUint10] using h
    subst e
    show parseUint10 acc [UInt8.ofNat (48 + d)] = _
    unfold parseUint10
    rw [digit_val hd, if_pos (by omega), if_neg (by omega), if_neg (by omega)]
    unfold parseUint10
    congr 1
    omega
  | c :: r, acc, m, d, h, hd, hm => by
    show parseUint10 acc (c :: (r ++ [UInt8.ofNat (48 + d)])) = _
    unfold parseUint10 at h ⊢
    split at h
    · rename_i h1
      rw [if_pos h1]
      split at h
      · cases h
      · rename_i h2
        rw [if_neg h2]
        split at h
        · cases h
        · rename_i h3
          rw [if_neg h3]
          exact parse_snoc r _ m d h hd hm
    · cases h
theorem parse_dec (u : Nat) (hu : u < 18446744073709551616) : parseUint10 0 (decDigits u) = .ok u := by
  induction u using Nat.strongRecOn with
  | _ u ih =>
    rw [decDigits]
    split
    · rename_i h
      have := parse_snoc [] 0 0 u rfl h (by omega)
      simpa using this
    · rename_i h
      have := parse_snoc _ 0 (u / 10) (u % 10) (ih (u / 10) (by omega) (by omega)) (by omega) (by omega)
      rw [this]
      congr 1
      omega
theorem mag_dec (u : Nat) (hu : u < 18446744073709551616) : parseMag (decDigits u) = .ok u := by
  unfold parseMag
  rw [if_neg (dec_ne u), parse_dec u hu]

/-- Whatever number: its digits are read as it. -/
theorem atoi_itoa (n : Int) (h : in64 n) : atoiAll (itoa n) = .ok n := by
  obtain ⟨h0, h1⟩ := h
  unfold itoa
  by_cases hn : n < 0
  · rw [if_pos hn, atoiAll_minus, mag_dec n.natAbs (by omega)]
    unfold signed
    simp only
    rw [if_neg (by omega)]
    congr 1
    omega
  · rw [if_neg hn]
    obtain ⟨c, r, hc⟩ : ∃ c r, decDigits n.toNat = c :: r := by
      cases h : decDigits n.toNat with
      | nil => exact absurd h (dec_ne _)
      | cons c r => exact ⟨c, r, rfl⟩
    have hd := dec_digit n.toNat c (by rw [hc]; simp)
    have hm := mag_dec n.toNat (by omega)
    rw [hc] at hm ⊢
    rw [atoiAll_plain c r (by omega) (by omega), hm]
    unfold signless
    simp only
    rw [if_neg (by omega)]
    congr 1
    omega

/-- The number that a word is; none, if it is none. -/
def numOf (l : List UInt8) : Option Int :=
  match atoiAll l with
  | .ok n => if itoa n = l then some n else none
  | _ => none
theorem numOf_itoa (n : Int) (h : in64 n) : numOf (itoa n) = some n := by
  unfold numOf
  rw [atoi_itoa n h]
  simp
theorem numOf_some {l : List UInt8} {n : Int} (h : numOf l = some n) : itoa n = l ∧ in64 n := by
  unfold numOf at h
  split at h
  · rename_i m hm
    split at h
    · rename_i he
      cases h
      exact ⟨he, atoiAll_bounds hm⟩
    · cases h
  · cases h
theorem numOf_iff {l : List UInt8} {n : Int} : numOf l = some n ↔ itoa n = l ∧ in64 n :=
  ⟨numOf_some, fun ⟨h1, h2⟩ => by rw [← h1]; exact numOf_itoa n h2⟩
theorem itoa_char (n : Int) : ∀ c ∈ itoa n, c.toNat = 45 ∨ (48 ≤ c.toNat ∧ c.toNat ≤ 57) := by
  intro c hc
  unfold itoa at hc
  split at hc
  · rcases List.mem_cons.1 hc with rfl | hc
    · exact .inl rfl
    · exact .inr (dec_digit _ _ hc)
  · exact .inr (dec_digit _ _ hc)
theorem itoa_32 (n : Int) : (32 : UInt8) ∉ itoa n := fun h => by have := itoa_char n _ h; revert this; decide
theorem itoa_10 (n : Int) : (10 : UInt8) ∉ itoa n := fun h => by have := itoa_char n _ h; revert this; decide
theorem itoa_len {n : Int} (h : in64 n) : (itoa n).length ≤ 21 := itoa_length_le n h.1 h.2
theorem itoa_inj {a b : Int} (ha : in64 a) (hb : in64 b) (h : itoa a = itoa b) : a = b := by
  have := numOf_itoa a ha
  rw [h, numOf_itoa b hb] at this
  exact (Option.some.inj this).symm

/-- The numbers that words are; none, if one is none. -/
def nums : List (List UInt8) → Option (List Int)
  | [] => some []
  | w :: ws => match numOf w with
    | none => none
    | some n => (nums ws).map (n :: ·)
theorem nums_cons (w : List UInt8) (ws : List (List UInt8)) : nums (w :: ws) = match numOf w with
    | none => none
    | some n => (nums ws).map (n :: ·) := rfl
theorem nums_some : ∀ {ws : List (List UInt8)} {l : List Int}, nums ws = some l → ws = l.map itoa ∧ ∀ n ∈ l, in64 n
  | [], l, h => by cases h; exact ⟨rfl, by simp⟩
  | w :: ws, l, h => by
    unfold nums at h
    split at h
    · cases h
    · rename_i n hn
      obtain ⟨r, hr, rfl⟩ := Option.map_eq_some_iff.1 h
      obtain ⟨e, hb⟩ := nums_some hr
      obtain ⟨e1, h1⟩ := numOf_some hn
      refine ⟨by simp [← e, e1], fun m hm => ?_⟩
      rcases List.mem_cons.1 hm with rfl | hm
      · exact h1
      · exact hb m hm
theorem nums_map : ∀ (l : List Int), (∀ n ∈ l, in64 n) → nums (l.map itoa) = some l
  | [], _ => rfl
  | n :: l, h => by
    show nums (itoa n :: l.map itoa) = _
    unfold nums
    rw [numOf_itoa n (h n (by simp))]
    simp [nums_map l (fun m hm => h m (by simp [hm]))]
theorem nums_take {ws : List (List UInt8)} {l : List Int} (h : nums ws = some l) (k : Nat) : nums (ws.take k) = some (l.take k) := by
  obtain ⟨e, hb⟩ := nums_some h
  rw [e, ← List.map_take]
  exact nums_map _ (fun n hn => hb n (List.mem_of_mem_take hn))
theorem nums_append : ∀ (a b : List (List UInt8)), nums (a ++ b) = (nums a).bind fun x => (nums b).map (x ++ ·)
  | [], b => by simp [nums]
  | w :: a, b => by
    rw [List.cons_append, nums_cons, nums_cons]
    cases h : numOf w with
    | none => rfl
    | some n =>
      simp only
      rw [nums_append a b]
      cases nums a with
      | none => rfl
      | some x => cases nums b with
        | none => rfl
        | some y => rfl

/-! ### Words -/

theorem index_in (c : UInt8) : ∀ (a b : List UInt8), c ∉ a → index (a ++ c :: b) [c] = a.length
  | [], b, _ => by
    rw [index_one]
    show indexByte (c :: b) c = _
    unfold indexByte
    simp
  | x :: a, b, h => by
    have hx : x ≠ c := fun e => h (by simp [e])
    have ha : c ∉ a := fun e => h (by simp [e])
    have ih := index_in c a b ha
    rw [index_one] at ih ⊢
    show indexByte (x :: (a ++ c :: b)) c = _
    unfold indexByte
    rw [ih]
    have e1 : (x == c) = false := by simpa using hx
    have e2 : ((a.length : Int) == -1) = false := by simp
    rw [e1, e2]
    simp
theorem index_out (c : UInt8) : ∀ (a : List UInt8), c ∉ a → index a [c] = -1
  | [], _ => by rw [index_one]; rfl
  | x :: a, h => by
    have hx : x ≠ c := fun e => h (by simp [e])
    have ha : c ∉ a := fun e => h (by simp [e])
    have ih := index_out c a ha
    rw [index_one] at ih ⊢
    unfold indexByte
    rw [ih]
    have e1 : (x == c) = false := by simpa using hx
    rw [e1]
    simp
theorem part_at (c : UInt8) : ∀ (l : List UInt8), c ∈ l → ∃ a b, l = a ++ c :: b ∧ c ∉ a
  | [], h => by cases h
  | x :: l, h => by
    by_cases e : x = c
    · exact ⟨[], l, by simp [e], by simp⟩
    · have hl : c ∈ l := by
        rcases List.mem_cons.1 h with h | h
        · exact absurd h.symm e
        · exact h
      obtain ⟨a, b, rfl, ha⟩ := part_at c l hl
      refine ⟨x :: a, b, rfl, fun hm => ?_⟩
      rcases List.mem_cons.1 hm with hm | hm
      · exact e hm.symm
      · exact ha hm

/-- A text, cut at the first k of a sign. -/
abbrev cuts (c : UInt8) (k : Nat) (l : List UInt8) : List (List UInt8) := splitK [c] 0 k l
theorem cuts_none (c : UInt8) (k : Nat) (a : List UInt8) (h : c ∉ a) : cuts c k a = [a] := by
  cases k with
  | zero => rfl
  | succ k =>
    show splitK [c] 0 (k + 1) a = _
    unfold splitK
    rw [index_out c a h]
    rfl
theorem cuts_succ (c : UInt8) (k : Nat) (l : List UInt8) : cuts c (k + 1) l = if index l [c] == -1 then [l] else l.take ((index l [c]).toNat + 0) :: cuts c k (l.drop ((index l [c]).toNat + [c].length)) := rfl
theorem cuts_some (c : UInt8) (k : Nat) (a b : List UInt8) (h : c ∉ a) : cuts c (k + 1) (a ++ c :: b) = a :: cuts c k b := by
  rw [cuts_succ, index_in c a b h]
  have e : ((a.length : Int) == -1) = false := by simp
  rw [e]
  have e1 : (a ++ c :: b).take ((a.length : Int).toNat + 0) = a := by simp
  have e2 : (a ++ c :: b).drop ((a.length : Int).toNat + [c].length) = b := by
    rw [show ((a.length : Int).toNat + [c].length) = a.length + 1 by simp, ← List.drop_drop, List.drop_left]
    rfl
  rw [e1, e2]
  rfl
theorem cuts_enough (c : UInt8) : ∀ (k : Nat) (l : List UInt8), l.length ≤ k → ∀ j, k ≤ j → cuts c j l = cuts c k l := by
  intro k
  induction k with
  | zero =>
    intro l h j hj
    have : l = [] := List.eq_nil_of_length_eq_zero (by omega)
    subst this
    rw [cuts_none c j [] (by simp), cuts_none c 0 [] (by simp)]
  | succ k ih =>
    intro l h j hj
    obtain ⟨j, rfl⟩ : ∃ i, j = i + 1 := ⟨j - 1, by omega⟩
    by_cases hc : c ∈ l
    · obtain ⟨a, b, rfl, ha⟩ := part_at c l hc
      rw [cuts_some c _ a b ha, cuts_some c _ a b ha, ih b (by simp at h; omega) j (by omega)]
    · rw [cuts_none c _ l hc, cuts_none c _ l hc]
theorem cuts_min (c : UInt8) (k : Nat) (l : List UInt8) : cuts c (min k l.length) l = cuts c k l := by
  by_cases h : k ≤ l.length
  · rw [Nat.min_eq_left h]
  · rw [Nat.min_eq_right (by omega), cuts_enough c l.length l (Nat.le_refl _) k (by omega)]
theorem cuts_ne (c : UInt8) (k : Nat) (l : List UInt8) : cuts c k l ≠ [] := by
  by_cases hc : c ∈ l
  · obtain ⟨a, b, rfl, ha⟩ := part_at c l hc
    cases k with
    | zero => show [_] ≠ []; simp
    | succ k => rw [cuts_some c k a b ha]; simp
  · rw [cuts_none c k l hc]; simp

/-- Words, with a sign between each two. -/
def glue (c : UInt8) : List (List UInt8) → List UInt8
  | [] => []
  | [x] => x
  | x :: y :: r => x ++ c :: glue c (y :: r)
theorem glue_cons (c : UInt8) (x y : List UInt8) (r : List (List UInt8)) : glue c (x :: y :: r) = x ++ c :: glue c (y :: r) := rfl
theorem cuts_glue (c : UInt8) : ∀ (ws : List (List UInt8)) (k : Nat), (∀ x ∈ ws, c ∉ x) → ws ≠ [] → ws.length ≤ k + 1 → cuts c k (glue c ws) = ws
  | [], _, _, h, _ => absurd rfl h
  | [x], k, h, _, _ => cuts_none c k x (h x (by simp))
  | x :: y :: r, k, h, _, hk => by
    obtain ⟨k, rfl⟩ : ∃ i, k = i + 1 := ⟨k - 1, by simp at hk; omega⟩
    rw [glue_cons, cuts_some c k _ _ (h x (by simp)), cuts_glue c (y :: r) k (fun z hz => h z (by simp only [List.mem_cons] at hz ⊢; exact .inr hz)) (by simp) (by simp at hk ⊢; omega)]
theorem glue_cuts (c : UInt8) : ∀ (k : Nat) (l : List UInt8), glue c (cuts c k l) = l := by
  intro k
  induction k with
  | zero => intro l; rfl
  | succ k ih =>
    intro l
    by_cases hc : c ∈ l
    · obtain ⟨a, b, rfl, ha⟩ := part_at c l hc
      rw [cuts_some c k a b ha]
      have := ih b
      cases h : cuts c k b with
      | nil => exact absurd h (cuts_ne c k b)
      | cons x r => rw [h] at this; rw [glue_cons, this]
    · rw [cuts_none c _ l hc]; rfl
end Go.Proofs.YtfgfjofbghfdpaaDoor.PWord
