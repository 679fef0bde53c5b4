/- Plain facts on numbers as bytes: digits to the base 128. -/
namespace Go.Proofs.Ythpnkjnieljdiaa
namespace PVar

/-- A number's bytes. -/
def digs (n : Nat) : List UInt8 := if n < 128 then [UInt8.ofNat n] else UInt8.ofNat (n % 128 + 128) :: digs (n / 128)
termination_by n
decreasing_by omega

theorem digs_low {n : Nat} (h : n < 128) : digs n = [UInt8.ofNat n] := by rw [digs, if_pos h]
theorem digs_high {n : Nat} (h : 128 ≤ n) : digs n = UInt8.ofNat (n % 128 + 128) :: digs (n / 128) := by rw [digs, if_neg (by omega)]

theorem digs_len_aux : ∀ (k n : Nat), n < 128 ^ k → 1 ≤ k → (digs n).length ≤ k
  | 0, _, _, h => by omega
  | k + 1, n, h, _ => by
    by_cases hn : n < 128
    · rw [digs_low hn]; simp
    · rw [digs_high (by omega)]
      have hk : 1 ≤ k := by
        rcases Nat.eq_zero_or_pos k with h0 | h0
        · subst h0; simp at h; omega
        · exact h0
      have : n / 128 < 128 ^ k := by
        rw [Nat.pow_succ] at h
        exact Nat.div_lt_of_lt_mul (by rw [Nat.mul_comm]; exact h)
      have := digs_len_aux k (n / 128) this hk
      simp; omega
theorem digs_len {n : Nat} (h : n ≤ 18446744073709551615) : (digs n).length ≤ 10 := digs_len_aux 10 n (Nat.lt_of_le_of_lt h (by decide)) (by omega)
theorem digs_pos (n : Nat) : 1 ≤ (digs n).length := by
  by_cases hn : n < 128
  · rw [digs_low hn]; simp
  · rw [digs_high (by omega)]; simp

/-- Which number these bytes go on to be, behind i bytes that have come to acc: number, how many bytes, error. -/
def go : (i acc : Nat) → List UInt8 → Nat × Nat × Nat
  | _, _, [] => (0, 0, 1)
  | i, acc, c :: r =>
    if i > 9 ∨ (i = 9 ∧ c.toNat % 128 > 1) then (0, 0, 2)
    else if c.toNat < 128 then (if c.toNat = 0 ∧ i > 0 then (0, 0, 2) else (acc + c.toNat * 128 ^ i, i + 1, 0))
    else go (i + 1) (acc + c.toNat % 128 * 128 ^ i) r
def get (l : List UInt8) : Nat × Nat × Nat := go 0 0 l

theorem go_nil (i acc : Nat) : go i acc [] = (0, 0, 1) := rfl
theorem go_bad {i acc : Nat} {c : UInt8} {r : List UInt8} (h : i > 9 ∨ (i = 9 ∧ c.toNat % 128 > 1)) : go i acc (c :: r) = (0, 0, 2) := by rw [go, if_pos h]
theorem go_zero {i acc : Nat} {c : UInt8} {r : List UInt8} (h : c.toNat = 0) (h2 : i > 0) : go i acc (c :: r) = (0, 0, 2) := by
  rw [go]
  by_cases h' : i > 9 ∨ (i = 9 ∧ c.toNat % 128 > 1)
  · rw [if_pos h']
  · rw [if_neg h', if_pos (by omega), if_pos ⟨h, h2⟩]
theorem go_end {i acc : Nat} {c : UInt8} {r : List UInt8} (h : ¬ (i > 9 ∨ (i = 9 ∧ c.toNat % 128 > 1))) (h1 : c.toNat < 128) (h2 : ¬ (c.toNat = 0 ∧ i > 0)) : go i acc (c :: r) = (acc + c.toNat * 128 ^ i, i + 1, 0) := by
  rw [go, if_neg h, if_pos h1, if_neg h2]
theorem go_on {i acc : Nat} {c : UInt8} {r : List UInt8} (h : ¬ (i > 9 ∨ (i = 9 ∧ c.toNat % 128 > 1))) (h1 : 128 ≤ c.toNat) : go i acc (c :: r) = go (i + 1) (acc + c.toNat % 128 * 128 ^ i) r := by
  rw [go, if_neg h, if_neg (by omega)]

theorem u8_of {n : Nat} (h : n < 256) : (UInt8.ofNat n).toNat = n := by simp; omega

/-- The bytes of m, read on. -/
theorem go_digs : ∀ (k m i acc : Nat) (r : List UInt8), (digs m).length = k → m * 128 ^ i ≤ 18446744073709551615 → (i > 0 → m > 0) →
    go i acc (digs m ++ r) = (acc + m * 128 ^ i, i + (digs m).length, 0)
  | 0, m, _, _, _, hk, _, _ => by have := digs_pos m; omega
  | k + 1, m, i, acc, r, hk, hm, hp => by
    have hi9 : ¬ (i > 9 ∧ m > 0) := by
      intro ⟨h1, h2⟩
      have : 128 ^ 10 ≤ 128 ^ i := Nat.pow_le_pow_right (by omega) (by omega)
      have h3 : (128 : Nat) ^ 10 = 1180591620717411303424 := by decide
      have h4 : 1 * 128 ^ i ≤ m * 128 ^ i := Nat.mul_le_mul_right _ h2
      omega
    have h9 : i = 9 → m ≤ 1 := by
      intro h; subst h
      have h3 : (128 : Nat) ^ 9 = 9223372036854775808 := by decide
      rw [h3] at hm
      omega
    by_cases hn : m < 128
    · rw [digs_low hn]
      show go i acc (UInt8.ofNat m :: r) = _
      have hu := u8_of (n := m) (by omega)
      rw [go_end (by rw [hu]; intro h; rcases h with h | ⟨h, h'⟩ <;> omega) (by rw [hu]; exact hn) (by rw [hu]; intro h; omega), hu]
      rfl
    · rw [digs_high (by omega)]
      show go i acc (UInt8.ofNat (m % 128 + 128) :: (digs (m / 128) ++ r)) = _
      have hu := u8_of (n := m % 128 + 128) (by omega)
      have hk' : (digs (m / 128)).length = k := by rw [digs_high (by omega)] at hk; simpa using hk
      have hmm : m = 128 * (m / 128) + m % 128 := by omega
      have hs : (m / 128) * 128 ^ (i + 1) + m % 128 * 128 ^ i = m * 128 ^ i := by
        rw [Nat.pow_succ, Nat.mul_comm (128 ^ i) 128, ← Nat.mul_assoc, ← Nat.add_mul]
        congr 1
        omega
      rw [go_on (by rw [hu]; intro h; rcases h with h | ⟨h, h'⟩ <;> omega) (by rw [hu]; omega), hu, go_digs k (m / 128) (i + 1) _ r hk' (by omega) (fun _ => by omega)]
      rw [show (m % 128 + 128) % 128 = m % 128 by omega]
      simp only [Prod.mk.injEq, List.length_cons, and_true]
      constructor
      · omega
      · omega

/-- What is read back is what was written. -/
theorem get_digs (m : Nat) (h : m ≤ 18446744073709551615) (r : List UInt8) : get (digs m ++ r) = (m, (digs m).length, 0) := by
  have := go_digs (digs m).length m 0 0 r rfl (by simpa using h) (by omega)
  simpa [get] using this

/-- Where a number is read, these are its bytes; and it is below 2^64. -/
theorem go_spec : ∀ (l : List UInt8) (i acc : Nat) (n k : Nat), acc < 128 ^ i → go i acc l = (n, k, 0) → ∃ m, n = acc + m * 128 ^ i ∧ k = i + (digs m).length ∧ l.take (digs m).length = digs m ∧ (digs m).length ≤ l.length ∧ n ≤ 18446744073709551615 ∧ (i > 0 → m > 0)
  | [], i, acc, n, k, _, h => by simp [go_nil] at h
  | c :: r, i, acc, n, k, ha, h => by
    by_cases h1 : i > 9 ∨ (i = 9 ∧ c.toNat % 128 > 1)
    · rw [go_bad h1] at h; simp at h
    have hc : c.toNat < 256 := c.toNat_lt
    have hpow : 128 ^ i ≤ 128 ^ 9 := Nat.pow_le_pow_right (by omega) (by omega)
    have h9 : (128 : Nat) ^ 9 = 9223372036854775808 := by decide
    by_cases h2 : c.toNat < 128
    · by_cases h3 : c.toNat = 0 ∧ i > 0
      · rw [go_zero h3.1 h3.2] at h; simp at h
      · rw [go_end h1 h2 h3] at h
        simp at h
        obtain ⟨rfl, rfl⟩ := h
        refine ⟨c.toNat, rfl, ?_, ?_, ?_, ?_, fun h => by omega⟩
        · rw [digs_low h2]; simp
        · rw [digs_low h2]; simp
        · rw [digs_low h2]; simp
        · by_cases hi : i = 9
          · subst hi
            have : c.toNat * 128 ^ 9 ≤ 1 * 128 ^ 9 := Nat.mul_le_mul_right _ (by omega)
            omega
          · have h8 : 128 ^ i ≤ 128 ^ 8 := Nat.pow_le_pow_right (by omega) (by omega)
            have e8 : (128 : Nat) ^ 8 = 72057594037927936 := by decide
            have : c.toNat * 128 ^ i ≤ 127 * 128 ^ 8 := Nat.mul_le_mul (by omega) h8
            omega
    · rw [go_on h1 (by omega)] at h
      have ha' : acc + c.toNat % 128 * 128 ^ i < 128 ^ (i + 1) := by
        have : c.toNat % 128 * 128 ^ i ≤ 127 * 128 ^ i := Nat.mul_le_mul_right _ (by omega)
        rw [Nat.pow_succ]
        omega
      obtain ⟨m, rfl, rfl, h5, h6, h7, h8⟩ := go_spec r (i + 1) _ n k ha' h
      have hm := h8 (by omega)
      have hd : digs (128 * m + c.toNat % 128) = c :: digs m := by
        rw [digs_high (by omega), show (128 * m + c.toNat % 128) / 128 = m by omega, show (128 * m + c.toNat % 128) % 128 + 128 = c.toNat by omega]
        simp
      refine ⟨128 * m + c.toNat % 128, ?_, ?_, ?_, ?_, h7, fun _ => by omega⟩
      · rw [Nat.pow_succ, Nat.add_mul, Nat.add_assoc]
        congr 1
        rw [Nat.add_comm, Nat.mul_comm (128 ^ i) 128, ← Nat.mul_assoc, Nat.mul_comm m 128]
      · rw [hd]; simp; omega
      · rw [hd]; simp [h5]
      · rw [hd]; simp [h6]

theorem get_spec {l : List UInt8} {n k : Nat} (h : get l = (n, k, 0)) : k = (digs n).length ∧ l.take k = digs n ∧ k ≤ l.length ∧ n ≤ 18446744073709551615 := by
  obtain ⟨m, h1, h2, h3, h4, h5, _⟩ := go_spec l 0 0 n k (by simp) h
  simp at h1 h2
  subst h1
  subst h2
  exact ⟨rfl, h3, h4, h5⟩

/-- Beside an error all is zero; an error is 1 or 2. -/
theorem go_err : ∀ (l : List UInt8) (i acc : Nat), (go i acc l).2.2 = 0 ∨ go i acc l = (0, 0, 1) ∨ go i acc l = (0, 0, 2)
  | [], i, acc => by simp [go_nil]
  | c :: r, i, acc => by
    rw [go]
    split
    · simp
    · split
      · split <;> simp
      · exact go_err r _ _
theorem get_err (l : List UInt8) : (get l).2.2 = 0 ∨ get l = (0, 0, 1) ∨ get l = (0, 0, 2) := go_err l 0 0

/-- Folding. -/
def fold (n : Int) : Nat := if n < 0 then (2 * (-n - 1) + 1).toNat else (2 * n).toNat
def back (n : Nat) : Int := if n % 2 = 1 then -((n / 2 : Nat) : Int) - 1 else ((n / 2 : Nat) : Int)
theorem back_fold (n : Int) : back (fold n) = n := by unfold back fold; split <;> split <;> omega
theorem fold_le {n : Int} (h1 : -9223372036854775808 ≤ n) (h2 : n ≤ 9223372036854775807) : fold n ≤ 18446744073709551615 := by unfold fold; split <;> omega
theorem back_in {n : Nat} (h : n ≤ 18446744073709551615) : -9223372036854775808 ≤ back n ∧ back n ≤ 9223372036854775807 := by unfold back; split <;> omega
end PVar
end Go.Proofs.Ythpnkjnieljdiaa
