/- Digits of 16, as plain mathematics. -/
namespace PHex
set_option linter.unusedVariables false

/-- A digit. -/
def dig (d : Nat) : UInt8 := if d < 10 then UInt8.ofNat (48 + d) else UInt8.ofNat (87 + d)
/-- A number's digits, the highest first. -/
def hex (n : Nat) : List UInt8 := if n < 16 then [dig n] else hex (n / 16) ++ [dig (n % 16)]
termination_by n
decreasing_by omega
theorem hex_low {n : Nat} (h : n < 16) : hex n = [dig n] := by rw [hex, if_pos h]
theorem hex_high {n : Nat} (h : 16 ≤ n) : hex n = hex (n / 16) ++ [dig (n % 16)] := by rw [hex, if_neg (by omega)]
theorem hex_len : ∀ (k n : Nat), n < 16 ^ (k + 1) → (hex n).length ≤ k + 1
  | 0, n, h => by rw [hex_low (by simpa using h)]; simp
  | k + 1, n, h => by
    by_cases h16 : n < 16
    · rw [hex_low h16]; simp
    · rw [hex_high (by omega), List.length_append]
      have : n / 16 < 16 ^ (k + 1) := by rw [Nat.pow_succ] at h; omega
      have := hex_len k (n / 16) this
      simp
      omega
theorem hex_pos (n : Nat) : 1 ≤ (hex n).length := by
  by_cases h : n < 16
  · rw [hex_low h]; simp
  · rw [hex_high (by omega), List.length_append]; simp
theorem hex_len64 {n : Nat} (h : n < 18446744073709551616) : (hex n).length ≤ 16 := hex_len 15 n (by simpa using h)

/-- A digit's number, of a byte; 16: it is none. -/
def val (c : UInt8) : Nat := if 48 ≤ c.toNat ∧ c.toNat ≤ 57 then c.toNat - 48 else if 97 ≤ c.toNat ∧ c.toNat ≤ 102 then c.toNat - 87 else if 65 ≤ c.toNat ∧ c.toNat ≤ 70 then c.toNat - 55 else 16
theorem val_dig : ∀ d, d < 16 → val (dig d) = d := by decide
theorem dig_range : ∀ d, d < 16 → (48 ≤ (dig d).toNat ∧ (dig d).toNat ≤ 57) ∨ (97 ≤ (dig d).toNat ∧ (dig d).toNat ≤ 102) := by decide
theorem hex_mem {c : UInt8} : ∀ n, c ∈ hex n → ∃ d, d < 16 ∧ c = dig d := by
  intro n
  induction n using Nat.strongRecOn with
  | _ n ih =>
    intro h
    by_cases h16 : n < 16
    · rw [hex_low h16] at h
      exact ⟨n, h16, by simpa using h⟩
    · rw [hex_high (by omega)] at h
      rcases List.mem_append.1 h with h | h
      · exact ih (n / 16) (by omega) h
      · exact ⟨n % 16, by omega, by simpa using h⟩

/-- The number that digits read as. -/
def num (l : List UInt8) : Nat := l.foldl (fun a c => a * 16 + val c) 0
theorem num_snoc (l : List UInt8) (c : UInt8) : num (l ++ [c]) = num l * 16 + val c := by unfold num; rw [List.foldl_append]; rfl
theorem num_hex (n : Nat) : num (hex n) = n := by
  induction n using Nat.strongRecOn with
  | _ n ih =>
    by_cases h : n < 16
    · rw [hex_low h]
      have := val_dig n h
      show 0 * 16 + val (dig n) = n
      omega
    · rw [hex_high (by omega), num_snoc, ih (n / 16) (by omega), val_dig _ (by omega)]
      omega
end PHex
