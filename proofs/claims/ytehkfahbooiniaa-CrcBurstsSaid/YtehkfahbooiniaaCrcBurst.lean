/- A burst: texts that differ within 32 bits in a row have other sums. -/
import Derived.Test.YtehkfahbooiniaaCrcPlain
namespace PCrc
set_option linter.unusedVariables false

theorem cst_zero {r : Nat} (hr : r < 2 ^ 32) (h : cst r = 0) : r = 0 := by
  unfold cst at h
  by_cases hp : r % 2 = 1
  · rw [if_pos hp] at h
    have : r / 2 = D := by
      have h2 : (r / 2 ^^^ D) ^^^ D = D := by rw [h, Nat.zero_xor]
      rw [Nat.xor_assoc, Nat.xor_self, Nat.xor_zero] at h2
      exact h2
    unfold D at this
    omega
  · rw [if_neg hp] at h
    omega
theorem xor_zero_eq {a b : Nat} (h : a ^^^ b = 0) : a = b := by
  have h2 : (a ^^^ b) ^^^ b = b := by rw [h, Nat.zero_xor]
  rw [Nat.xor_assoc, Nat.xor_self, Nat.xor_zero] at h2
  exact h2
theorem cst_inj {a b : Nat} (ha : a < 2 ^ 32) (hb : b < 2 ^ 32) (h : cst a = cst b) : a = b := by
  apply xor_zero_eq
  apply cst_zero (Nat.xor_lt_two_pow ha hb)
  rw [cst_xor, h, Nat.xor_self]
theorem iter_inj : ∀ (n : Nat) {a b : Nat}, a < 2 ^ 32 → b < 2 ^ 32 → iter n a = iter n b → a = b
  | 0, a, b, _, _, h => by rw [iter_0, iter_0] at h; exact h
  | n + 1, a, b, ha, hb, h => by
    rw [iter_1, iter_1] at h
    exact cst_inj ha hb (iter_inj n (cst_lt ha) (cst_lt hb) h)

/-- The number of these bits. -/
def num (f : Nat → Nat) : Nat → Nat
  | 0 => 0
  | m + 1 => num f m + 2 ^ m * f m
theorem num_lt (f : Nat → Nat) (hf : ∀ k, f k < 2) : ∀ m, num f m < 2 ^ m
  | 0 => by rw [num]; decide
  | m + 1 => by
    have h1 := num_lt f hf m
    have h2 : 2 ^ m * f m ≤ 2 ^ m * 1 := Nat.mul_le_mul_left _ (by have := hf m; omega)
    rw [num, Nat.pow_succ]
    omega
theorem num_bit (f : Nat → Nat) (hf : ∀ k, f k < 2) : ∀ m k, k < m → num f m / 2 ^ k % 2 = f k
  | 0, k, h => by omega
  | m + 1, k, h => by
    rw [num]
    by_cases e : k = m
    · subst e
      rw [Nat.add_mul_div_left _ _ (Nat.two_pow_pos k), Nat.div_eq_of_lt (num_lt f hf k), Nat.zero_add]
      exact Nat.mod_eq_of_lt (hf k)
    · have h1 := num_bit f hf m k (by omega)
      have : 2 ^ m * f m = 2 ^ k * (2 * (2 ^ (m - k - 1) * f m)) := by
        rw [show m = k + (m - k - 1 + 1) by omega, Nat.pow_add, Nat.pow_succ]
        simp only [show k + (m - k - 1 + 1) - k - 1 = m - k - 1 by omega]
        ac_rfl
      rw [this, Nat.add_mul_div_left _ _ (Nat.two_pow_pos k), Nat.add_mul_mod_self_left]
      exact h1

theorem T_window (l : List UInt8) (a m : Nat) : T l (a + m) = iter m (T l a ^^^ num (fun k => tb l (a + k)) m) := by
  have hf : ∀ k, (fun k => tb l (a + k)) k < 2 := fun k => tb_lt l _
  have h := T_add l a (num (fun k => tb l (a + k)) m) m (fun k hk => (num_bit _ hf m k hk).symm)
  rw [Nat.mod_eq_of_lt (num_lt _ hf m)] at h
  exact h
theorem T_same (l l' : List UInt8) : ∀ a, (∀ k, k < a → tb l k = tb l' k) → T l a = T l' a
  | 0, _ => rfl
  | a + 1, h => by
    show cst _ = cst _
    rw [T_same l l' a (fun k hk => h k (by omega)), h a (by omega)]
theorem T_back (l l' : List UInt8) (a : Nat) : ∀ j, (∀ k, a ≤ k → k < a + j → tb l k = tb l' k) → T l (a + j) = T l' (a + j) → T l a = T l' a
  | 0, _, h => h
  | j + 1, hk, h => by
    apply T_back l l' a j (fun k h1 h2 => hk k h1 (by omega))
    have h' : cst (T l (a + j) ^^^ tb l (a + j)) = cst (T l' (a + j) ^^^ tb l' (a + j)) := h
    have hb1 : T l (a + j) ^^^ tb l (a + j) < 2 ^ 32 := Nat.xor_lt_two_pow (T_lt l _) (Nat.lt_trans (tb_lt l _) (by decide))
    have hb2 : T l' (a + j) ^^^ tb l' (a + j) < 2 ^ 32 := Nat.xor_lt_two_pow (T_lt l' _) (Nat.lt_trans (tb_lt l' _) (by decide))
    have h2 := cst_inj hb1 hb2 h'
    rw [hk (a + j) (by omega) (by omega)] at h2
    have h3 : (T l (a + j) ^^^ tb l' (a + j)) ^^^ tb l' (a + j) = (T l' (a + j) ^^^ tb l' (a + j)) ^^^ tb l' (a + j) := by rw [h2]
    rw [Nat.xor_assoc, Nat.xor_assoc, Nat.xor_self, Nat.xor_zero, Nat.xor_zero] at h3
    exact h3

/-- Equal bits are equal bytes. -/
theorem bits_eq (l l' : List UInt8) (hl : l.length = l'.length) (h : ∀ k, k < 8 * l.length → tb l k = tb l' k) : l = l' := by
  apply List.ext_getElem hl
  intro i h1 h2
  apply UInt8.toNat_inj.1
  have hb : ∀ j, j < 8 → l[i].toNat / 2 ^ j % 2 = l'[i].toNat / 2 ^ j % 2 := by
    intro j hj
    have := h (8 * i + j) (by omega)
    rw [tb_byte l i j h1 hj, tb_byte l' i j h2 hj] at this
    exact this
  apply Nat.eq_of_testBit_eq
  intro j
  by_cases hj : j < 8
  · have := hb j hj
    rw [Nat.testBit_eq_decide_div_mod_eq, Nat.testBit_eq_decide_div_mod_eq, this]
  · rw [Nat.testBit_lt_two_pow (Nat.lt_of_lt_of_le (UInt8.toNat_lt _) (Nat.pow_le_pow_right (by decide) (by omega))),
      Nat.testBit_lt_two_pow (Nat.lt_of_lt_of_le (UInt8.toNat_lt _) (Nat.pow_le_pow_right (by decide) (by omega)))]

/-- Texts of one length and one sum that differ within 32 bits in a row are one text. -/
theorem burst (l l' : List UInt8) (a : Nat) (hl : l.length = l'.length) (ha : a ≤ 8 * l.length) (h : ∀ k, k < 8 * l.length → k < a ∨ a + 32 ≤ k → tb l k = tb l' k) (hs : sum l = sum l') : l = l' := by
  have hT : T l (8 * l.length) = T l' (8 * l.length) := by
    have h1 := sum_T l
    have h2 := sum_T l'
    have b1 := T_lt l (8 * l.length)
    have b2 := T_lt l' (8 * l'.length)
    rw [← hl] at h2 b2
    omega
  obtain ⟨m, j, hm, hmj⟩ : ∃ m j, m ≤ 32 ∧ a + m + j = 8 * l.length ∧ (m = 32 ∨ j = 0) := by
    by_cases h32 : a + 32 ≤ 8 * l.length
    · exact ⟨32, 8 * l.length - (a + 32), by omega, by omega, .inl rfl⟩
    · exact ⟨8 * l.length - a, 0, by omega, by omega, .inr rfl⟩
  have hTm : T l (a + m) = T l' (a + m) := by
    apply T_back l l' (a + m) j (fun k h1 h2 => h k (by omega) (.inr (by omega)))
    rw [hmj.1]
    exact hT
  have hTa := T_same l l' a (fun k hk => h k (by omega) (.inl hk))
  have b0 := T_lt l a
  have hf1 : ∀ k, (fun k => tb l (a + k)) k < 2 := fun k => tb_lt l _
  have hf2 : ∀ k, (fun k => tb l' (a + k)) k < 2 := fun k => tb_lt l' _
  have hp : 2 ^ m ≤ 2 ^ 32 := Nat.pow_le_pow_right (by decide) hm
  have n1 := Nat.lt_of_lt_of_le (num_lt _ hf1 m) hp
  have n2 := Nat.lt_of_lt_of_le (num_lt _ hf2 m) hp
  rw [T_window, T_window, ← hTa] at hTm
  have h2 := iter_inj m (Nat.xor_lt_two_pow b0 n1) (Nat.xor_lt_two_pow b0 n2) hTm
  have h3 : num (fun k => tb l (a + k)) m = num (fun k => tb l' (a + k)) m := by
    have h4 : T l a ^^^ (T l a ^^^ num (fun k => tb l (a + k)) m) = T l a ^^^ (T l a ^^^ num (fun k => tb l' (a + k)) m) := by rw [h2]
    rw [← Nat.xor_assoc, ← Nat.xor_assoc, Nat.xor_self, Nat.zero_xor, Nat.zero_xor] at h4
    exact h4
  apply bits_eq l l' hl
  intro k hk
  by_cases hw : k < a ∨ a + 32 ≤ k
  · exact h k hk hw
  · have e1 := num_bit _ hf1 m (k - a) (by omega)
    have e2 := num_bit _ hf2 m (k - a) (by omega)
    rw [h3, e2] at e1
    rw [show a + (k - a) = k by omega] at e1
    exact e1.symm

theorem four_inj {a b : Nat} (ha : a < 2 ^ 32) (hb : b < 2 ^ 32) (h : four a = four b) : a = b := by
  unfold four at h
  simp only [List.cons.injEq, and_true] at h
  obtain ⟨h1, h2, h3, h4⟩ := h
  have t : ∀ x y : Nat, UInt8.ofNat x = UInt8.ofNat y → x % 256 = y % 256 := by
    intro x y h
    have := congrArg UInt8.toNat h
    simpa using this
  have := t _ _ h1
  have := t _ _ h2
  have := t _ _ h3
  have := t _ _ h4
  omega

/-- Harmed within 32 bits in a row, a sealed text is opened only if it isn't harmed. -/
theorem burst_opn (l l' : List UInt8) (a : Nat) (hl : l.length = l'.length) (ha : a ≤ 8 * l.length) (h : ∀ k, k < 8 * l.length → k < a ∨ a + 32 ≤ k → tb l k = tb l' k) : opn (l' ++ four (sum l)) = decide (l' = l) := by
  have e : (l' ++ four (sum l)).length - 4 = l'.length := by rw [List.length_append, four_len]; omega
  unfold opn
  rw [e, List.drop_left, List.take_left]
  apply decide_eq_decide.2
  rw [List.length_append, four_len]
  constructor
  · intro ⟨_, h2⟩
    exact (burst l l' a hl ha h (four_inj (sum_lt _) (sum_lt _) h2)).symm
  · intro h2
    rw [h2]
    exact ⟨by omega, rfl⟩

/-! ### One bit turned -/
theorem flip_lt {c r : Nat} (hc : c < 256) (hr : r < 8) : c ^^^ 2 ^ r < 256 := Nat.xor_lt_two_pow (n := 8) hc (Nat.pow_lt_pow_right (by decide) hr)
theorem flip_other (c r r' : Nat) (h : r' ≠ r) : bt (c ^^^ 2 ^ r) r' = bt c r' := by
  rw [bt_xor]
  have : bt (2 ^ r) r' = 0 := by
    rw [bt_test, Nat.testBit_two_pow]
    have : ¬ r = r' := fun e => h e.symm
    simp [this]
  rw [this, Nat.add_zero]
  exact Nat.mod_eq_of_lt (bt_lt c r')
end PCrc
