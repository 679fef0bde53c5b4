/- The sum of bytes, as plain mathematics: a register that is shifted, by bits and by bytes; the long division; a burst. -/
namespace PCrc
set_option linter.unusedVariables false

def D : Nat := 3988292384
def cst (r : Nat) : Nat := if r % 2 = 1 then (r / 2) ^^^ D else r / 2
/-- n steps (by a recursion that no reckoning unfolds by itself). -/
def iter (n r : Nat) : Nat := if n = 0 then r else iter (n - 1) (cst r)
termination_by n
decreasing_by omega
theorem iter_0 (r : Nat) : iter 0 r = r := by rw [iter, if_pos rfl]
theorem iter_1 (n r : Nat) : iter (n + 1) r = iter n (cst r) := by rw [iter, if_neg (by omega)]; rfl
def tab (b : Nat) : Nat := iter 8 b
def upd (r c : Nat) : Nat := tab ((r % 256) ^^^ c) ^^^ (r / 256)
def reg (r : Nat) (l : List UInt8) : Nat := l.foldl (fun r c => upd r c.toNat) r
def sum (l : List UInt8) : Nat := 4294967295 - reg 4294967295 l

theorem testBit_zero' (a : Nat) : a.testBit 0 = decide (a % 2 = 1) := Nat.testBit_zero a
theorem testBit_div2 (a i : Nat) : (a / 2).testBit i = a.testBit (i + 1) := (Nat.testBit_succ a i).symm

theorem xor_half (a b : Nat) : (a ^^^ b) / 2 = (a / 2) ^^^ (b / 2) := by
  apply Nat.eq_of_testBit_eq
  intro i
  simp only [testBit_div2, Nat.testBit_xor]
theorem xor_par (a b : Nat) : (a ^^^ b) % 2 = 1 ↔ ¬ (a % 2 = 1 ↔ b % 2 = 1) := by
  have h := Nat.testBit_xor a b 0
  simp only [testBit_zero'] at h
  by_cases ha : a % 2 = 1 <;> by_cases hb : b % 2 = 1 <;> simp [ha, hb] at h ⊢ <;> omega
theorem xor4 (a b c : Nat) : (a ^^^ c) ^^^ b = (a ^^^ b) ^^^ c := by rw [Nat.xor_assoc, Nat.xor_comm c b, ← Nat.xor_assoc]

theorem cst_xor (a b : Nat) : cst (a ^^^ b) = cst a ^^^ cst b := by
  have hp := xor_par a b
  have hh := xor_half a b
  unfold cst
  rw [hh]
  by_cases ha : a % 2 = 1 <;> by_cases hb : b % 2 = 1
  · rw [if_neg (by simp [hp, ha, hb]), if_pos ha, if_pos hb, Nat.xor_assoc, Nat.xor_comm D, Nat.xor_assoc, Nat.xor_self, Nat.xor_zero]
  · rw [if_pos (by simp [hp, ha, hb]), if_pos ha, if_neg hb, xor4]
  · rw [if_pos (by simp [hp, ha, hb]), if_neg ha, if_pos hb, Nat.xor_assoc]
  · rw [if_neg (by simp [hp, ha, hb]), if_neg ha, if_neg hb]
theorem iter_xor (n : Nat) : ∀ a b, iter n (a ^^^ b) = iter n a ^^^ iter n b := by
  induction n with
  | zero => intro a b; rw [iter_0, iter_0, iter_0]
  | succ n ih => intro a b; rw [iter_1, iter_1, iter_1, cst_xor, ih]
theorem cst_even (y : Nat) : cst (2 * y) = y := by
  unfold cst
  rw [if_neg (by omega)]
  omega
theorem iter_add (m n r : Nat) : iter (m + n) r = iter n (iter m r) := by
  induction m generalizing r with
  | zero => rw [Nat.zero_add, iter_0]
  | succ m ih => rw [Nat.succ_add, iter_1, iter_1, ih]
theorem iter_succ' (n r : Nat) : iter (n + 1) r = cst (iter n r) := by rw [iter_add n 1 r, iter_1, iter_0]
theorem iter_shift (n x : Nat) : iter n (2 ^ n * x) = x := by
  induction n with
  | zero => rw [iter_0]; omega
  | succ n ih =>
    rw [iter_1, Nat.pow_succ, Nat.mul_comm (2 ^ n) 2, Nat.mul_assoc, cst_even, ih]
theorem cst_lt {r : Nat} (h : r < 2 ^ 32) : cst r < 2 ^ 32 := by
  unfold cst
  split
  · exact Nat.xor_lt_two_pow (by omega) (by decide)
  · omega
theorem iter_lt (n : Nat) : ∀ {r : Nat}, r < 2 ^ 32 → iter n r < 2 ^ 32 := by
  induction n with
  | zero => intro r h; rw [iter_0]; exact h
  | succ n ih => intro r h; rw [iter_1]; exact ih (cst_lt h)

/-- Low bits and high bits, put together. -/
theorem split_xor (r k : Nat) : r = (r % 2 ^ k) ^^^ (2 ^ k * (r / 2 ^ k)) := by
  apply Nat.eq_of_testBit_eq
  intro i
  rw [Nat.testBit_xor, Nat.testBit_mod_two_pow, Nat.testBit_two_pow_mul]
  by_cases h : i < k
  · have : ¬ k ≤ i := by omega
    simp [h, this]
  · have h' : k ≤ i := by omega
    rw [Nat.testBit_div_two_pow]
    simp [h, h', Nat.sub_add_cancel h']

theorem upd_iter (r c : Nat) (h : c < 256) : upd r c = iter 8 (r ^^^ c) := by
  have e : r ^^^ c = ((r % 256) ^^^ c) ^^^ (2 ^ 8 * (r / 256)) := by
    have := split_xor r 8
    rw [show (2 : Nat) ^ 8 = 256 from rfl] at this ⊢
    rw [← xor4, ← this]
  rw [e, iter_xor, iter_shift]
  rfl
theorem upd_lt {r c : Nat} (hr : r < 2 ^ 32) (hc : c < 256) : upd r c < 2 ^ 32 := by
  rw [upd_iter r c hc]
  exact iter_lt 8 (Nat.xor_lt_two_pow hr (Nat.lt_of_lt_of_le hc (by decide)))
theorem reg_lt : ∀ (l : List UInt8) {r : Nat}, r < 2 ^ 32 → reg r l < 2 ^ 32
  | [], r, h => h
  | c :: l, r, h => reg_lt l (upd_lt h c.toNat_lt)
theorem reg_append (r : Nat) (a b : List UInt8) : reg r (a ++ b) = reg (reg r a) b := List.foldl_append
theorem sum_lt (l : List UInt8) : sum l < 2 ^ 32 := by unfold sum; omega
theorem reg_snoc (r : Nat) (l : List UInt8) (k : Nat) (h : k < l.length) : reg r (l.take (k + 1)) = upd (reg r (l.take k)) l[k].toNat := by
  rw [List.take_succ_eq_append_getElem h, reg_append]; rfl
theorem tab_lt {b : Nat} (h : b < 256) : tab b < 2 ^ 32 := iter_lt 8 (Nat.lt_of_lt_of_le h (by decide))

/-! ### Bit by bit -/

/-- The i-th bit of a text. -/
def tb (l : List UInt8) (i : Nat) : Nat := (((l[i / 8]?).map UInt8.toNat).getD 0 / 2 ^ (i % 8)) % 2
/-- The register behind i bits. -/
def T (l : List UInt8) : Nat → Nat
  | 0 => 4294967295
  | i + 1 => cst (T l i ^^^ tb l i)

theorem tb_lt (l : List UInt8) (i : Nat) : tb l i < 2 := Nat.mod_lt _ (by decide)
theorem T_lt (l : List UInt8) : ∀ i, T l i < 2 ^ 32
  | 0 => by unfold T; omega
  | i + 1 => cst_lt (Nat.xor_lt_two_pow (T_lt l i) (Nat.lt_trans (tb_lt l i) (by decide)))

/-- Bits fed one by one are fed as one number. -/
theorem T_add (l : List UInt8) (i c : Nat) : ∀ m, (∀ k, k < m → tb l (i + k) = (c / 2 ^ k) % 2) → T l (i + m) = iter m (T l i ^^^ (c % 2 ^ m)) := by
  intro m
  induction m with
  | zero => intro _; rw [iter_0, Nat.pow_zero, Nat.mod_one, Nat.xor_zero]; rfl
  | succ m ih =>
    intro h
    have h0 := ih (fun k hk => h k (by omega))
    have hm := h m (by omega)
    show cst (T l (i + m) ^^^ tb l (i + m)) = _
    rw [h0, hm, iter_succ']
    congr 1
    have e : c % 2 ^ (m + 1) = (c % 2 ^ m) ^^^ (2 ^ m * ((c / 2 ^ m) % 2)) := by
      have := split_xor (c % 2 ^ (m + 1)) m
      rw [Nat.mod_mod_of_dvd c (Nat.pow_dvd_pow 2 (Nat.le_succ m)), Nat.pow_succ, Nat.mod_mul_right_div_self] at this
      exact this
    rw [e, ← Nat.xor_assoc, iter_xor m (T l i ^^^ c % 2 ^ m), iter_shift]

theorem tb_byte (l : List UInt8) (k j : Nat) (hk : k < l.length) (hj : j < 8) : tb l (8 * k + j) = (l[k].toNat / 2 ^ j) % 2 := by
  unfold tb
  rw [show (8 * k + j) / 8 = k by omega, show (8 * k + j) % 8 = j by omega, List.getElem?_eq_getElem hk]
  rfl
theorem T_reg (l : List UInt8) : ∀ k, k ≤ l.length → T l (8 * k) = reg 4294967295 (l.take k)
  | 0, _ => rfl
  | k + 1, h => by
    have hk : k < l.length := by omega
    rw [reg_snoc _ _ _ hk, ← T_reg l k (by omega), upd_iter _ _ (UInt8.toNat_lt _)]
    have := T_add l (8 * k) l[k].toNat 8 (fun j hj => tb_byte l k j hk hj)
    rw [show 8 * (k + 1) = 8 * k + 8 by omega, this, Nat.mod_eq_of_lt (UInt8.toNat_lt _)]
theorem sum_T (l : List UInt8) : sum l = 4294967295 - T l (8 * l.length) := by
  rw [T_reg l _ (Nat.le_refl _), List.take_length]; rfl

/-! ### The long division -/

/-- Has the polynomial this power (below 32)? -/
def pw (n : Nat) : Nat := if n ∈ [26, 23, 22, 16, 12, 11, 10, 8, 7, 5, 4, 2, 1, 0] then 1 else 0
theorem pw_bit : ∀ k, k < 32 → D / 2 ^ k % 2 = pw (31 - k) := by decide
theorem pw_lt (n : Nat) : pw n < 2 := by unfold pw; split <;> omega

/-- A bit of a number. -/
def bt (r k : Nat) : Nat := r / 2 ^ k % 2
theorem bt_lt (r k : Nat) : bt r k < 2 := Nat.mod_lt _ (by decide)
theorem bt_test (r k : Nat) : bt r k = (r.testBit k).toNat := (Nat.toNat_testBit r k).symm
theorem bt_xor (a b k : Nat) : bt (a ^^^ b) k = (bt a k + bt b k) % 2 := by
  rw [bt_test, bt_test, bt_test, Nat.testBit_xor]
  cases a.testBit k <;> cases b.testBit k <;> rfl
theorem bt_half (a k : Nat) : bt (a / 2) k = bt a (k + 1) := by
  unfold bt
  rw [Nat.div_div_eq_div_mul, Nat.pow_succ, Nat.mul_comm]
theorem bt_big (a k : Nat) (h : a < 2 ^ k) : bt a k = 0 := by unfold bt; rw [Nat.div_eq_of_lt h]
theorem bt_zero (a : Nat) : bt a 0 = a % 2 := by unfold bt; simp

/-- What the row of bits holds ahead of step i, at place j (from i on). -/
def row (l : List UInt8) (i j : Nat) : Nat := (tb l j + bt (T l i) (j - i)) % 2
theorem row_lt (l : List UInt8) (i j : Nat) : row l i j < 2 := Nat.mod_lt _ (by decide)

theorem row_head (l : List UInt8) (i : Nat) : row l i i = (T l i ^^^ tb l i) % 2 := by
  have h := bt_xor (T l i) (tb l i) 0
  rw [bt_zero] at h
  rw [h, row, Nat.sub_self]
  have : bt (tb l i) 0 = tb l i := by rw [bt_zero]; exact Nat.mod_eq_of_lt (tb_lt l i)
  rw [this, Nat.add_comm]
theorem row_small (l : List UInt8) (i j : Nat) (hj : i + 32 ≤ j) : row l i j = tb l j := by
  unfold row
  rw [bt_big _ _ (Nat.lt_of_lt_of_le (T_lt l i) (Nat.pow_le_pow_right (by decide) (by omega)))]
  exact Nat.mod_eq_of_lt (tb_lt l j)
theorem bt_T (l : List UInt8) (i k : Nat) : bt (T l (i + 1)) k = (bt (T l i) (k + 1) + if row l i i = 1 then bt D k else 0) % 2 := by
  have e : bt ((T l i ^^^ tb l i) / 2) k = bt (T l i) (k + 1) := by
    rw [bt_half, bt_xor, bt_big (tb l i) (k + 1) (Nat.lt_of_lt_of_le (tb_lt l i) (by rw [Nat.pow_succ]; have := Nat.one_le_two_pow (n := k); omega))]
    exact Nat.mod_eq_of_lt (bt_lt _ _)
  show bt (cst (T l i ^^^ tb l i)) k = _
  unfold cst
  rw [row_head]
  by_cases h : (T l i ^^^ tb l i) % 2 = 1
  · rw [if_pos h, if_pos h, bt_xor, e]
  · rw [if_neg h, if_neg h, e]
    have := bt_lt (T l i) (k + 1)
    omega
theorem row_zero (l : List UInt8) (i j : Nat) (h : row l i i = 0) (hj : i < j) : row l (i + 1) j = row l i j := by
  unfold row
  rw [bt_T, h, if_neg (by decide), Nat.add_zero, Nat.mod_eq_of_lt (bt_lt _ _), show j - (i + 1) + 1 = j - i by omega]
theorem row_one (l : List UInt8) (i k : Nat) (h : row l i i = 1) (hk : 1 ≤ k) (h32 : k ≤ 32) : row l (i + 1) (i + k) = (row l i (i + k) + pw (32 - k)) % 2 := by
  unfold row
  rw [bt_T, h, if_pos rfl, show i + k - (i + 1) + 1 = i + k - i by omega, show i + k - (i + 1) = k - 1 by omega]
  have : bt D (k - 1) = pw (32 - k) := by
    have := pw_bit (k - 1) (by omega)
    rw [show 31 - (k - 1) = 32 - k by omega] at this
    exact this
  rw [this]
  omega
theorem row_one_far (l : List UInt8) (i j : Nat) (hj : i + 32 < j) : row l (i + 1) j = row l i j := by
  rw [row_small l i j (by omega), row_small l (i + 1) j (by omega)]
theorem row_start (l : List UInt8) (j : Nat) : row l 0 j = if j < 32 then 1 - tb l j else tb l j := by
  have h := tb_lt l j
  split
  · rename_i hj
    have : bt (T l 0) (j - 0) = 1 := by
      rw [Nat.sub_zero]
      have : ∀ j, j < 32 → bt 4294967295 j = 1 := by decide
      exact this j hj
    unfold row
    rw [this]
    omega
  · exact row_small l 0 j (by omega)

/-- The number of the last 32 bits, turned: from the highest one on. -/
def fin (f : Nat → Nat) : Nat → Nat
  | 0 => 0
  | i + 1 => fin f i * 2 + (1 - f (31 - i))
theorem fin_lt (f : Nat → Nat) : ∀ i, fin f i < 2 ^ i
  | 0 => by rw [fin]; decide
  | i + 1 => by
    rw [fin, Nat.pow_succ]
    have := fin_lt f i
    omega
theorem fin_val (t : Nat) (ht : t < 2 ^ 32) (f : Nat → Nat) (hf : ∀ k, k < 32 → f k = bt t k) : ∀ i, i ≤ 32 → fin f i = (4294967295 - t) / 2 ^ (32 - i)
  | 0, _ => by
    rw [fin]
    symm
    apply Nat.div_eq_of_lt
    omega
  | i + 1, h => by
    rw [fin, fin_val t ht f hf i (by omega), hf (31 - i) (by omega)]
    rw [show 32 - i = 31 - i + 1 by omega, show 32 - (i + 1) = 31 - i by omega]
    generalize hu : 4294967295 - t = u
    have e1 : u / 2 ^ (31 - i + 1) = u / 2 ^ (31 - i) / 2 := by rw [Nat.div_div_eq_div_mul, Nat.pow_succ]
    have e2 : bt u (31 - i) = 1 - bt t (31 - i) := by
      have e3 : u = 4294967295 ^^^ t := by
        apply Nat.eq_of_testBit_eq
        intro j
        have := Nat.testBit_two_pow_sub_succ ht j
        rw [show 2 ^ 32 - (t + 1) = u by omega] at this
        rw [this, Nat.testBit_xor, show (4294967295 : Nat) = 2 ^ 32 - 1 from rfl, Nat.testBit_two_pow_sub_one]
        by_cases hj : j < 32
        · simp [hj]
        · have : t.testBit j = false := Nat.testBit_lt_two_pow (Nat.lt_of_lt_of_le ht (Nat.pow_le_pow_right (by decide) (by omega)))
          simp [hj, this]
      have e4 : ∀ j, j < 32 → bt 4294967295 j = 1 := by decide
      rw [e3, bt_xor, e4 _ (by omega)]
      have := bt_lt t (31 - i)
      omega
    unfold bt at e2 ⊢
    rw [e1, ← e2]
    omega
theorem fin_sum (l : List UInt8) : fin (fun k => row l (8 * l.length) (8 * l.length + k)) 32 = sum l := by
  rw [fin_val (T l (8 * l.length)) (T_lt _ _) _ (fun k hk => ?_) 32 (Nat.le_refl _), sum_T]
  · simp
  · unfold row
    have : tb l (8 * l.length + k) = 0 := by
      unfold tb
      rw [List.getElem?_eq_none (by omega)]
      simp
    rw [this, show 8 * l.length + k - 8 * l.length = k by omega, Nat.zero_add]
    exact Nat.mod_eq_of_lt (bt_lt _ _)
end PCrc
namespace PCrc
/-- The four bytes of a sum, the highest first. -/
def four (n : Nat) : List UInt8 := [UInt8.ofNat (n / 16777216), UInt8.ofNat (n / 65536), UInt8.ofNat (n / 256), UInt8.ofNat n]
def sld (l : List UInt8) : List UInt8 := l ++ four (sum l)
/-- Is it sealed? -/
def opn (l : List UInt8) : Bool := decide (4 ≤ l.length ∧ l.drop (l.length - 4) = four (sum (l.take (l.length - 4))))
def opened (l : List UInt8) : List UInt8 := if opn l then l.take (l.length - 4) else []
theorem four_len (n : Nat) : (four n).length = 4 := rfl
theorem sld_len (l : List UInt8) : (sld l).length = l.length + 4 := by unfold sld; rw [List.length_append]; rfl
theorem opn_sld (l : List UInt8) : opn (sld l) = true := by
  unfold opn
  have h := sld_len l
  rw [decide_eq_true_iff]
  refine ⟨by omega, ?_⟩
  rw [show (sld l).length - 4 = l.length by omega]
  unfold sld
  rw [List.drop_left, List.take_left]
theorem opened_sld (l : List UInt8) : opened (sld l) = l := by
  unfold opened
  have h := sld_len l
  rw [if_pos (opn_sld l), show (sld l).length - 4 = l.length by omega]
  unfold sld
  rw [List.take_left]
theorem opn_iff (l : List UInt8) (h : 4 ≤ l.length) : opn l = true ↔ sld (l.take (l.length - 4)) = l := by
  unfold opn
  rw [decide_eq_true_iff]
  constructor
  · intro ⟨_, h2⟩
    unfold sld
    rw [← h2, List.take_append_drop]
  · intro h2
    refine ⟨h, ?_⟩
    have : l.drop (l.length - 4) = (sld (l.take (l.length - 4))).drop (l.take (l.length - 4)).length := by
      rw [h2, List.length_take, Nat.min_eq_left (by omega)]
    rw [this]
    unfold sld
    rw [List.drop_left]
end PCrc
