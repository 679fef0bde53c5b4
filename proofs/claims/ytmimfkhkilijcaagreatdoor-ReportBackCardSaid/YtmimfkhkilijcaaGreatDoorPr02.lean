/- KSPlain: what is reached of them. -/
import Derived.Laws.RangeAny
import Derived.Lib.Strings
namespace PSign
open Go
set_option linter.unusedVariables false

def byt (l : List UInt8) (k : Nat) : Nat := (l.getD k 0).toNat
theorem byt_lt (l : List UInt8) (k : Nat) : byt l k < 256 := UInt8.toNat_lt _
/-- Is there such a byte, and one that stands behind a sign's first one? -/
def con (l : List UInt8) (k : Nat) : Prop := k < l.length ∧ 128 ≤ byt l k ∧ byt l k < 192
instance (l : List UInt8) (k : Nat) : Decidable (con l k) := inferInstanceAs (Decidable (_ ∧ _))
def fit (n least m : Nat) : Nat × Nat := if n < least ∨ 1114111 < n ∨ (55296 ≤ n ∧ n ≤ 57343) then (0, 0) else (n, m)
/-- The sign at the front, and how many bytes it has; 0: none. -/
def first (l : List UInt8) : Nat × Nat :=
  if byt l 0 < 128 then (byt l 0, 1)
  else if 192 ≤ byt l 0 ∧ byt l 0 < 224 then (if con l 1 then fit ((byt l 0 - 192) * 64 + (byt l 1 - 128)) 128 2 else (0, 0))
  else if 224 ≤ byt l 0 ∧ byt l 0 < 240 then (if con l 1 ∧ con l 2 then fit (((byt l 0 - 224) * 64 + (byt l 1 - 128)) * 64 + (byt l 2 - 128)) 2048 3 else (0, 0))
  else if 240 ≤ byt l 0 ∧ byt l 0 < 248 then (if con l 1 ∧ con l 2 ∧ con l 3 then fit ((((byt l 0 - 240) * 64 + (byt l 1 - 128)) * 64 + (byt l 2 - 128)) * 64 + (byt l 3 - 128)) 65536 4 else (0, 0))
  else (0, 0)
/-- By how many bytes one goes on. -/
def stp (l : List UInt8) : Nat := if (first l).2 = 0 then 1 else (first l).2
/-- The number told. -/
def sg (l : List UInt8) : Int := if (first l).2 = 0 then -(byt l 0 : Int) - 1 else ((first l).1 : Int)

theorem fit_len {n least m : Nat} : (fit n least m).2 = 0 ∨ (fit n least m).2 = m := by unfold fit; split <;> simp
theorem first_le (l : List UInt8) (h : l ≠ []) : (first l).2 ≤ l.length := by
  have hl : 0 < l.length := List.length_pos_iff.2 h
  unfold first
  split
  · exact hl
  · split
    · split
      · rename_i hc
        have := hc.1
        rcases fit_len (n := (byt l 0 - 192) * 64 + (byt l 1 - 128)) (least := 128) (m := 2) with e | e <;> rw [e] <;> omega
      · exact Nat.zero_le _
    · split
      · split
        · rename_i hc
          have := hc.2.1
          rcases fit_len (n := ((byt l 0 - 224) * 64 + (byt l 1 - 128)) * 64 + (byt l 2 - 128)) (least := 2048) (m := 3) with e | e <;> rw [e] <;> omega
        · exact Nat.zero_le _
      · split
        · split
          · rename_i hc
            have := hc.2.2.1
            rcases fit_len (n := (((byt l 0 - 240) * 64 + (byt l 1 - 128)) * 64 + (byt l 2 - 128)) * 64 + (byt l 3 - 128)) (least := 65536) (m := 4) with e | e <;> rw [e] <;> omega
          · exact Nat.zero_le _
        · exact Nat.zero_le _
theorem stp_pos (l : List UInt8) : 1 ≤ stp l := by unfold stp; split <;> omega
theorem stp_le (l : List UInt8) (h : l ≠ []) : stp l ≤ l.length := by
  have h1 := first_le l h
  have h2 : 0 < l.length := List.length_pos_iff.2 h
  unfold stp
  split <;> omega

def signs (l : List UInt8) : List Int := if h : l = [] then [] else sg l :: signs (l.drop (stp l))
termination_by l.length
decreasing_by
  rw [List.length_drop]
  have := stp_pos l
  have : 0 < l.length := List.length_pos_iff.2 h
  omega
theorem signs_nil : signs [] = [] := by rw [signs, dif_pos rfl]
theorem signs_cons (l : List UInt8) (h : l ≠ []) : signs l = sg l :: signs (l.drop (stp l)) := by rw [signs, dif_neg h]

/-! ### The model's reading -/
theorem get_byt (s : ByteArray) (pos k : Nat) : (s.get! (pos + k)).toNat = byt (s.data.toList.drop pos) k := by
  unfold byt
  rw [List.getD_eq_getElem?_getD, List.getElem?_drop]
  by_cases h : pos + k < s.size
  · have h' : pos + k < s.data.size := h
    show (s.data[pos + k]!).toNat = _
    rw [getElem!_pos s.data (pos + k) h']
    simp
    rw [Array.getElem?_eq_getElem h']
    rfl
  · have h' : ¬ pos + k < s.data.size := h
    show (s.data[pos + k]!).toNat = _
    rw [getElem!_neg s.data (pos + k) h']
    simp
    rw [Array.getElem?_eq_none (by omega)]
    rfl

theorem decode_first (s : ByteArray) (pos : Nat) : Utf8.decode s pos = if (first (s.data.toList.drop pos)).2 = 0 then (65533, 1) else first (s.data.toList.drop pos) := by
  have hlen : ∀ k, pos + k < s.size ↔ k < (s.data.toList.drop pos).length := by
    intro k
    rw [List.length_drop]
    have : s.data.toList.length = s.size := by simp
    omega
  generalize hl : s.data.toList.drop pos = l at *
  have hb : ∀ k, (s.get! (pos + k)).toNat = byt l k := by intro k; rw [← hl]; exact get_byt s pos k
  have h0 := byt_lt l 0
  have hcon : ∀ k, (decide (pos + k < s.size) && (byt l k / 64 == 2)) = decide (con l k) := by
    intro k
    have hk := byt_lt l k
    rw [Bool.eq_iff_iff, Bool.and_eq_true, decide_eq_true_eq, decide_eq_true_eq, beq_iff_eq, hlen k]
    unfold con
    constructor
    · intro ⟨a, b⟩
      exact ⟨a, by omega, by omega⟩
    · intro ⟨a, b, c⟩
      exact ⟨a, by omega⟩
  unfold Utf8.decode
  simp only [hb, hcon]
  unfold first
  by_cases c1 : byt l 0 < 128
  · rw [if_pos c1, if_pos c1]; rfl
  · rw [if_neg c1, if_neg c1]
    by_cases c2 : 192 ≤ byt l 0 ∧ byt l 0 < 224
    · have e6 : (byt l 0 / 32 == 6) = true := by rw [beq_iff_eq]; omega
      have e14 : (byt l 0 / 16 == 14) = false := by rw [beq_eq_false_iff_ne]; omega
      have e30 : (byt l 0 / 8 == 30) = false := by rw [beq_eq_false_iff_ne]; omega
      rw [if_pos c2]
      simp only [e6, e14, e30, Bool.true_and, Bool.false_and]
      by_cases d1 : con l 1
      · obtain ⟨_, h1, h2⟩ := d1
        have d1 : con l 1 := ⟨by assumption, h1, h2⟩
        rw [show byt l 0 % 32 = byt l 0 - 192 by omega, show byt l 1 % 64 = byt l 1 - 128 by omega]
        simp only [d1, decide_true, if_true]
        have hm : (byt l 0 - 192) * 64 + (byt l 1 - 128) ≤ 2047 := by omega
        generalize (byt l 0 - 192) * 64 + (byt l 1 - 128) = n at *
        by_cases hn : n < 128
        · have hfit : fit n 128 2 = (0, 0) := by unfold fit; rw [if_pos (.inl hn)]
          rw [hfit, if_neg (by omega)]; rfl
        · have hfit : fit n 128 2 = (n, 2) := by unfold fit; rw [if_neg (by omega)]
          rw [hfit, if_pos (by omega)]; rfl
      · simp [d1, Utf8.runeError]
    · rw [if_neg c2]
      have e6 : (byt l 0 / 32 == 6) = false := by rw [beq_eq_false_iff_ne]; omega
      by_cases c3 : 224 ≤ byt l 0 ∧ byt l 0 < 240
      · have e14 : (byt l 0 / 16 == 14) = true := by rw [beq_iff_eq]; omega
        have e30 : (byt l 0 / 8 == 30) = false := by rw [beq_eq_false_iff_ne]; omega
        rw [if_pos c3]
        simp only [e6, e14, e30, Bool.true_and, Bool.false_and]
        by_cases d : con l 1 ∧ con l 2
        · obtain ⟨⟨_, h1, h2⟩, ⟨_, h3, h4⟩⟩ := id d
          rw [show byt l 0 % 16 = byt l 0 - 224 by omega, show byt l 1 % 64 = byt l 1 - 128 by omega, show byt l 2 % 64 = byt l 2 - 128 by omega,
            show (byt l 0 - 224) * 4096 + (byt l 1 - 128) * 64 + (byt l 2 - 128) = ((byt l 0 - 224) * 64 + (byt l 1 - 128)) * 64 + (byt l 2 - 128) by omega]
          have hm : ((byt l 0 - 224) * 64 + (byt l 1 - 128)) * 64 + (byt l 2 - 128) ≤ 65535 := by omega
          simp only [d.1, d.2, decide_true, Bool.and_self, if_true, and_self, Bool.false_eq_true, if_false]
          unfold fit
          generalize ((byt l 0 - 224) * 64 + (byt l 1 - 128)) * 64 + (byt l 2 - 128) = n at *
          have hv : Utf8.valid (n : Int) = decide (n < 55296 ∨ 57344 ≤ n) := by
            unfold Utf8.valid
            rw [Bool.eq_iff_iff]
            simp
            omega
          rw [hv]
          by_cases hn : n < 2048 ∨ 1114111 < n ∨ (55296 ≤ n ∧ n ≤ 57343)
          · rw [if_neg (by simp; omega), if_pos hn]; rfl
          · rw [if_pos (by simp; omega), if_neg hn]; rfl
        · rw [if_neg d]
          have : (decide (con l 1) && decide (con l 2)) = false := by rw [Bool.eq_false_iff]; simpa using d
          simp [this, Utf8.runeError]
      · rw [if_neg c3]
        have e14 : (byt l 0 / 16 == 14) = false := by rw [beq_eq_false_iff_ne]; omega
        by_cases c4 : 240 ≤ byt l 0 ∧ byt l 0 < 248
        · have e30 : (byt l 0 / 8 == 30) = true := by rw [beq_iff_eq]; omega
          rw [if_pos c4]
          simp only [e6, e14, e30, Bool.true_and, Bool.false_and]
          by_cases d : con l 1 ∧ con l 2 ∧ con l 3
          · obtain ⟨⟨_, h1, h2⟩, ⟨_, h3, h4⟩, ⟨_, h5, h6⟩⟩ := id d
            rw [show byt l 0 % 8 = byt l 0 - 240 by omega, show byt l 1 % 64 = byt l 1 - 128 by omega, show byt l 2 % 64 = byt l 2 - 128 by omega, show byt l 3 % 64 = byt l 3 - 128 by omega,
              show (byt l 0 - 240) * 262144 + (byt l 1 - 128) * 4096 + (byt l 2 - 128) * 64 + (byt l 3 - 128) = (((byt l 0 - 240) * 64 + (byt l 1 - 128)) * 64 + (byt l 2 - 128)) * 64 + (byt l 3 - 128) by omega]
            simp only [d.1, d.2.1, d.2.2, decide_true, Bool.and_self, if_true, and_self, Bool.false_eq_true, if_false]
            unfold fit
            generalize (((byt l 0 - 240) * 64 + (byt l 1 - 128)) * 64 + (byt l 2 - 128)) * 64 + (byt l 3 - 128) = n at *
            have hv : Utf8.valid (n : Int) = decide (n < 55296 ∨ (57344 ≤ n ∧ n ≤ 1114111)) := by
              unfold Utf8.valid
              rw [Bool.eq_iff_iff]
              simp
              omega
            rw [hv]
            by_cases hn : n < 65536 ∨ 1114111 < n ∨ (55296 ≤ n ∧ n ≤ 57343)
            · rw [if_neg (by simp; omega), if_pos hn]; rfl
            · rw [if_pos (by simp; omega), if_neg hn]; rfl
          · rw [if_neg d]
            have : (decide (con l 1) && decide (con l 2) && decide (con l 3)) = false := by rw [Bool.eq_false_iff]; simpa [and_assoc] using d
            simp [this, Utf8.runeError]
        · rw [if_neg c4]
          have e30 : (byt l 0 / 8 == 30) = false := by rw [beq_eq_false_iff_ne]; omega
          simp [e6, e14, e30, Utf8.runeError]

theorem con_iff (l : List UInt8) (k : Nat) : con l k ↔ k < l.length ∧ 128 ≤ byt l k ∧ byt l k < 192 := Iff.rfl
/-- The sign that stands for stray bytes, and its bytes. -/
theorem first_bad (l : List UInt8) : (first l).1 = 65533 ∧ (first l).2 ≠ 0 ↔ 3 ≤ l.length ∧ byt l 0 = 239 ∧ byt l 1 = 191 ∧ byt l 2 = 189 := by
  have b0 := byt_lt l 0
  have b1 := byt_lt l 1
  have b2 := byt_lt l 2
  have b3 := byt_lt l 3
  unfold first fit
  repeat' split
  all_goals (try simp only [con_iff] at *)
  all_goals (try simp only [ne_eq, not_true_eq_false, and_false, false_iff, Nat.reduceEqDiff, not_false_eq_true, and_true])
  all_goals omega
theorem first_big (l : List UInt8) : (first l).2 ≠ 0 → (first l).1 ≤ 1114111 := by
  have b0 := byt_lt l 0
  unfold first fit
  repeat' split
  all_goals (try simp only [ne_eq, not_true_eq_false, false_imp_iff])
  all_goals omega
theorem sg_of (l : List UInt8) : sg l = if (first l).2 = 0 then -(byt l 0 : Int) - 1 else ((first l).1 : Int) := rfl
end PSign

/- Digits of 16, as plain mathematics. -/
namespace PHex
set_option linter.unusedVariables false

/-- A digit. -/
def dig (d : Nat) : UInt8 := if d < 10 then UInt8.ofNat (48 + d) else UInt8.ofNat (87 + d)
/-- A number's digits, the highest first. -/
def hex (n : Nat) : List UInt8 := if n < 16 then [dig n] else hex (n / 16) ++ [dig (n % 16)]
termination_by n
decreasing_by omega
theorem hex_low {n : Nat} (h : n < 16) : hex n = [dig n] := by rw [hex, if_pos h]
theorem hex_high {n : Nat} (h : 16 ≤ n) : hex n = hex (n / 16) ++ [dig (n % 16)] := by rw [hex, if_neg (by omega)]
theorem hex_len : ∀ (k n : Nat), n < 16 ^ (k + 1) → (hex n).length ≤ k + 1
  | 0, n, h => by rw [hex_low (by simpa using h)]; simp
  | k + 1, n, h => by
    by_cases h16 : n < 16
    · rw [hex_low h16]; simp
    · rw [hex_high (by omega), List.length_append]
      have : n / 16 < 16 ^ (k + 1) := by rw [Nat.pow_succ] at h; omega
      have := hex_len k (n / 16) this
      simp
      omega
theorem hex_pos (n : Nat) : 1 ≤ (hex n).length := by
  by_cases h : n < 16
  · rw [hex_low h]; simp
  · rw [hex_high (by omega), List.length_append]; simp
theorem hex_len64 {n : Nat} (h : n < 18446744073709551616) : (hex n).length ≤ 16 := hex_len 15 n (by simpa using h)

/-- A digit's number, of a byte; 16: it is none. -/
def val (c : UInt8) : Nat := if 48 ≤ c.toNat ∧ c.toNat ≤ 57 then c.toNat - 48 else if 97 ≤ c.toNat ∧ c.toNat ≤ 102 then c.toNat - 87 else if 65 ≤ c.toNat ∧ c.toNat ≤ 70 then c.toNat - 55 else 16
theorem val_dig : ∀ d, d < 16 → val (dig d) = d := by decide
theorem dig_range : ∀ d, d < 16 → (48 ≤ (dig d).toNat ∧ (dig d).toNat ≤ 57) ∨ (97 ≤ (dig d).toNat ∧ (dig d).toNat ≤ 102) := by decide
theorem hex_mem {c : UInt8} : ∀ n, c ∈ hex n → ∃ d, d < 16 ∧ c = dig d := by
  intro n
  induction n using Nat.strongRecOn with
  | _ n ih =>
    intro h
    by_cases h16 : n < 16
    · rw [hex_low h16] at h
      exact ⟨n, h16, by simpa using h⟩
    · rw [hex_high (by omega)] at h
      rcases List.mem_append.1 h with h | h
      · exact ih (n / 16) (by omega) h
      · exact ⟨n % 16, by omega, by simpa using h⟩

/-- The number that digits read as. -/
def num (l : List UInt8) : Nat := l.foldl (fun a c => a * 16 + val c) 0
theorem num_snoc (l : List UInt8) (c : UInt8) : num (l ++ [c]) = num l * 16 + val c := by unfold num; rw [List.foldl_append]; rfl
theorem num_hex (n : Nat) : num (hex n) = n := by
  induction n using Nat.strongRecOn with
  | _ n ih =>
    by_cases h : n < 16
    · rw [hex_low h]
      have := val_dig n h
      show 0 * 16 + val (dig n) = n
      omega
    · rw [hex_high (by omega), num_snoc, ih (n / 16) (by omega), val_dig _ (by omega)]
      omega
end PHex

/- Texts in marks, as plain mathematics. -/
namespace PQuote
open PSign PHex
set_option linter.unusedVariables false

/-- A sign, or a stray byte, by its number, as it stands in marks. -/
def told (n : Int) : List UInt8 :=
  if n < 0 then [92, 120] ++ hex (-1 - n).toNat
  else if n < 32 ∨ 126 < n then [92, 117, 123] ++ hex n.toNat ++ [125]
  else if n = 34 ∨ n = 92 then [92, UInt8.ofNat n.toNat]
  else [UInt8.ofNat n.toNat]
def toldAll (l : List Int) : List UInt8 := l.flatMap told
def quote (l : List UInt8) : List UInt8 := 34 :: toldAll (signs l) ++ [34]

theorem sg_range (l : List UInt8) : -256 ≤ sg l ∧ sg l ≤ 1114111 := by
  have h1 := first_big l
  have h2 := byt_lt l 0
  rw [sg_of]
  split
  · omega
  · rename_i h
    have := h1 h
    omega
theorem told_len (n : Int) (h1 : -256 ≤ n) (h2 : n ≤ 1114111) : (told n).length ≤ 10 := by
  unfold told
  split
  · have := hex_len 1 (-1 - n).toNat (by omega)
    simp
    omega
  · split
    · have := hex_len 5 n.toNat (by omega)
      simp
      omega
    · split <;> simp
theorem toldAll_len (l : List Int) (h : ∀ n ∈ l, -256 ≤ n ∧ n ≤ 1114111) : (toldAll l).length ≤ 10 * l.length := by
  induction l with
  | nil => simp [toldAll]
  | cons n l ih =>
    have h1 := told_len n (h n (by simp)).1 (h n (by simp)).2
    have h2 := ih (fun x hx => h x (by simp [hx]))
    unfold toldAll at h2 ⊢
    rw [List.flatMap_cons, List.length_append, List.length_cons]
    omega
theorem toldAll_snoc (l : List Int) (n : Int) : toldAll (l ++ [n]) = toldAll l ++ told n := by
  unfold toldAll
  rw [List.flatMap_append]
  simp
theorem signs_range (l : List UInt8) : ∀ n ∈ signs l, -256 ≤ n ∧ n ≤ 1114111 := by
  have h : ∀ k (l : List UInt8), l.length ≤ k → ∀ n ∈ signs l, -256 ≤ n ∧ n ≤ 1114111 := by
    intro k
    induction k with
    | zero => intro l hl; have : l = [] := List.eq_nil_of_length_eq_zero (by omega); subst this; rw [signs_nil]; simp
    | succ k ih =>
      intro l hl
      by_cases hn : l = []
      · subst hn; rw [signs_nil]; simp
      · have h1 := stp_pos l
        rw [signs_cons l hn]
        intro n hm
        rcases List.mem_cons.1 hm with rfl | hm
        · exact sg_range l
        · exact ih (l.drop (stp l)) (by rw [List.length_drop]; omega) n hm
  exact h _ l (Nat.le_refl _)
end PQuote
