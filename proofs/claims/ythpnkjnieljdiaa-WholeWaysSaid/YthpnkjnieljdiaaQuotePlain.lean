/- Texts in marks, as plain mathematics. -/
import Derived.Test.YthpnkjnieljdiaaSignPlain
import Derived.Test.YthpnkjnieljdiaaHexPlain
namespace PQuote
open PSign PHex
set_option linter.unusedVariables false

/-- A sign, or a stray byte, by its number, as it stands in marks. -/
def told (n : Int) : List UInt8 :=
  if n < 0 then [92, 120] ++ hex (-1 - n).toNat
  else if n < 32 ∨ 126 < n then [92, 117, 123] ++ hex n.toNat ++ [125]
  else if n = 34 ∨ n = 92 then [92, UInt8.ofNat n.toNat]
  else [UInt8.ofNat n.toNat]
def toldAll (l : List Int) : List UInt8 := l.flatMap told
def quote (l : List UInt8) : List UInt8 := 34 :: toldAll (signs l) ++ [34]

theorem sg_range (l : List UInt8) : -256 ≤ sg l ∧ sg l ≤ 1114111 := by
  have h1 := first_big l
  have h2 := byt_lt l 0
  rw [sg_of]
  split
  · omega
  · rename_i h
    have := h1 h
    omega
theorem told_len (n : Int) (h1 : -256 ≤ n) (h2 : n ≤ 1114111) : (told n).length ≤ 10 := by
  unfold told
  split
  · have := hex_len 1 (-1 - n).toNat (by omega)
    simp
    omega
  · split
    · have := hex_len 5 n.toNat (by omega)
      simp
      omega
    · split <;> simp
theorem toldAll_len (l : List Int) (h : ∀ n ∈ l, -256 ≤ n ∧ n ≤ 1114111) : (toldAll l).length ≤ 10 * l.length := by
  induction l with
  | nil => simp [toldAll]
  | cons n l ih =>
    have h1 := told_len n (h n (by simp)).1 (h n (by simp)).2
    have h2 := ih (fun x hx => h x (by simp [hx]))
    unfold toldAll at h2 ⊢
    rw [List.flatMap_cons, List.length_append, List.length_cons]
    omega
theorem toldAll_snoc (l : List Int) (n : Int) : toldAll (l ++ [n]) = toldAll l ++ told n := by
  unfold toldAll
  rw [List.flatMap_append]
  simp
theorem signs_range (l : List UInt8) : ∀ n ∈ signs l, -256 ≤ n ∧ n ≤ 1114111 := by
  have h : ∀ k (l : List UInt8), l.length ≤ k → ∀ n ∈ signs l, -256 ≤ n ∧ n ≤ 1114111 := by
    intro k
    induction k with
    | zero => intro l hl; have : l = [] := List.eq_nil_of_length_eq_zero (by omega); subst this; rw [signs_nil]; simp
    | succ k ih =>
      intro l hl
      by_cases hn : l = []
      · subst hn; rw [signs_nil]; simp
      · have h1 := stp_pos l
        rw [signs_cons l hn]
        intro n hm
        rcases List.mem_cons.1 hm with rfl | hm
        · exact sg_range l
        · exact ih (l.drop (stp l)) (by rw [List.length_drop]; omega) n hm
  exact h _ l (Nat.le_refl _)
end PQuote
