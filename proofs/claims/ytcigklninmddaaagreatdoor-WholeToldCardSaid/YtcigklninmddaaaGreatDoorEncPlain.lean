/- What a text's signs are told by is the text. -/
import Derived.Test.YtcigklninmddaaaGreatDoorKSPlain
namespace PQuote
open Go PSign PHex
set_option linter.unusedVariables false

/-- The bytes of a sign, or the stray byte, by its number. -/
def enc (z : Int) : List UInt8 := if z < 0 then [UInt8.ofNat (-1 - z).toNat] else (Utf8.encode z).data.toList

theorem byt_of {l : List UInt8} {k x : Nat} (h : x = byt l k) : UInt8.ofNat x = l.getD k 0 := by
  rw [h]
  unfold byt
  simp
theorem take1 (l : List UInt8) (h : 1 ≤ l.length) : l.take 1 = [l.getD 0 0] := by
  match l, h with
  | a :: r, _ => rfl
theorem take2 (l : List UInt8) (h : 2 ≤ l.length) : l.take 2 = [l.getD 0 0, l.getD 1 0] := by
  match l, h with
  | a :: b :: r, _ => rfl
theorem take3 (l : List UInt8) (h : 3 ≤ l.length) : l.take 3 = [l.getD 0 0, l.getD 1 0, l.getD 2 0] := by
  match l, h with
  | a :: b :: c :: r, _ => rfl
theorem take4 (l : List UInt8) (h : 4 ≤ l.length) : l.take 4 = [l.getD 0 0, l.getD 1 0, l.getD 2 0, l.getD 3 0] := by
  match l, h with
  | a :: b :: c :: d :: r, _ => rfl

theorem valid_of (n : Nat) (h1 : n ≤ 1114111) (h2 : ¬ (55296 ≤ n ∧ n ≤ 57343)) : Utf8.valid (n : Int) = true := by
  unfold Utf8.valid
  simp
  omega

theorem fit_cases (n least m : Nat) (hm : m ≠ 0) : (fit n least m).2 = 0 ∨ (fit n least m = (n, m) ∧ least ≤ n ∧ n ≤ 1114111 ∧ ¬ (55296 ≤ n ∧ n ≤ 57343)) := by
  unfold fit
  split
  · exact .inl rfl
  · exact .inr ⟨rfl, by omega, by omega, by omega⟩

theorem enc_first (l : List UInt8) (hne : l ≠ []) (h : (first l).2 ≠ 0) : (Utf8.encode ((first l).1 : Int)).data.toList = l.take (first l).2 := by
  have hl : 1 ≤ l.length := List.length_pos_iff.2 hne
  unfold first at h ⊢
  by_cases c1 : byt l 0 < 128
  · rw [if_pos c1]
    have hv := valid_of (byt l 0) (by omega) (by omega)
    unfold Utf8.encode
    simp only [hv, if_true, Int.toNat_natCast]
    rw [if_pos (by omega), take1 l hl, byt_of rfl]
  · rw [if_neg c1] at h ⊢
    by_cases c2 : 192 ≤ byt l 0 ∧ byt l 0 < 224
    · rw [if_pos c2] at h ⊢
      by_cases d : con l 1
      · rw [if_pos d] at h ⊢
        obtain ⟨hk, h1, h2⟩ := d
        rcases fit_cases ((byt l 0 - 192) * 64 + (byt l 1 - 128)) 128 2 (by decide) with h0 | ⟨he, h3, h4, h5⟩
        · exact absurd h0 h
        · rw [he]
          have hv := valid_of _ h4 h5
          have hn : (byt l 0 - 192) * 64 + (byt l 1 - 128) ≤ 2047 := by omega
          unfold Utf8.encode
          simp only [hv, if_true, Int.toNat_natCast]
          rw [if_neg (by omega), if_pos (by omega), take2 l (by omega), byt_of (l := l) (k := 0) (by omega), byt_of (l := l) (k := 1) (by omega)]
      · rw [if_neg d] at h; exact absurd rfl h
    · rw [if_neg c2] at h ⊢
      by_cases c3 : 224 ≤ byt l 0 ∧ byt l 0 < 240
      · rw [if_pos c3] at h ⊢
        by_cases d : con l 1 ∧ con l 2
        · rw [if_pos d] at h ⊢
          obtain ⟨⟨_, h1, h2⟩, ⟨hk, h3, h4⟩⟩ := d
          rcases fit_cases (((byt l 0 - 224) * 64 + (byt l 1 - 128)) * 64 + (byt l 2 - 128)) 2048 3 (by decide) with h0 | ⟨he, h5, h6, h7⟩
          · exact absurd h0 h
          · rw [he]
            have hv := valid_of _ h6 h7
            have hn : ((byt l 0 - 224) * 64 + (byt l 1 - 128)) * 64 + (byt l 2 - 128) ≤ 65535 := by omega
            unfold Utf8.encode
            simp only [hv, if_true, Int.toNat_natCast]
            rw [if_neg (by omega), if_neg (by omega), if_pos (by omega), take3 l (by omega), byt_of (l := l) (k := 0) (by omega), byt_of (l := l) (k := 1) (by omega), byt_of (l := l) (k := 2) (by omega)]
        · rw [if_neg d] at h; exact absurd rfl h
      · rw [if_neg c3] at h ⊢
        by_cases c4 : 240 ≤ byt l 0 ∧ byt l 0 < 248
        · rw [if_pos c4] at h ⊢
          by_cases d : con l 1 ∧ con l 2 ∧ con l 3
          · rw [if_pos d] at h ⊢
            obtain ⟨⟨_, h1, h2⟩, ⟨_, h3, h4⟩, ⟨hk, h5, h6⟩⟩ := d
            rcases fit_cases ((((byt l 0 - 240) * 64 + (byt l 1 - 128)) * 64 + (byt l 2 - 128)) * 64 + (byt l 3 - 128)) 65536 4 (by decide) with h0 | ⟨he, h7, h8, h9⟩
            · exact absurd h0 h
            · rw [he]
              have hv := valid_of _ h8 h9
              unfold Utf8.encode
              simp only [hv, if_true, Int.toNat_natCast]
              rw [if_neg (by omega), if_neg (by omega), if_neg (by omega), take4 l (by omega), byt_of (l := l) (k := 0) (by omega), byt_of (l := l) (k := 1) (by omega), byt_of (l := l) (k := 2) (by omega), byt_of (l := l) (k := 3) (by omega)]
          · rw [if_neg d] at h; exact absurd rfl h
        · rw [if_neg c4] at h; exact absurd rfl h

theorem enc_sg (l : List UInt8) (hne : l ≠ []) : enc (sg l) = l.take (stp l) := by
  have hl : 1 ≤ l.length := List.length_pos_iff.2 hne
  unfold enc stp
  rw [sg_of]
  by_cases h : (first l).2 = 0
  · rw [if_pos h, if_pos h, if_pos (by omega), take1 l hl, byt_of (l := l) (k := 0) (by omega)]
  · rw [if_neg h, if_neg h, if_neg (by omega), enc_first l hne h]
theorem sg_stray (l : List UInt8) (h : sg l < 0) : 128 ≤ (-1 - sg l).toNat ∧ (-1 - sg l).toNat ≤ 255 := by
  have hb := byt_lt l 0
  rw [sg_of] at h ⊢
  by_cases h0 : (first l).2 = 0
  · rw [if_pos h0]
    have h128 : ¬ byt l 0 < 128 := by
      intro hc
      unfold first at h0
      rw [if_pos hc] at h0
      cases h0
    omega
  · rw [if_neg h0] at h
    omega
end PQuote
