/- Plain facts on records as bytes, and on rows of these. -/
import Derived.Test.YthpnkjnieljdiaaVarPlain
import Derived.Test.YthpnkjnieljdiaaCrcPlain
namespace Go.Proofs.Ythpnkjnieljdiaa
namespace PFrame
open PVar PCrc

/-- A record: its kind, its time, its text. -/
abbrev R := Int × Int × List UInt8
def zr : R := (0, 0, [])
def body (k t : Int) (x : List UInt8) : List UInt8 := UInt8.ofNat k.toNat :: (digs (fold t) ++ x)
def err (k t : Int) (x : List UInt8) : Nat := if k ≠ 1 ∧ k ≠ 2 then 3 else if 65536 < (body k t x).length then 4 else 0
def enc (k t : Int) (x : List UInt8) : List UInt8 := digs (body k t x).length ++ sld (body k t x)

/-- The record of a body. -/
def rget : List UInt8 → R × Nat
  | [] => (zr, 3)
  | c :: r => if c.toNat ≠ 1 ∧ c.toNat ≠ 2 then (zr, 3) else if (get r).2.2 ≠ 0 then (zr, (get r).2.2) else (((c.toNat : Int), back (get r).1, r.drop (get r).2.1), 0)

theorem rget_cons (c : UInt8) (r : List UInt8) : rget (c :: r) = if c.toNat ≠ 1 ∧ c.toNat ≠ 2 then (zr, 3) else if (get r).2.2 ≠ 0 then (zr, (get r).2.2) else (((c.toNat : Int), back (get r).1, r.drop (get r).2.1), 0) := rfl

def fget (l : List UInt8) : R × Nat × Nat :=
  if (get l).2.2 ≠ 0 then (zr, 0, (get l).2.2) else
  if (get l).1 < 2 ∨ 65536 < (get l).1 then (zr, 0, 4) else
  if l.length < (get l).2.1 + (get l).1 + 4 then (zr, 0, 1) else
  if sld ((l.drop (get l).2.1).take (get l).1) ≠ (l.drop (get l).2.1).take ((get l).1 + 4) then (zr, 0, 5) else
  if (rget ((l.drop (get l).2.1).take (get l).1)).2 ≠ 0 then (zr, 0, (rget ((l.drop (get l).2.1).take (get l).1)).2) else
  ((rget ((l.drop (get l).2.1).take (get l).1)).1, (get l).2.1 + (get l).1 + 4, 0)

/-- What should be a body's seal, and how many bytes it and its length have. -/
def ffirst (l : List UInt8) : List UInt8 × Nat × Nat :=
  if (get l).2.2 ≠ 0 then ([], 0, (get l).2.2) else
  if (get l).1 < 2 ∨ 65536 < (get l).1 then ([], 0, 4) else
  if l.length < (get l).2.1 + (get l).1 + 4 then ([], 0, 1) else
  ((l.drop (get l).2.1).take ((get l).1 + 4), (get l).2.1 + (get l).1 + 4, 0)

theorem ffirst_bad {l : List UInt8} (h : (ffirst l).2.2 ≠ 0) : ffirst l = ([], 0, (ffirst l).2.2) ∧ fget l = (zr, 0, (ffirst l).2.2) := by
  unfold ffirst fget at *
  by_cases h1 : (get l).2.2 ≠ 0
  · simp only [if_pos h1]; exact ⟨trivial, trivial⟩
  simp only [if_neg h1] at h ⊢
  by_cases h2 : (get l).1 < 2 ∨ 65536 < (get l).1
  · simp only [if_pos h2]; exact ⟨trivial, trivial⟩
  simp only [if_neg h2] at h ⊢
  by_cases h3 : l.length < (get l).2.1 + (get l).1 + 4
  · simp only [if_pos h3]; exact ⟨trivial, trivial⟩
  simp only [if_neg h3] at h ⊢
  exact absurd rfl h

/-- Where the front is whole. -/
theorem ffirst_ok {l : List UInt8} (h : (ffirst l).2.2 = 0) : ∃ n k : Nat, get l = (k, n, 0) ∧ 2 ≤ k ∧ k ≤ 65536 ∧ n + k + 4 ≤ l.length ∧ 1 ≤ n ∧ ffirst l = ((l.drop n).take (k + 4), n + k + 4, 0) ∧
    fget l = if opn ((l.drop n).take (k + 4)) = false then (zr, 0, 5) else if (rget (opened ((l.drop n).take (k + 4)))).2 ≠ 0 then (zr, 0, (rget (opened ((l.drop n).take (k + 4)))).2) else ((rget (opened ((l.drop n).take (k + 4)))).1, n + k + 4, 0) := by
  by_cases h1 : (get l).2.2 ≠ 0
  · unfold ffirst at h; rw [if_pos h1] at h; exact absurd h h1
  by_cases h2 : (get l).1 < 2 ∨ 65536 < (get l).1
  · unfold ffirst at h; rw [if_neg h1, if_pos h2] at h; cases h
  by_cases h3 : l.length < (get l).2.1 + (get l).1 + 4
  · unfold ffirst at h; rw [if_neg h1, if_neg h2, if_pos h3] at h; cases h
  have e1 : (get l).2.2 = 0 := Decidable.not_not.1 h1
  obtain ⟨s1, _, _, _⟩ := @get_spec l (get l).1 (get l).2.1 (by rw [← e1])
  have hp := digs_pos (get l).1
  have hlen : ((l.drop (get l).2.1).take ((get l).1 + 4)).length = (get l).1 + 4 := by rw [List.length_take, List.length_drop]; omega
  have hi := opn_iff ((l.drop (get l).2.1).take ((get l).1 + 4)) (by omega)
  rw [hlen, show (get l).1 + 4 - 4 = (get l).1 by omega, List.take_take, Nat.min_eq_left (by omega)] at hi
  refine ⟨(get l).2.1, (get l).1, by rw [← e1], by omega, by omega, by omega, by omega, by unfold ffirst; rw [if_neg h1, if_neg h2, if_neg h3], ?_⟩
  unfold fget
  rw [if_neg h1, if_neg h2, if_neg h3]
  by_cases h4 : opn ((l.drop (get l).2.1).take ((get l).1 + 4)) = true
  · have ho : opened ((l.drop (get l).2.1).take ((get l).1 + 4)) = (l.drop (get l).2.1).take (get l).1 := by
      unfold opened
      rw [if_pos h4, hlen, show (get l).1 + 4 - 4 = (get l).1 by omega, List.take_take, Nat.min_eq_left (by omega)]
    rw [if_neg (fun h => h (hi.1 h4)), ho, h4, if_neg (show ¬ (true = false) by decide)]
  · rw [if_pos (fun h => h4 (hi.2 h)), if_pos (by simpa using h4)]

theorem body_len (k t : Int) (x : List UInt8) : (body k t x).length = 1 + (digs (fold t)).length + x.length := by unfold body; simp; omega
theorem body_two (k t : Int) (x : List UInt8) : 2 ≤ (body k t x).length := by rw [body_len]; have := digs_pos (fold t); omega
theorem enc_len (k t : Int) (x : List UInt8) : (enc k t x).length = (digs (body k t x).length).length + (body k t x).length + 4 := by unfold enc; rw [List.length_append, sld_len]; omega
theorem err_kind {k t : Int} {x : List UInt8} (h : err k t x = 0) : k = 1 ∨ k = 2 := by
  unfold err at h; split at h
  · cases h
  · omega
theorem err_len {k t : Int} {x : List UInt8} (h : err k t x = 0) : (body k t x).length ≤ 65536 := by
  unfold err at h; split at h
  · cases h
  · split at h
    · cases h
    · omega
theorem err_zero {k t : Int} {x : List UInt8} (h1 : k = 1 ∨ k = 2) (h2 : (body k t x).length ≤ 65536) : err k t x = 0 := by
  unfold err; rw [if_neg (by omega), if_neg (by omega)]
theorem err_any (k t : Int) (x : List UInt8) : err k t x = 0 ∨ err k t x = 3 ∨ err k t x = 4 := by
  unfold err; split
  · simp
  · split <;> simp

theorem rget_body {k t : Int} {x : List UInt8} (hk : k = 1 ∨ k = 2) (h1 : -9223372036854775808 ≤ t) (h2 : t ≤ 9223372036854775807) : rget (body k t x) = ((k, t, x), 0) := by
  have hg := get_digs (fold t) (fold_le h1 h2) x
  have hu : (UInt8.ofNat k.toNat).toNat = k.toNat := u8_of (by omega)
  unfold body
  rw [rget_cons, hu, if_neg (by omega), hg, if_neg (by simp), back_fold, List.drop_left]
  have : ((k.toNat : Nat) : Int) = k := by omega
  rw [this]

theorem fget_enc {k t : Int} {x : List UInt8} (h : err k t x = 0) (h1 : -9223372036854775808 ≤ t) (h2 : t ≤ 9223372036854775807) (more : List UInt8) :
    fget (enc k t x ++ more) = ((k, t, x), (enc k t x).length, 0) := by
  have hk := err_kind h
  have hl := err_len h
  have h2' := body_two k t x
  have hen := enc_len k t x
  have hr := @rget_body k t x hk h1 h2
  have he : enc k t x ++ more = digs (body k t x).length ++ (sld (body k t x) ++ more) := by unfold enc; rw [List.append_assoc]
  have hg := get_digs (body k t x).length (by omega) (sld (body k t x) ++ more)
  have hlen : (enc k t x ++ more).length = (enc k t x).length + more.length := List.length_append
  rw [← he] at hg
  have hd : (enc k t x ++ more).drop (digs (body k t x).length).length = sld (body k t x) ++ more := by rw [he, List.drop_left]
  have ht1 : (sld (body k t x) ++ more).take (body k t x).length = body k t x := by unfold sld; rw [List.append_assoc, List.take_left]
  have ht2 : (sld (body k t x) ++ more).take ((body k t x).length + 4) = sld (body k t x) := by rw [← sld_len, List.take_left]
  unfold fget
  rw [hg]
  simp only [hd, ht1, ht2, hr]
  rw [if_neg (by simp), if_neg (by omega), if_neg (by omega), if_neg (by simp), if_neg (by simp), hen]

theorem rget_spec {b : List UInt8} {k t : Int} {x : List UInt8} (h : rget b = ((k, t, x), 0)) : b = body k t x ∧ (k = 1 ∨ k = 2) ∧ -9223372036854775808 ≤ t ∧ t ≤ 9223372036854775807 := by
  cases b with
  | nil => simp [rget] at h
  | cons c r =>
    rw [rget_cons] at h
    by_cases h1 : c.toNat ≠ 1 ∧ c.toNat ≠ 2
    · rw [if_pos h1] at h; simp at h
    · rw [if_neg h1] at h
      by_cases h2 : (get r).2.2 ≠ 0
      · rw [if_pos h2] at h
        simp at h
        exact absurd h.2 h2
      · rw [if_neg h2] at h
        simp at h2
        have hs := @get_spec r (get r).1 (get r).2.1 (by rw [← h2])
        simp only [Prod.mk.injEq, and_true] at h
        obtain ⟨rfl, rfl, rfl⟩ := h
        obtain ⟨s1, s2, s3, s4⟩ := hs
        have hb := back_in s4
        have hf : fold (back (get r).1) = (get r).1 := by unfold fold back; split <;> split <;> omega
        refine ⟨?_, by omega, hb.1, hb.2⟩
        unfold body
        rw [hf, ← s2, List.take_append_drop]
        simp

theorem fget_spec {l : List UInt8} {k t : Int} {x : List UInt8} {n : Nat} (h : fget l = ((k, t, x), n, 0)) :
    err k t x = 0 ∧ -9223372036854775808 ≤ t ∧ t ≤ 9223372036854775807 ∧ l.take n = enc k t x ∧ n = (enc k t x).length ∧ n ≤ l.length := by
  unfold fget at h
  by_cases h1 : (get l).2.2 ≠ 0
  · rw [if_pos h1] at h; simp at h; exact absurd h.2.2 h1
  rw [if_neg h1] at h
  by_cases h2 : (get l).1 < 2 ∨ 65536 < (get l).1
  · rw [if_pos h2] at h; simp at h
  rw [if_neg h2] at h
  by_cases h3 : l.length < (get l).2.1 + (get l).1 + 4
  · rw [if_pos h3] at h; simp at h
  rw [if_neg h3] at h
  by_cases h4 : sld ((l.drop (get l).2.1).take (get l).1) ≠ (l.drop (get l).2.1).take ((get l).1 + 4)
  · rw [if_pos h4] at h; simp at h
  rw [if_neg h4] at h
  by_cases h5 : (rget ((l.drop (get l).2.1).take (get l).1)).2 ≠ 0
  · rw [if_pos h5] at h; simp at h; exact absurd h.2.2 h5
  rw [if_neg h5] at h
  simp at h1 h4 h5
  obtain ⟨s1, s2, s3, s4⟩ := @get_spec l (get l).1 (get l).2.1 (by rw [← h1])
  have hr := @rget_spec ((l.drop (get l).2.1).take (get l).1) k t x (by
    have := (Prod.mk.inj h).1
    rw [← this, ← h5])
  have hn : (get l).2.1 + (get l).1 + 4 = n := by simpa using (Prod.mk.inj (Prod.mk.inj h).2).1
  obtain ⟨r1, r2, r3, r4⟩ := hr
  generalize get l = g at *
  have hbl : (body k t x).length = g.1 := by rw [← r1, List.length_take, List.length_drop]; omega
  have hen : l.take n = enc k t x := by
    unfold enc
    rw [hbl, ← r1, h4, ← s2, ← hn]
    rw [show g.2.1 + g.1 + 4 = g.2.1 + (g.1 + 4) by omega]
    exact List.take_add
  refine ⟨err_zero r2 (by omega), r3, r4, hen, ?_, by omega⟩
  rw [enc_len, hbl, ← s1, hn]

theorem rget_err (b : List UInt8) : (rget b).2 = 0 ∨ ((rget b).1 = zr ∧ ((rget b).2 = 1 ∨ (rget b).2 = 2 ∨ (rget b).2 = 3)) := by
  cases b with
  | nil => right; exact ⟨rfl, .inr (.inr rfl)⟩
  | cons c r =>
    rw [rget_cons]
    split
    · right; exact ⟨rfl, .inr (.inr rfl)⟩
    · split
      · rename_i h1 h2
        right
        refine ⟨rfl, ?_⟩
        rcases get_err r with h | h | h
        · exact absurd h h2
        · left; rw [h]
        · right; left; rw [h]
      · left; rfl

/-- Beside an error all is zero; an error is one of five. -/
theorem fget_err (l : List UInt8) : (fget l).2.2 = 0 ∨ ∃ e : Nat, fget l = (zr, 0, e) ∧ 1 ≤ e ∧ e ≤ 5 := by
  unfold fget
  split
  · rename_i h
    right
    refine ⟨_, rfl, ?_⟩
    rcases get_err l with h' | h' | h'
    · exact absurd h' h
    · rw [h']; simp
    · rw [h']; simp
  · split
    · right; exact ⟨4, rfl, by omega, by omega⟩
    · split
      · right; exact ⟨1, rfl, by omega, by omega⟩
      · split
        · right; exact ⟨5, rfl, by omega, by omega⟩
        · split
          · rename_i h
            right
            refine ⟨_, rfl, ?_⟩
            rcases rget_err ((l.drop (get l).2.1).take (get l).1) with h' | ⟨_, h'⟩
            · exact absurd h' h
            · omega
          · left; rfl

/-! ### A part of a record's bytes -/

theorem go_part : ∀ (j m i acc : Nat), j < (digs m).length → m * 128 ^ i ≤ 18446744073709551615 → go i acc ((digs m).take j) = (0, 0, 1)
  | 0, m, i, acc, _, _ => by rw [List.take_zero, go_nil]
  | j + 1, m, i, acc, hj, hm => by
    by_cases hn : m < 128
    · rw [digs_low hn] at hj; simp at hj
    · rw [digs_high (by omega)] at hj ⊢
      have hu := u8_of (n := m % 128 + 128) (by omega)
      have hi9 : i ≤ 8 := by
        refine Decidable.byContradiction fun h => ?_
        have h1 : 128 ^ 9 ≤ 128 ^ i := Nat.pow_le_pow_right (by omega) (by omega)
        have h3 : (128 : Nat) ^ 9 = 9223372036854775808 := by decide
        have h4 : 128 * 128 ^ i ≤ m * 128 ^ i := Nat.mul_le_mul_right _ (by omega)
        omega
      have hs : (m / 128) * 128 ^ (i + 1) ≤ m * 128 ^ i := by
        rw [Nat.pow_succ, Nat.mul_comm (128 ^ i) 128, ← Nat.mul_assoc]
        exact Nat.mul_le_mul_right _ (by omega)
      rw [List.take_succ_cons, go_on (by omega) (by omega)]
      exact go_part j (m / 128) (i + 1) _ (by simpa using hj) (by omega)
theorem get_part (j m : Nat) (hj : j < (digs m).length) (hm : m ≤ 18446744073709551615) : get ((digs m).take j) = (0, 0, 1) := go_part j m 0 0 hj (by simpa using hm)

theorem fget_part {k t : Int} {x : List UInt8} (h : err k t x = 0) (j : Nat) (hj : j < (enc k t x).length) : fget ((enc k t x).take j) = (zr, 0, 1) := by
  have hl := err_len h
  have h2 := body_two k t x
  have hen := enc_len k t x
  by_cases hd : j < (digs (body k t x).length).length
  · have e1 : (enc k t x).take j = (digs (body k t x).length).take j := by unfold enc; rw [List.take_append_of_le_length (by omega)]
    rw [e1]
    unfold fget
    rw [get_part _ _ hd (by omega)]
    simp
  · have e1 : (enc k t x).take j = digs (body k t x).length ++ (sld (body k t x)).take (j - (digs (body k t x).length).length) := by
      unfold enc
      rw [List.take_append, List.take_of_length_le (by omega)]
    have hlen : ((enc k t x).take j).length = j := by rw [List.length_take]; omega
    have hg := get_digs (body k t x).length (by omega) ((sld (body k t x)).take (j - (digs (body k t x).length).length))
    rw [← e1] at hg
    unfold fget
    rw [hg, hlen]
    simp only
    rw [if_neg (by simp), if_neg (by omega), if_pos (by omega)]

/-- The bytes of one record begin no other one's. -/
theorem enc_pre {k t k' t' : Int} {x x' : List UInt8} (h : err k t x = 0) (h' : err k' t' x' = 0) (h1 : -9223372036854775808 ≤ t) (h2 : t ≤ 9223372036854775807) (h3 : -9223372036854775808 ≤ t') (h4 : t' ≤ 9223372036854775807)
    (he : enc k t x = (enc k' t' x').take (enc k t x).length) : k = k' ∧ t = t' ∧ x = x' := by
  have a := fget_enc h h1 h2 ((enc k' t' x').drop (enc k t x).length)
  have b := fget_enc h' h3 h4 []
  have e : enc k t x ++ (enc k' t' x').drop (enc k t x).length = enc k' t' x' ++ [] := by
    rw [List.append_nil]
    conv => lhs; lhs; rw [he]
    exact List.take_append_drop _ _
  rw [e, b] at a
  simp only [Prod.mk.injEq] at a
  exact ⟨a.1.1.symm, a.1.2.1.symm, a.1.2.2.symm⟩

/-! ### Rows of records -/

def okR (r : R) : Prop := err r.1 r.2.1 r.2.2 = 0 ∧ -9223372036854775808 ≤ r.2.1 ∧ r.2.1 ≤ 9223372036854775807
def encR (r : R) : List UInt8 := enc r.1 r.2.1 r.2.2
def build : List R → List UInt8
  | [] => []
  | r :: rs => encR r ++ build rs
def parse (l : List UInt8) : List R × Nat × Nat :=
  if _hl : l = [] then ([], 0, 0) else
  if _h : (fget l).2.2 = 0 ∧ 0 < (fget l).2.1 then
    ((fget l).1 :: (parse (l.drop (fget l).2.1)).1, (fget l).2.1 + (parse (l.drop (fget l).2.1)).2.1, (parse (l.drop (fget l).2.1)).2.2)
  else ([], 0, (fget l).2.2)
termination_by l.length
decreasing_by all_goals (rw [List.length_drop]; have : 0 < l.length := List.length_pos_iff.2 _hl; omega)

theorem parse_nil : parse [] = ([], 0, 0) := by rw [parse]; simp
theorem parse_bad {l : List UInt8} (h : l ≠ []) (hf : (fget l).2.2 ≠ 0) : parse l = ([], 0, (fget l).2.2) := by
  rw [parse, dif_neg h, dif_neg (by omega)]
theorem encR_pos (r : R) : 7 ≤ (encR r).length := by unfold encR; rw [enc_len]; have := body_two r.1 r.2.1 r.2.2; have := digs_pos (body r.1 r.2.1 r.2.2).length; omega
theorem parse_more {l : List UInt8} {r : R} {n : Nat} (hf : fget l = (r, n, 0)) :
    parse l = (r :: (parse (l.drop n)).1, n + (parse (l.drop n)).2.1, (parse (l.drop n)).2.2) := by
  obtain ⟨k, t, x⟩ := r
  obtain ⟨_, _, _, _, h5, h6⟩ := fget_spec hf
  have := encR_pos (k, t, x)
  unfold encR at this
  simp only at this
  have hl : l ≠ [] := by intro e; subst e; simp at h6; omega
  rw [parse, dif_neg hl, hf, dif_pos (by simp; omega)]

theorem fget_encR {r : R} (h : okR r) (more : List UInt8) : fget (encR r ++ more) = (r, (encR r).length, 0) := fget_enc h.1 h.2.1 h.2.2 more

theorem build_append : ∀ (a b : List R), build (a ++ b) = build a ++ build b
  | [], b => rfl
  | r :: a, b => by show encR r ++ build (a ++ b) = (encR r ++ build a) ++ build b; rw [build_append a b, List.append_assoc]

theorem parse_build : ∀ (rs : List R), (∀ r ∈ rs, okR r) → ∀ (more : List UInt8), parse (build rs ++ more) = (rs ++ (parse more).1, (build rs).length + (parse more).2.1, (parse more).2.2)
  | [], _, more => by simp [build]
  | r :: rs, h, more => by
    have e : build (r :: rs) ++ more = encR r ++ (build rs ++ more) := by show (encR r ++ build rs) ++ more = _; rw [List.append_assoc]
    have hf := fget_encR (h r (List.mem_cons_self ..)) (build rs ++ more)
    rw [e, parse_more hf, List.drop_left, parse_build rs (fun r hr => h r (List.mem_cons_of_mem _ hr)) more]
    simp only [Prod.mk.injEq, and_true]
    refine ⟨rfl, ?_⟩
    show _ = (encR r ++ build rs).length + _
    rw [List.length_append]
    omega

theorem fget_ok {l : List UInt8} {r : R} {n : Nat} (h : fget l = (r, n, 0)) : okR r ∧ l.take n = encR r ∧ n = (encR r).length ∧ n ≤ l.length := by
  obtain ⟨k, t, x⟩ := r
  obtain ⟨h1, h2, h3, h4, h5, h6⟩ := fget_spec h
  exact ⟨⟨h1, h2, h3⟩, h4, h5, h6⟩

theorem parse_spec : ∀ (m : Nat) (l : List UInt8), l.length ≤ m → (∀ r ∈ (parse l).1, okR r) ∧ build (parse l).1 = l.take (parse l).2.1 ∧ (parse l).2.1 ≤ l.length ∧ ((parse l).2.2 = 0 ↔ (parse l).2.1 = l.length) ∧ (parse l).2.2 ≤ 5
  | 0, l, h => by
    have : l = [] := List.eq_nil_of_length_eq_zero (by omega)
    subst this
    rw [parse_nil]
    simp [build]
  | m + 1, l, h => by
    by_cases hl : l = []
    · subst hl
      rw [parse_nil]
      simp [build]
    have hpos : 0 < l.length := List.length_pos_iff.2 hl
    rcases fget_err l with he | ⟨e, he, h1, h5⟩
    · obtain ⟨r, n, e, hf⟩ : ∃ r n e, fget l = (r, n, e) := ⟨_, _, _, rfl⟩
      rw [hf] at he
      simp only at he
      subst he
      obtain ⟨o1, o2, o3, o4⟩ := fget_ok hf
      have hp := encR_pos r
      have hd : (l.drop n).length = l.length - n := List.length_drop
      obtain ⟨i1, i2, i3, i4, i5⟩ := parse_spec m (l.drop n) (by omega)
      rw [parse_more hf]
      refine ⟨?_, ?_, ?_, ?_, i5⟩
      · intro x hx
        rcases List.mem_cons.1 hx with rfl | hx
        · exact o1
        · exact i1 x hx
      · show encR r ++ build _ = _
        rw [i2, ← o2]
        exact List.take_add.symm
      · show n + _ ≤ _
        omega
      · show _ ↔ n + _ = _
        rw [i4]
        omega
    · have hb := parse_bad hl (by rw [he]; simp; omega)
      rw [hb, he]
      simp [build]
      omega

/-- How many records are whole within k bytes. -/
def whole : List R → Nat → Nat
  | [], _ => 0
  | r :: rs, k => if (encR r).length ≤ k then 1 + whole rs (k - (encR r).length) else 0

theorem whole_cons (r : R) (rs : List R) (k : Nat) : whole (r :: rs) k = if (encR r).length ≤ k then 1 + whole rs (k - (encR r).length) else 0 := rfl

theorem whole_le : ∀ (rs : List R) (k : Nat), whole rs k ≤ rs.length
  | [], _ => Nat.le_refl _
  | r :: rs, k => by
    unfold whole
    split
    · have := whole_le rs (k - (encR r).length); simp; omega
    · simp
theorem whole_fit : ∀ (rs : List R) (k : Nat), (build (rs.take (whole rs k))).length ≤ k
  | [], k => by simp [build]
  | r :: rs, k => by
    unfold whole
    split
    · have := whole_fit rs (k - (encR r).length)
      rw [Nat.add_comm 1, List.take_succ_cons]
      show (encR r ++ build _).length ≤ k
      rw [List.length_append]
      omega
    · simp [build]
/-- The count, one by one. -/
theorem whole_at : ∀ (rs : List R) (k n : Nat) (hn : n < rs.length), (build (rs.take n)).length ≤ k → (n < whole rs k ↔ (build (rs.take n)).length + (encR rs[n]).length ≤ k)
  | r :: rs, k, 0, hn, _ => by
    unfold whole
    simp [build]
    split <;> omega
  | r :: rs, k, n + 1, hn, h => by
    rw [List.take_succ_cons] at h ⊢
    have e : (build (r :: rs.take n)).length = (encR r).length + (build (rs.take n)).length := by show (encR r ++ build _).length = _; rw [List.length_append]
    rw [e] at h ⊢
    unfold whole
    rw [if_pos (by omega)]
    have := whole_at rs (k - (encR r).length) n (by simpa using hn) (by omega)
    simp only [List.getElem_cons_succ]
    omega

theorem parse_cut : ∀ (rs : List R), (∀ r ∈ rs, okR r) → ∀ (k : Nat), k ≤ (build rs).length →
    parse ((build rs).take k) = (rs.take (whole rs k), (build (rs.take (whole rs k))).length, if (build (rs.take (whole rs k))).length = k then 0 else 1)
  | [], _, k, hk => by
    have : k = 0 := by simpa [build] using hk
    subst this
    simp [build, parse_nil]
  | r :: rs, h, k, hk => by
    have hr := h r (List.mem_cons_self ..)
    have hp := encR_pos r
    have hb : build (r :: rs) = encR r ++ build rs := rfl
    have hlen : (build (r :: rs)).length = (encR r).length + (build rs).length := by rw [hb, List.length_append]
    by_cases hle : (encR r).length ≤ k
    · have e : (build (r :: rs)).take k = encR r ++ (build rs).take (k - (encR r).length) := by rw [hb, List.take_append, List.take_of_length_le hle]
      have hf := fget_encR hr ((build rs).take (k - (encR r).length))
      have hw : whole (r :: rs) k = whole rs (k - (encR r).length) + 1 := by rw [whole_cons, if_pos hle, Nat.add_comm]
      have ih := parse_cut rs (fun r hr => h r (List.mem_cons_of_mem _ hr)) (k - (encR r).length) (by omega)
      rw [e, parse_more hf, List.drop_left, hw, List.take_succ_cons, ih]
      have e2 : (build (r :: rs.take (whole rs (k - (encR r).length)))).length = (encR r).length + (build (rs.take (whole rs (k - (encR r).length)))).length := by show (encR r ++ build _).length = _; rw [List.length_append]
      rw [e2]
      simp only [Prod.mk.injEq, true_and]
      by_cases h0 : (build (rs.take (whole rs (k - (encR r).length)))).length = k - (encR r).length
      · rw [if_pos h0, if_pos (by omega)]
      · rw [if_neg h0, if_neg (by omega)]
    · have hw : whole (r :: rs) k = 0 := by rw [whole_cons, if_neg hle]
      have e : (build (r :: rs)).take k = (encR r).take k := by rw [hb, List.take_append_of_le_length (by omega)]
      rw [hw, e, List.take_zero]
      by_cases h0 : k = 0
      · subst h0
        simp [build, parse_nil]
      · have hne : (encR r).take k ≠ [] := by
          intro hx
          have := congrArg List.length hx
          rw [List.length_take] at this
          simp only [List.length_nil] at this
          omega
        have hfp := fget_part hr.1 k (by unfold encR at hle; omega)
        have hbad := parse_bad hne (by unfold encR; rw [hfp]; simp)
        rw [hbad]
        unfold encR
        rw [hfp]
        show ([], 0, 1) = ([], 0, if 0 = k then 0 else 1)
        rw [if_neg (Ne.symm h0)]
end PFrame
end Go.Proofs.Ythpnkjnieljdiaa
