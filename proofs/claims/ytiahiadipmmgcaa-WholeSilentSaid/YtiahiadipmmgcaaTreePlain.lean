/- A tree of who wins: what stands under a place, and that the winner of all is the least one. -/
namespace PTree
set_option linter.unusedVariables false

/-- Who wins of two places; -1 is none. -/
def wz (K : Nat → Int) (a b : Int) : Int :=
  if a = -1 then b else if b = -1 then a else if K a.toNat < K b.toNat then a else if K b.toNat < K a.toNat then b else min a b

/-- k stands at m, or ahead of it. -/
inductive Up : Nat → Nat → Prop where
  | refl (m : Nat) : Up m m
  | half {k m : Nat} : Up k (m / 2) → Up k m

theorem up_le {k m : Nat} (h : Up k m) : k ≤ m := by
  induction h with
  | refl => exact Nat.le_refl _
  | half _ ih => omega
theorem up_zero {k : Nat} (h : Up k 0) : k = 0 := by have := up_le h; omega
theorem up_one : ∀ (N m : Nat), m ≤ N → 0 < m → Up 1 m
  | 0, m, h, h0 => by omega
  | N + 1, m, h, h0 => by
    by_cases h1 : m = 1
    · subst h1; exact Up.refl 1
    · exact Up.half (up_one N (m / 2) (by omega) (by omega))
theorem up_trans {k c m : Nat} (hk : Up k c) (h : Up c m) : Up k m := by
  induction h with
  | refl => exact hk
  | half _ ih => exact Up.half ih
theorem up_two {k m : Nat} (h : Up (2 * k) m) : Up k m :=
  up_trans (Up.half (by rw [show 2 * k / 2 = k by omega]; exact Up.refl k)) h
theorem up_odd {k m : Nat} (h : Up (2 * k + 1) m) : Up k m :=
  up_trans (Up.half (by rw [show (2 * k + 1) / 2 = k by omega]; exact Up.refl k)) h
theorem up_step {k m : Nat} (h : Up k m) : k < m → Up (2 * k) m ∨ Up (2 * k + 1) m := by
  induction h with
  | refl => intro h; omega
  | @half m h ih =>
    intro hlt
    by_cases e : k = m / 2
    · by_cases e2 : m = 2 * k
      · subst e2; exact .inl (Up.refl _)
      · have e3 : m = 2 * k + 1 := by omega
        subst e3; exact .inr (Up.refl _)
    · have := up_le h
      exact (ih (by omega)).imp Up.half Up.half
theorem up_half {k m : Nat} (h : Up k m) (hlt : k ≠ m) : Up k (m / 2) := by
  cases h with
  | refl => exact absurd rfl hlt
  | half h => exact h
theorem up_leaf {n c i : Nat} (hc : n ≤ c) (hi : i < n) (h : Up c (n + i)) : c = n + i := by
  by_cases e : c = n + i
  · exact e
  · have := up_le (up_half h e); omega

/-- i wins against j. -/
def Beats (K : Nat → Int) (i j : Nat) : Prop := K i < K j ∨ (K i = K j ∧ i ≤ j)
theorem beats_trans {K : Nat → Int} {i j k : Nat} (h : Beats K i j) (h2 : Beats K j k) : Beats K i k := by
  unfold Beats at *; omega
theorem beats_refl (K : Nat → Int) (i : Nat) : Beats K i i := by unfold Beats; omega
/-- p is the place that wins of all those of S; -1: there is none. -/
def Best (K : Nat → Int) (S : Nat → Prop) (p : Int) : Prop := (p = -1 ∧ ∀ j, ¬ S j) ∨ ∃ i : Nat, p = i ∧ S i ∧ ∀ j, S j → Beats K i j

theorem best_two {K : Nat → Int} {S T U : Nat → Prop} {a b : Int} (h : Best K S a) (k : Best K T b) (hU : ∀ j, U j ↔ S j ∨ T j) : Best K U (wz K a b) := by
  rcases h with ⟨rfl, h0⟩ | ⟨i, rfl, hi, hb⟩
  · unfold wz; rw [if_pos rfl]
    rcases k with ⟨rfl, k0⟩ | ⟨j, rfl, hj, kb⟩
    · exact .inl ⟨rfl, fun j hj => ((hU j).1 hj).elim (h0 j) (k0 j)⟩
    · exact .inr ⟨j, rfl, (hU j).2 (.inr hj), fun x hx => ((hU x).1 hx).elim (fun h => absurd h (h0 x)) (kb x)⟩
  · rcases k with ⟨rfl, k0⟩ | ⟨j, rfl, hj, kb⟩
    · unfold wz; rw [if_neg (by omega), if_pos rfl]
      exact .inr ⟨i, rfl, (hU i).2 (.inl hi), fun x hx => ((hU x).1 hx).elim (hb x) (fun h => absurd h (k0 x))⟩
    · have hl : Beats K i j → Best K U i := fun hij => .inr ⟨i, rfl, (hU i).2 (.inl hi), fun x hx => ((hU x).1 hx).elim (hb x) (fun h => beats_trans hij (kb x h))⟩
      have hr : Beats K j i → Best K U j := fun hij => .inr ⟨j, rfl, (hU j).2 (.inr hj), fun x hx => ((hU x).1 hx).elim (fun h => beats_trans hij (hb x h)) (kb x)⟩
      unfold wz
      rw [if_neg (by omega), if_neg (by omega)]
      simp only [Int.toNat_natCast]
      by_cases e1 : K i < K j
      · rw [if_pos e1]; exact hl (.inl e1)
      · rw [if_neg e1]
        by_cases e2 : K j < K i
        · rw [if_pos e2]; exact hr (.inl e2)
        · rw [if_neg e2]
          by_cases e3 : i ≤ j
          · rw [show min (i : Int) (j : Int) = i by omega]; exact hl (.inr ⟨by omega, e3⟩)
          · rw [show min (i : Int) (j : Int) = j by omega]; exact hr (.inr ⟨by omega, by omega⟩)

/-- What a tree of n numbers K holds: at n + i the place i, or none; ahead of it who wins of two. Those at c, or ahead of it, may be wrong. -/
structure TMid (n : Nat) (K : Nat → Int) (out : Nat → Bool) (V : Nat → Int) (c : Nat) : Prop where
  leaf : ∀ i, i < n → V (n + i) = if out i then -1 else (i : Int)
  node : ∀ k, 0 < k → k < n → V k = wz K (V (2 * k)) (V (2 * k + 1)) ∨ Up k c
  rng : ∀ k, k < 2 * n → -1 ≤ V k ∧ V k < n
abbrev TInv (n : Nat) (K : Nat → Int) (out : Nat → Bool) (V : Nat → Int) : Prop := TMid n K out V 0

def put {α : Type} (f : Nat → α) (i : Nat) (x : α) : Nat → α := fun j => if j = i then x else f j
theorem put_same {α : Type} (f : Nat → α) (i : Nat) (x : α) : put f i x i = x := if_pos rfl
theorem put_other {α : Type} (f : Nat → α) (i : Nat) (x : α) {j : Nat} (h : j ≠ i) : put f i x j = f j := if_neg h

theorem wz_rng {K : Nat → Int} {a b n : Int} (ha : -1 ≤ a ∧ a < n) (hb : -1 ≤ b ∧ b < n) : -1 ≤ wz K a b ∧ wz K a b < n := by
  unfold wz
  (repeat' split) <;> omega

theorem TMid.right {n : Nat} {K : Nat → Int} {out : Nat → Bool} {V : Nat → Int} (h : TInv n K out V) (k : Nat) (h0 : 0 < k) (h1 : k < n) : V k = wz K (V (2 * k)) (V (2 * k + 1)) :=
  (h.node k h0 h1).elim id fun hu => by have := up_zero hu; omega

theorem TMid.best {n : Nat} {K : Nat → Int} {out : Nat → Bool} {V : Nat → Int} (h : TInv n K out V) : ∀ (N k : Nat), 2 * n - k ≤ N → 0 < k → k < 2 * n → Best K (fun j => j < n ∧ out j = false ∧ Up k (n + j)) (V k)
  | 0, k, hN, h0, h1 => by omega
  | N + 1, k, hN, h0, h1 => by
    by_cases hk : k < n
    · rw [h.right k h0 hk]
      refine best_two (TMid.best h N (2 * k) (by omega) (by omega) (by omega)) (TMid.best h N (2 * k + 1) (by omega) (by omega) (by omega)) fun j => ⟨?_, ?_⟩
      · rintro ⟨a, b, c⟩
        exact (up_step c (by omega)).imp (fun u => ⟨a, b, u⟩) (fun u => ⟨a, b, u⟩)
      · rintro (⟨a, b, c⟩ | ⟨a, b, c⟩)
        · exact ⟨a, b, up_two c⟩
        · exact ⟨a, b, up_odd c⟩
    · obtain ⟨i, rfl⟩ : ∃ i, k = n + i := ⟨k - n, by omega⟩
      rw [h.leaf i (by omega)]
      cases ho : out i
      · rw [if_neg (by simp)]
        refine .inr ⟨i, rfl, ⟨by omega, ho, Up.refl _⟩, fun j hj => ?_⟩
        have := up_leaf (by omega) hj.1 hj.2.2
        obtain rfl : j = i := by omega
        exact beats_refl K j
      · rw [if_pos rfl]
        refine .inl ⟨rfl, fun j hj => ?_⟩
        have := up_leaf (by omega) hj.1 hj.2.2
        obtain rfl : j = i := by omega
        rw [ho] at hj
        cases hj.2.1

theorem TMid.all {n : Nat} {K : Nat → Int} {out : Nat → Bool} {V : Nat → Int} (h : TInv n K out V) (hn : 0 < n) : Best K (fun j => j < n ∧ out j = false) (V 1) := by
  rcases h.best (2 * n) 1 (by omega) (by omega) (by omega) with ⟨h1, h2⟩ | ⟨i, h1, h2, h3⟩
  · exact .inl ⟨h1, fun j hj => h2 j ⟨hj.1, hj.2, up_one (n + j) _ (Nat.le_refl _) (by omega)⟩⟩
  · exact .inr ⟨i, h1, ⟨h2.1, h2.2.1⟩, fun j hj => h3 j ⟨hj.1, hj.2, up_one (n + j) _ (Nat.le_refl _) (by omega)⟩⟩

/-- Who has won at c is put right. -/
theorem TMid.play {n : Nat} {K : Nat → Int} {out : Nat → Bool} {V : Nat → Int} {c : Nat} (h : TMid n K out V c) (h0 : 0 < c) (h1 : c < n) : TMid n K out (put V c (wz K (V (2 * c)) (V (2 * c + 1)))) (c / 2) := by
  refine ⟨fun i hi => ?_, fun k k0 k1 => ?_, fun k hk => ?_⟩
  · rw [put_other _ _ _ (by omega)]; exact h.leaf i hi
  · by_cases e : k = c
    · subst e
      rw [put_same, put_other _ _ _ (by omega), put_other _ _ _ (by omega)]
      exact .inl rfl
    · rcases h.node k k0 k1 with hv | hu
      · by_cases e1 : 2 * k = c ∨ 2 * k + 1 = c
        · right
          have : c / 2 = k := by omega
          rw [this]; exact Up.refl k
        · left
          rw [put_other _ _ _ e, put_other _ _ _ (by omega), put_other _ _ _ (by omega)]
          exact hv
      · exact .inr (up_half hu e)
  · by_cases e : k = c
    · subst e; rw [put_same]; exact wz_rng (h.rng _ (by omega)) (h.rng _ (by omega))
    · rw [put_other _ _ _ e]; exact h.rng k hk

theorem TMid.leave {n : Nat} {K : Nat → Int} {out : Nat → Bool} {V : Nat → Int} (h : TInv n K out V) (i : Nat) (hi : i < n) (o : Bool) (v : Int) (hv : v = if o then -1 else (i : Int)) : TMid n K (put out i o) (put V (n + i) v) ((n + i) / 2) := by
  subst hv
  refine ⟨fun j hj => ?_, fun k k0 k1 => ?_, fun k hk => ?_⟩
  · by_cases e : j = i
    · subst e; rw [put_same, put_same]
    · rw [put_other _ _ _ (by omega), put_other _ _ _ e]; exact h.leaf j hj
  · by_cases e1 : 2 * k = n + i ∨ 2 * k + 1 = n + i
    · right
      have : (n + i) / 2 = k := by omega
      rw [this]; exact Up.refl k
    · left
      rw [put_other _ _ _ (by omega), put_other _ _ _ (by omega), put_other _ _ _ (by omega)]
      exact h.right k k0 k1
  · by_cases e : k = n + i
    · subst e; rw [put_same]; split <;> omega
    · rw [put_other _ _ _ e]; exact h.rng k hk

theorem wz_put {K : Nat → Int} {i : Nat} {x a b : Int} (ha : a ≠ i) (ha0 : -1 ≤ a) (hb : b ≠ i) (hb0 : -1 ≤ b) : wz (put K i x) a b = wz K a b := by
  unfold wz
  by_cases e1 : a = -1
  · rw [if_pos e1, if_pos e1]
  · rw [if_neg e1, if_neg e1]
    by_cases e2 : b = -1
    · rw [if_pos e2, if_pos e2]
    · rw [if_neg e2, if_neg e2, put_other K i x (j := a.toNat) (by omega), put_other K i x (j := b.toNat) (by omega)]

theorem TMid.under {n : Nat} {K : Nat → Int} {out : Nat → Bool} {V : Nat → Int} (h : TInv n K out V) {k i : Nat} (h0 : 0 < k) (h1 : k < 2 * n) (hv : V k = i) : Up k (n + i) := by
  rcases h.best (2 * n) k (by omega) h0 h1 with ⟨e, _⟩ | ⟨j, e, hj, _⟩
  · omega
  · obtain rfl : j = i := by omega
    exact hj.2.2

theorem TMid.set {n : Nat} {K : Nat → Int} {out : Nat → Bool} {V : Nat → Int} (h : TInv n K out V) (i : Nat) (hi : i < n) (x : Int) : TMid n (put K i x) out V ((n + i) / 2) := by
  refine ⟨h.leaf, fun k k0 k1 => ?_, h.rng⟩
  by_cases e1 : V (2 * k) = i
  · exact .inr (up_half (up_two (h.under (by omega) (by omega) e1)) (by omega))
  by_cases e2 : V (2 * k + 1) = i
  · exact .inr (up_half (up_odd (h.under (by omega) (by omega) e2)) (by omega))
  left
  rw [wz_put e1 (h.rng _ (by omega)).1 e2 (h.rng _ (by omega)).1]
  exact h.right k k0 k1

/-- While a tree is laid: those above c are right. -/
structure TNew (n : Nat) (K : Nat → Int) (out : Nat → Bool) (V : Nat → Int) (c : Nat) : Prop where
  leaf : ∀ i, i < n → V (n + i) = if out i then -1 else (i : Int)
  node : ∀ k, c < k → k < n → V k = wz K (V (2 * k)) (V (2 * k + 1))
  rng : ∀ k, k < 2 * n → -1 ≤ V k ∧ V k < n
theorem TNew.play {n : Nat} {K : Nat → Int} {out : Nat → Bool} {V : Nat → Int} {c : Nat} (h : TNew n K out V (c + 1)) (h1 : c + 1 < n) : TNew n K out (put V (c + 1) (wz K (V (2 * (c + 1))) (V (2 * (c + 1) + 1)))) c := by
  refine ⟨fun i hi => ?_, fun k k0 k1 => ?_, fun k hk => ?_⟩
  · rw [put_other _ _ _ (by omega)]; exact h.leaf i hi
  · by_cases e : k = c + 1
    · subst e
      rw [put_same, put_other _ _ _ (by omega), put_other _ _ _ (by omega)]
    · rw [put_other _ _ _ e, put_other _ _ _ (by omega), put_other _ _ _ (by omega)]
      exact h.node k (by omega) k1
  · by_cases e : k = c + 1
    · subst e; rw [put_same]; exact wz_rng (h.rng _ (by omega)) (h.rng _ (by omega))
    · rw [put_other _ _ _ e]; exact h.rng k hk
theorem TNew.inv {n : Nat} {K : Nat → Int} {out : Nat → Bool} {V : Nat → Int} (h : TNew n K out V 0) : TInv n K out V :=
  ⟨h.leaf, fun k k0 k1 => .inl (h.node k k0 k1), h.rng⟩

/-- The least of the first ones that aren't left out: its number, its place, whether there is one. -/
def scan (K : Nat → Int) (out : Nat → Bool) : Nat → Int × Int × Bool
  | 0 => (0, 0, false)
  | j + 1 => if out j = false ∧ ((scan K out j).2.2 = false ∨ K j < (scan K out j).1) then (K j, (j : Int), true) else scan K out j

theorem scan_none (K : Nat → Int) (out : Nat → Bool) : ∀ j, (scan K out j).2.2 = false → scan K out j = (0, 0, false) ∧ ∀ i, i < j → out i = true
  | 0, _ => ⟨rfl, fun i hi => by omega⟩
  | j + 1, h => by
    unfold scan at h ⊢
    split at h
    · cases h
    · rename_i hc
      obtain ⟨h1, h2⟩ := scan_none K out j h
      have ho : out j = true := by
        cases ho : out j
        · exact absurd ⟨ho, .inl h⟩ hc
        · rfl
      rw [if_neg hc]
      refine ⟨h1, fun i hi => ?_⟩
      by_cases e : i = j
      · subst e; exact ho
      · exact h2 i (by omega)
theorem scan_some (K : Nat → Int) (out : Nat → Bool) : ∀ j, (scan K out j).2.2 = true → ∃ i : Nat, scan K out j = (K i, (i : Int), true) ∧ i < j ∧ out i = false ∧ ∀ m, m < j → out m = false → Beats K i m
  | 0, h => by cases h
  | j + 1, h => by
    unfold scan at h ⊢
    by_cases hc : out j = false ∧ ((scan K out j).2.2 = false ∨ K j < (scan K out j).1)
    · rw [if_pos hc]
      refine ⟨j, rfl, by omega, hc.1, fun m hm ho => ?_⟩
      by_cases e : m = j
      · subst e; exact beats_refl K m
      · cases hs : (scan K out j).2.2
        · rw [(scan_none K out j hs).2 m (by omega)] at ho; cases ho
        · obtain ⟨i, e1, e2, e3, e4⟩ := scan_some K out j hs
          have hb := e4 m (by omega) ho
          rcases hc.2 with h0 | h0
          · rw [hs] at h0; cases h0
          · rw [e1] at h0
            unfold Beats at *
            left
            have h0' : K j < K i := h0
            omega
    · rw [if_neg hc] at h ⊢
      obtain ⟨i, e1, e2, e3, e4⟩ := scan_some K out j h
      refine ⟨i, e1, by omega, e3, fun m hm ho => ?_⟩
      by_cases e : m = j
      · subst e
        have : ¬ K m < (scan K out m).1 := fun hx => hc ⟨ho, .inr hx⟩
        rw [e1] at this
        unfold Beats
        have this' : ¬ K m < K i := this
        omega
      · exact e4 m (by omega) ho

/-- What a tree answers as the least one is what one finds going through all. -/
theorem TMid.least {n : Nat} {K : Nat → Int} {out : Nat → Bool} {V : Nat → Int} (h : TInv n K out V) (hn : 0 < n) : scan K out n = if V 1 = -1 then (0, 0, false) else (K (V 1).toNat, V 1, true) := by
  rcases h.all hn with ⟨e, h0⟩ | ⟨i, e, hi, hb⟩
  · rw [if_pos e]
    cases hs : (scan K out n).2.2
    · exact (scan_none K out n hs).1
    · obtain ⟨i, e1, e2, e3, e4⟩ := scan_some K out n hs
      exact absurd ⟨e2, e3⟩ (h0 i)
  · rw [if_neg (by omega), e]
    cases hs : (scan K out n).2.2
    · have := (scan_none K out n hs).2 i hi.1
      rw [hi.2] at this; cases this
    · obtain ⟨j, e1, e2, e3, e4⟩ := scan_some K out n hs
      have h1 := hb j ⟨e2, e3⟩
      have h2 := e4 i hi.1 hi.2
      obtain rfl : i = j := by unfold Beats at *; omega
      rw [e1]; rfl
end PTree
