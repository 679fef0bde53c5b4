/- Plain facts on rows of numbers, sorted and counted: the document's least ones are the sorted row's. -/
namespace Go.Proofs.Ythpnkjnieljdiaa
namespace PHist

/-- How many are no greater. -/
def cnt (l : List Int) (n : Int) : Nat := (l.filter fun x => decide (x ≤ n)).length
/-- One more, in its place. -/
def ins (x : Int) : List Int → List Int
  | [] => [x]
  | y :: l => if x ≤ y then x :: y :: l else y :: ins x l
def srt : List Int → List Int
  | [] => []
  | x :: l => ins x (srt l)
/-- The least one of a row of which P holds, as the document looks for it. -/
def lstep (P : Int → Bool) (acc : Int × Bool) (x : Int) : Int × Bool := if P x = true ∧ (acc.2 = false ∨ x < acc.1) then (x, true) else acc
def least (P : Int → Bool) (l : List Int) : Int × Bool := l.foldl (lstep P) (0, false)

theorem ins_perm (x : Int) : ∀ l : List Int, (ins x l).Perm (x :: l)
  | [] => List.Perm.refl _
  | y :: l => by
    unfold ins
    split
    · exact List.Perm.refl _
    · exact ((ins_perm x l).cons y).trans (List.Perm.swap x y l)
theorem srt_perm : ∀ l : List Int, (srt l).Perm l
  | [] => List.Perm.refl _
  | x :: l => (ins_perm x (srt l)).trans ((srt_perm l).cons x)
theorem srt_len (l : List Int) : (srt l).length = l.length := (srt_perm l).length_eq
theorem ins_mem (x y : Int) (l : List Int) : y ∈ ins x l ↔ y = x ∨ y ∈ l := by rw [(ins_perm x l).mem_iff]; simp
theorem srt_mem (y : Int) (l : List Int) : y ∈ srt l ↔ y ∈ l := (srt_perm l).mem_iff

theorem ins_sorted (x : Int) : ∀ l : List Int, l.Pairwise (· ≤ ·) → (ins x l).Pairwise (· ≤ ·)
  | [], _ => by simp [ins]
  | y :: l, h => by
    have hc := List.pairwise_cons.1 h
    unfold ins
    split
    · rename_i hxy
      refine List.pairwise_cons.2 ⟨fun z hz => ?_, h⟩
      rcases List.mem_cons.1 hz with rfl | hz
      · exact hxy
      · exact Int.le_trans hxy (hc.1 z hz)
    · rename_i hxy
      refine List.pairwise_cons.2 ⟨fun z hz => ?_, ins_sorted x l hc.2⟩
      rcases (ins_mem x z l).1 hz with rfl | hz
      · omega
      · exact hc.1 z hz
theorem srt_sorted : ∀ l : List Int, (srt l).Pairwise (· ≤ ·)
  | [] => List.Pairwise.nil
  | x :: l => ins_sorted x _ (srt_sorted l)

theorem cnt_perm {a b : List Int} (h : a.Perm b) (n : Int) : cnt a n = cnt b n := (h.filter _).length_eq
theorem cnt_le (l : List Int) (n : Int) : cnt l n ≤ l.length := List.length_filter_le _ _
theorem cnt_cons (x : Int) (l : List Int) (n : Int) : cnt (x :: l) n = (if x ≤ n then 1 else 0) + cnt l n := by
  unfold cnt
  by_cases h : x ≤ n
  · rw [List.filter_cons_of_pos (by simpa using h), if_pos h, List.length_cons]; omega
  · rw [List.filter_cons_of_neg (by simpa using h), if_neg h]; omega
theorem cnt_append (a b : List Int) (n : Int) : cnt (a ++ b) n = cnt a n + cnt b n := by
  unfold cnt
  rw [List.filter_append, List.length_append]
theorem cnt_all {l : List Int} {n : Int} (h : ∀ x ∈ l, x ≤ n) : cnt l n = l.length := by
  unfold cnt
  rw [List.filter_eq_self.2 (fun x hx => by simpa using h x hx)]
theorem cnt_none {l : List Int} {n : Int} (h : ∀ x ∈ l, n < x) : cnt l n = 0 := by
  unfold cnt
  rw [List.filter_eq_nil_iff.2 (fun x hx => by have := h x hx; simp; omega)]
  rfl
theorem cnt_snoc (l : List Int) (k : Nat) (h : k < l.length) (n : Int) : cnt (l.take (k + 1)) n = cnt (l.take k) n + if l[k] ≤ n then 1 else 0 := by
  rw [List.take_succ_eq_append_getElem h, cnt_append, cnt_cons]
  rfl

/-- A sorted row's ranks: at least k + 1 are no greater than the one at place k; and where m are no greater than n, the one at place m - 1 isn't either. -/
theorem sorted_le {s : List Int} (hs : s.Pairwise (· ≤ ·)) (i j : Nat) (hij : i ≤ j) (hj : j < s.length) : s[i] ≤ s[j] := by
  rcases Nat.lt_or_ge i j with h | h
  · exact List.pairwise_iff_getElem.1 hs i j (by omega) hj h
  · have : i = j := by omega
    subst this
    exact Int.le_refl _
theorem cnt_rank {s : List Int} (hs : s.Pairwise (· ≤ ·)) (k : Nat) (hk : k < s.length) : k + 1 ≤ cnt s s[k] := by
  have e : s = s.take (k + 1) ++ s.drop (k + 1) := (List.take_append_drop _ _).symm
  have h1 : cnt (s.take (k + 1)) s[k] = (s.take (k + 1)).length := cnt_all (fun x hx => by
    obtain ⟨i, hi, rfl⟩ := List.mem_iff_getElem.1 hx
    rw [List.getElem_take]
    rw [List.length_take] at hi
    exact sorted_le hs i k (by omega) hk)
  have h2 : cnt s s[k] = cnt (s.take (k + 1)) s[k] + cnt (s.drop (k + 1)) s[k] := by rw [← cnt_append, List.take_append_drop]
  rw [List.length_take] at h1
  omega
theorem rank_of_cnt {s : List Int} (hs : s.Pairwise (· ≤ ·)) (n : Int) (m : Nat) (hm : 1 ≤ m) (hc : m ≤ cnt s n) : ∃ h : m - 1 < s.length, s[m - 1] ≤ n := by
  have hl := cnt_le s n
  refine ⟨by omega, ?_⟩
  refine Decidable.byContradiction fun hgt => ?_
  have h2 : cnt s n = cnt (s.take (m - 1)) n + cnt (s.drop (m - 1)) n := by rw [← cnt_append, List.take_append_drop]
  have h3 : cnt (s.drop (m - 1)) n = 0 := cnt_none (fun x hx => by
    obtain ⟨i, hi, rfl⟩ := List.mem_iff_getElem.1 hx
    rw [List.getElem_drop]
    rw [List.length_drop] at hi
    have := sorted_le hs (m - 1) (m - 1 + i) (by omega) (by omega)
    omega)
  have h4 := cnt_le (s.take (m - 1)) n
  rw [List.length_take] at h4
  omega

/-- What the document's search comes to. -/
theorem least_spec (P : Int → Bool) : ∀ (l : List Int) (acc : Int × Bool), acc.2 = true ∨ acc = (0, false) →
    let r := l.foldl (lstep P) acc
    (r.2 = true ∧ ((acc.2 = true ∧ r.1 = acc.1) ∨ (r.1 ∈ l ∧ P r.1 = true)) ∧ (acc.2 = true → r.1 ≤ acc.1) ∧ ∀ x ∈ l, P x = true → r.1 ≤ x) ∨ (r = (0, false) ∧ acc = (0, false) ∧ ∀ x ∈ l, P x = false)
  | [], acc, h => by
    rcases h with h | h
    · left; exact ⟨h, .inl ⟨h, rfl⟩, fun _ => Int.le_refl _, by simp⟩
    · right; subst h; exact ⟨rfl, rfl, by simp⟩
  | y :: l, acc, h => by
    intro r
    by_cases hy : P y = true ∧ (acc.2 = false ∨ y < acc.1)
    · have hst : lstep P acc y = (y, true) := if_pos hy
      have ih := least_spec P l (y, true) (.inl rfl)
      have hr : r = l.foldl (lstep P) (y, true) := by show l.foldl (lstep P) (lstep P acc y) = _; rw [hst]
      simp only [← hr] at ih
      rcases ih with ⟨h1, h2, h3, h4⟩ | ⟨_, h2, _⟩
      · left
        have hry : r.1 ≤ y := h3 trivial
        refine ⟨h1, .inr ?_, fun ha => ?_, fun x hx hp => ?_⟩
        · rcases h2 with ⟨_, h2⟩ | ⟨h2, h2'⟩
          · rw [h2]; exact ⟨List.mem_cons_self .., hy.1⟩
          · exact ⟨List.mem_cons_of_mem _ h2, h2'⟩
        · rcases hy.2 with h' | h'
          · rw [ha] at h'; cases h'
          · omega
        · rcases List.mem_cons.1 hx with rfl | hx
          · exact hry
          · exact h4 x hx hp
      · cases h2
    · have hst : lstep P acc y = acc := if_neg hy
      have ih := least_spec P l acc h
      have hr : r = l.foldl (lstep P) acc := by show l.foldl (lstep P) (lstep P acc y) = _; rw [hst]
      simp only [← hr] at ih
      rcases ih with ⟨h1, h2, h3, h4⟩ | ⟨h1, h2, h3⟩
      · left
        refine ⟨h1, ?_, h3, fun x hx hp => ?_⟩
        · rcases h2 with h2 | ⟨h2, h2'⟩
          · exact .inl h2
          · exact .inr ⟨List.mem_cons_of_mem _ h2, h2'⟩
        · rcases List.mem_cons.1 hx with rfl | hx
          · rcases h with ha | ha
            · have := h3 ha
              have hn : ¬ x < acc.1 := fun hlt => hy ⟨hp, .inr hlt⟩
              omega
            · subst ha
              exact absurd ⟨hp, .inl rfl⟩ hy
          · exact h4 x hx hp
      · right
        refine ⟨h1, h2, fun x hx => ?_⟩
        rcases List.mem_cons.1 hx with rfl | hx
        · cases hp : P x with
          | false => rfl
          | true => exact absurd ⟨hp, .inl (by rw [h2])⟩ hy
        · exact h3 x hx

/-- The document's m-th least one is the sorted row's. -/
theorem least_rank (l : List Int) (m : Nat) (hm : 1 ≤ m) : least (fun x => decide (m ≤ cnt l x)) l = if h : m - 1 < (srt l).length then ((srt l)[m - 1], true) else (0, false) := by
  have hs := srt_sorted l
  have hc : ∀ n, cnt l n = cnt (srt l) n := fun n => (cnt_perm (srt_perm l) n).symm
  rcases least_spec (fun x => decide (m ≤ cnt l x)) l (0, false) (.inr rfl) with ⟨h1, h2, _, h4⟩ | ⟨h1, _, h3⟩
  · have h2' : (least (fun x => decide (m ≤ cnt l x)) l).1 ∈ l ∧ m ≤ cnt l (least (fun x => decide (m ≤ cnt l x)) l).1 := by
      rcases h2 with ⟨h, _⟩ | ⟨ha, hb⟩
      · cases h
      · exact ⟨ha, of_decide_eq_true hb⟩
    have h2c := h2'.2
    rw [hc] at h2c
    obtain ⟨hlt, hle⟩ := rank_of_cnt hs _ m hm h2c
    rw [dif_pos hlt]
    have hr := cnt_rank hs (m - 1) hlt
    have h5 := h4 (srt l)[m - 1] ((srt_mem _ _).1 (List.getElem_mem hlt)) (by rw [hc]; simp; omega)
    have e : (least (fun x => decide (m ≤ cnt l x)) l).1 = (srt l)[m - 1] := Int.le_antisymm h5 hle
    exact Prod.ext e h1
  · by_cases hlt : m - 1 < (srt l).length
    · have hr := cnt_rank hs (m - 1) hlt
      have := h3 (srt l)[m - 1] ((srt_mem _ _).1 (List.getElem_mem hlt))
      rw [hc] at this
      simp at this
      omega
    · rw [dif_neg hlt]
      exact h1

theorem least_congr (P Q : Int → Bool) (l : List Int) (h : ∀ x ∈ l, P x = Q x) : least P l = least Q l := by
  have : ∀ (l : List Int) (acc : Int × Bool), (∀ x ∈ l, P x = Q x) → l.foldl (lstep P) acc = l.foldl (lstep Q) acc := by
    intro l
    induction l with
    | nil => intro acc _; rfl
    | cons y l ih =>
      intro acc h
      have e : lstep P acc y = lstep Q acc y := by unfold lstep; rw [h y (List.mem_cons_self ..)]
      show l.foldl (lstep P) (lstep P acc y) = l.foldl (lstep Q) (lstep Q acc y)
      rw [e]
      exact ih _ (fun x hx => h x (List.mem_cons_of_mem _ hx))
  exact this l _ h

theorem cnt_self {l : List Int} {x : Int} (h : x ∈ l) : 1 ≤ cnt l x := by
  unfold cnt
  have : x ∈ l.filter fun y => decide (y ≤ x) := List.mem_filter.2 ⟨h, by simp⟩
  exact List.length_pos_of_mem this

/-- The rank of a hundredth. -/
def prank (n p : Nat) : Nat := max 1 ((p * n + 99) / 100)
/-- The document's hundredth is the sorted row's. -/
theorem percent_rank (l : List Int) (p : Nat) : least (fun x => decide (p * l.length ≤ cnt l x * 100)) l = if h : prank l.length p - 1 < (srt l).length then ((srt l)[prank l.length p - 1], true) else (0, false) := by
  rw [← least_rank l (prank l.length p) (by unfold prank; omega)]
  refine least_congr _ _ l (fun x hx => ?_)
  have := cnt_self hx
  rw [decide_eq_decide]
  unfold prank
  omega
/-- A hundredth of no row is none; of another one there is always one. -/
theorem prank_lt (n p : Nat) (hp : p ≤ 100) (hn : 0 < n) : prank n p - 1 < n := by
  unfold prank
  have : p * n ≤ 100 * n := Nat.mul_le_mul_right _ hp
  omega

/-- A row without one of a number. -/
def wout (n : Int) : List Int → List Int
  | [] => []
  | x :: l => if x = n then l else x :: wout n l
theorem wout_none (n : Int) : ∀ l : List Int, n ∉ l → wout n l = l
  | [], _ => rfl
  | x :: l, h => by
    unfold wout
    rw [if_neg (fun e => h (by rw [e]; exact List.mem_cons_self ..)), wout_none n l (fun hx => h (List.mem_cons_of_mem _ hx))]
theorem wout_perm (n : Int) : ∀ l : List Int, n ∈ l → (n :: wout n l).Perm l
  | x :: l, h => by
    unfold wout
    by_cases e : x = n
    · rw [if_pos e, e]
    · rw [if_neg e]
      have hx : n ∈ l := by
        rcases List.mem_cons.1 h with h | h
        · exact absurd h.symm e
        · exact h
      exact (List.Perm.swap x n _).trans ((wout_perm n l hx).cons x)
theorem sorted_eq : ∀ {a b : List Int}, a.Pairwise (· ≤ ·) → b.Pairwise (· ≤ ·) → a.Perm b → a = b
  | [], b, _, _, h => (List.nil_perm.1 h).symm
  | x :: a, b, ha, hb, h => by
    cases b with
    | nil => exact absurd (List.perm_nil.1 h) (by simp)
    | cons y b =>
      have hax := List.pairwise_cons.1 ha
      have hby := List.pairwise_cons.1 hb
      have hxy : x = y := by
        have h1 : x ∈ y :: b := h.mem_iff.1 (List.mem_cons_self ..)
        have h2 : y ∈ x :: a := h.mem_iff.2 (List.mem_cons_self ..)
        rcases List.mem_cons.1 h1 with e | h1
        · exact e
        · rcases List.mem_cons.1 h2 with e | h2
          · exact e.symm
          · exact Int.le_antisymm (hax.1 y h2) (hby.1 x h1)
      subst hxy
      rw [sorted_eq hax.2 hby.2 ((List.perm_cons x).1 h)]
/-- Whatever order numbers come in, sorted they are one. -/
theorem srt_of_perm {a b : List Int} (h : a.Perm b) : srt a = srt b := sorted_eq (srt_sorted a) (srt_sorted b) ((srt_perm a).trans (h.trans (srt_perm b).symm))
end PHist
end Go.Proofs.Ythpnkjnieljdiaa
