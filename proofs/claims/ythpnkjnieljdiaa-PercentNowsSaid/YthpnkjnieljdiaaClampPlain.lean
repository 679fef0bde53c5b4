/- Plain facts on numbers that only rise, and on the greatest of a row. -/
namespace Go.Proofs.Ythpnkjnieljdiaa
namespace PClamp
set_option linter.unusedVariables false

/-- Those of a row that are above all ahead of them, and above m. -/
def rise (m : Int) : List Int → List Int
  | [] => []
  | x :: l => if m < x then x :: rise x l else rise m l
/-- The greatest of m and a row. -/
def most (m : Int) : List Int → Int
  | [] => m
  | x :: l => most (if m < x then x else m) l

theorem most_snoc : ∀ (l : List Int) (m x : Int), most m (l ++ [x]) = if most m l < x then x else most m l
  | [], _, _ => rfl
  | y :: l, m, x => most_snoc l _ x
theorem most_ge : ∀ (l : List Int) (m : Int), m ≤ most m l
  | [], m => Int.le_refl m
  | y :: l, m => by
    have := most_ge l (if m < y then y else m)
    unfold most
    split at this <;> split <;> omega
theorem most_mem : ∀ (l : List Int) (m : Int), ∀ x ∈ l, x ≤ most m l
  | y :: l, m, x, h => by
    have h1 := most_ge l (if m < y then y else m)
    unfold most
    rcases List.mem_cons.1 h with rfl | h
    · split at h1 <;> split <;> omega
    · exact most_mem l _ x h
theorem most_in : ∀ (l : List Int) (m : Int), most m l = m ∨ most m l ∈ l
  | [], m => .inl rfl
  | y :: l, m => by
    unfold most
    by_cases h : m < y
    · rw [if_pos h]
      rcases most_in l y with e | e
      · right; rw [e]; exact List.mem_cons_self ..
      · exact .inr (List.mem_cons_of_mem _ e)
    · rw [if_neg h]
      rcases most_in l m with e | e
      · exact .inl e
      · exact .inr (List.mem_cons_of_mem _ e)
/-- It is the one that is there, or m, and no less than any. -/
theorem most_eq {l : List Int} {m z : Int} (h1 : z = m ∨ z ∈ l) (h2 : m ≤ z) (h3 : ∀ x ∈ l, x ≤ z) : most m l = z := by
  have a := most_ge l m
  have b : most m l ≤ z := by
    rcases most_in l m with e | e
    · omega
    · exact h3 _ e
  rcases h1 with rfl | h
  · omega
  · have := most_mem l m z h; omega
theorem most_congr {l l' : List Int} {m : Int} (h : ∀ x, x ∈ l ↔ x ∈ l') : most m l = most m l' := by
  refine most_eq ?_ (most_ge l' m) (fun x hx => most_mem l' m x ((h x).1 hx))
  rcases most_in l' m with e | e
  · exact .inl e
  · exact .inr ((h _).2 e)
/-- A function that doesn't fall. -/
theorem most_map (f : Int → Int) (hf : ∀ a b, a ≤ b → f a ≤ f b) (l : List Int) (m : Int) : most (f m) (l.map f) = f (most m l) := by
  refine most_eq ?_ (hf _ _ (most_ge l m)) (fun x hx => ?_)
  · rcases most_in l m with e | e
    · exact .inl (by rw [e])
    · exact .inr (List.mem_map_of_mem e)
  · obtain ⟨y, hy, rfl⟩ := List.mem_map.1 hx
    exact hf _ _ (most_mem l m y hy)

theorem rise_snoc : ∀ (l : List Int) (m x : Int), rise m (l ++ [x]) = rise m l ++ (if most m l < x then [x] else [])
  | [], m, x => by
    show (if m < x then x :: rise x [] else rise m []) = [] ++ (if most m [] < x then [x] else [])
    by_cases h : m < x
    · rw [if_pos h, if_pos (show most m [] < x from h)]; rfl
    · rw [if_neg h, if_neg (show ¬ most m [] < x from h)]; rfl
  | y :: l, m, x => by
    show (if m < y then y :: rise y (l ++ [x]) else rise m (l ++ [x])) = _
    by_cases h : m < y
    · rw [if_pos h, rise_snoc l y x]
      show _ = (if m < y then y :: rise y l else rise m l) ++ (if most (if m < y then y else m) l < x then [x] else [])
      rw [if_pos h, if_pos h]; rfl
    · rw [if_neg h, rise_snoc l m x]
      show _ = (if m < y then y :: rise y l else rise m l) ++ (if most (if m < y then y else m) l < x then [x] else [])
      rw [if_neg h, if_neg h]
theorem rise_above : ∀ (l : List Int) (m : Int), ∀ x ∈ rise m l, m < x
  | y :: l, m, x, h => by
    unfold rise at h
    by_cases hy : m < y
    · rw [if_pos hy] at h
      rcases List.mem_cons.1 h with rfl | h
      · exact hy
      · have := rise_above l y x h; omega
    · rw [if_neg hy] at h
      exact rise_above l m x h
theorem rise_sorted : ∀ (l : List Int) (m : Int), (rise m l).Pairwise (· < ·)
  | [], _ => List.Pairwise.nil
  | y :: l, m => by
    unfold rise
    split
    · exact List.pairwise_cons.2 ⟨fun z hz => rise_above l y z hz, rise_sorted l y⟩
    · exact rise_sorted l m
theorem rise_same : ∀ (l : List Int) (m : Int), (∀ x ∈ l, m < x) → l.Pairwise (· < ·) → rise m l = l
  | [], _, _, _ => rfl
  | y :: l, m, h, hs => by
    have hc := List.pairwise_cons.1 hs
    unfold rise
    rw [if_pos (h y (List.mem_cons_self ..)), rise_same l y hc.1 hc.2]
/-- What rose rises again, all of it. -/
theorem rise_rise (l : List Int) (m : Int) : rise m (rise m l) = rise m l := rise_same _ m (rise_above l m) (rise_sorted l m)
theorem rise_mem : ∀ (l : List Int) (m : Int), ∀ x ∈ rise m l, x ∈ l
  | y :: l, m, x, h => by
    unfold rise at h
    split at h
    · rcases List.mem_cons.1 h with rfl | h
      · exact List.mem_cons_self ..
      · exact List.mem_cons_of_mem _ (rise_mem l _ x h)
    · exact List.mem_cons_of_mem _ (rise_mem l _ x h)
theorem rise_len : ∀ (l : List Int) (m : Int), (rise m l).length ≤ l.length
  | [], _ => Nat.le_refl _
  | y :: l, m => by
    unfold rise
    split
    · have := rise_len l y; simp; omega
    · have := rise_len l m; simp; omega
/-- The last that rose is the greatest. -/
theorem rise_last : ∀ (l : List Int) (m : Int), (rise m l).getLastD m = most m l
  | [], _ => rfl
  | y :: l, m => by
    unfold rise most
    by_cases h : m < y
    · rw [if_pos h, if_pos h, ← rise_last l y]
      cases rise y l with
      | nil => rfl
      | cons a b => rfl
    · rw [if_neg h, if_neg h]
      exact rise_last l m
theorem most_take (l : List Int) (m : Int) (k : Nat) (h : k < l.length) : most m (l.take (k + 1)) = if most m (l.take k) < l[k] then l[k] else most m (l.take k) := by
  rw [List.take_succ_eq_append_getElem h, most_snoc]
theorem rise_take (l : List Int) (m : Int) (k : Nat) (h : k < l.length) : rise m (l.take (k + 1)) = rise m (l.take k) ++ (if most m (l.take k) < l[k] then [l[k]] else []) := by
  rw [List.take_succ_eq_append_getElem h, rise_snoc]
end PClamp
end Go.Proofs.Ythpnkjnieljdiaa
