/- Plain facts on what came last: a row that is turned, one that goes for one that comes. -/
namespace Go.Proofs.Ythpnkjnieljdiaa
namespace PRing
variable {α : Type}

/-- A row from place e on, round. -/
def view (e : Nat) (xs : List α) : List α := xs.drop e ++ xs.take e
/-- The last n of a row. -/
def last (n : Nat) (l : List α) : List α := l.drop (l.length - n)
/-- One more, with room for r. -/
def push (r : Nat) (l : List α) (x : α) : List α := if l.length < r then l ++ [x] else l.drop 1 ++ [x]

theorem view_len (e : Nat) (xs : List α) : (view e xs).length = xs.length := by unfold view; rw [List.length_append, List.length_drop, List.length_take]; omega
theorem view_zero (xs : List α) : view 0 xs = xs := by simp [view]
theorem view_get (e : Nat) (xs : List α) (he : e < xs.length) (i : Nat) (hi : i < xs.length) : (view e xs)[i]? = xs[(e + i) % xs.length]? := by
  unfold view
  by_cases h : i < xs.length - e
  · rw [List.getElem?_append_left (by simpa using h), List.getElem?_drop, Nat.mod_eq_of_lt (by omega)]
  · rw [List.getElem?_append_right (by simp; omega), List.length_drop, List.getElem?_take_of_lt (by omega)]
    congr 1
    rw [Nat.mod_eq_sub_mod (by omega), Nat.mod_eq_of_lt (by omega)]
    omega
theorem view_head (e : Nat) (xs : List α) (he : e < xs.length) : (view e xs)[0]? = xs[e]? := by
  rw [view_get e xs he 0 (by omega), Nat.add_zero, Nat.mod_eq_of_lt he]
theorem view_mem (e : Nat) (xs : List α) (u : α) : u ∈ view e xs ↔ u ∈ xs := by
  unfold view
  rw [List.mem_append, or_comm, ← List.mem_append, List.take_append_drop]
theorem view_set (e : Nat) (xs : List α) (he : e < xs.length) (x : α) : view ((e + 1) % xs.length) (xs.set e x) = (view e xs).drop 1 ++ [x] := by
  apply List.ext_getElem?
  intro i
  have hl : (xs.set e x).length = xs.length := List.length_set
  by_cases hi : i < xs.length
  · have hm : (e + 1) % xs.length < xs.length := Nat.mod_lt _ (by omega)
    have h1 := view_get ((e + 1) % xs.length) (xs.set e x) (by rw [hl]; exact hm) i (by rw [hl]; exact hi)
    rw [h1, hl]
    have e1 : ((e + 1) % xs.length + i) % xs.length = (e + (1 + i)) % xs.length := by rw [Nat.mod_add_mod]; congr 1; omega
    rw [e1]
    by_cases hl1 : i < xs.length - 1
    · rw [List.getElem?_append_left (by rw [List.length_drop, view_len]; exact hl1), List.getElem?_drop, view_get e xs he (1 + i) (by omega)]
      rw [List.getElem?_set_ne]
      intro hc
      by_cases hw : e + (1 + i) < xs.length
      · rw [Nat.mod_eq_of_lt hw] at hc; omega
      · rw [Nat.mod_eq_sub_mod (by omega), Nat.mod_eq_of_lt (by omega)] at hc; omega
    · have e2 : e + (1 + i) = e + xs.length := by omega
      rw [e2, Nat.add_mod_right, Nat.mod_eq_of_lt he, List.getElem?_set_self he, List.getElem?_append_right (by rw [List.length_drop, view_len]; omega), List.length_drop, view_len]
      rw [show i - (xs.length - 1) = 0 by omega]
      rfl
  · rw [List.getElem?_eq_none (by rw [view_len, hl]; omega), List.getElem?_eq_none (by rw [List.length_append, List.length_drop, view_len]; simp; omega)]

theorem last_len (n : Nat) (l : List α) : (last n l).length = min n l.length := by unfold last; rw [List.length_drop]; omega
theorem last_push (n : Nat) (h1 : 1 ≤ n) (l : List α) (x : α) : push n (last n l) x = last n (l ++ [x]) := by
  unfold push
  rw [last_len]
  unfold last
  rw [List.length_append]
  by_cases h : min n l.length < n
  · rw [if_pos h, show l.length - n = 0 by omega, show l.length + [x].length - n = 0 by simp; omega]
    simp
  · rw [if_neg h, List.drop_drop, List.drop_append_of_le_length (by simp; omega)]
    congr 2
    simp; omega
theorem last_nil (n : Nat) : last n ([] : List α) = [] := by simp [last]
theorem last_get (n : Nat) (l : List α) (i : Nat) : (last n l)[i]? = l[l.length - n + i]? := by unfold last; rw [List.getElem?_drop]
theorem last_map {β : Type} (f : α → β) (n : Nat) (l : List α) : last n (l.map f) = (last n l).map f := by unfold last; rw [List.length_map, List.map_drop]
end PRing
end Go.Proofs.Ythpnkjnieljdiaa
