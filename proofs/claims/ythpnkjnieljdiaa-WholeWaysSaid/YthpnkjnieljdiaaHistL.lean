/- hist, by the numbers that are there: contracts of its calls. -/
import Derived.Test.YthpnkjnieljdiaaHist2
namespace Go.Proofs.Ythpnkjnieljdiaa
open Go.ChangeShapes Go.WideShapes Go.ChangeAt Go.RowKit
open PHist
set_option linter.unusedVariables false
set_option linter.unusedSimpArgs false

/-- The numbers of rows, rising. -/
def expand : List NR → List Int
  | [] => []
  | r :: rs => List.replicate r.2 r.1 ++ expand rs
theorem expand_append : ∀ a b : List NR, expand (a ++ b) = expand a ++ expand b
  | [], _ => rfl
  | r :: a, b => by show _ ++ expand (a ++ b) = _; rw [expand_append a b, ← List.append_assoc]; rfl
/-- Rows: rising, each at least once. -/
def Rows (rs : List NR) : Prop := rs.Pairwise (fun a b => a.1 < b.1) ∧ ∀ r ∈ rs, 1 ≤ r.2

theorem expand_mem : ∀ {rs : List NR} {x : Int}, x ∈ expand rs → ∃ r ∈ rs, r.1 = x
  | r :: rs, x, h => by
    rcases List.mem_append.1 h with h | h
    · exact ⟨r, List.mem_cons_self .., (List.eq_of_mem_replicate h).symm⟩
    · obtain ⟨r', h1, h2⟩ := expand_mem h
      exact ⟨r', List.mem_cons_of_mem _ h1, h2⟩
theorem mem_expand : ∀ {rs : List NR} {r : NR}, r ∈ rs → 1 ≤ r.2 → r.1 ∈ expand rs
  | r' :: rs, r, h, h1 => by
    rcases List.mem_cons.1 h with rfl | h
    · exact List.mem_append_left _ (List.mem_replicate.2 ⟨by omega, rfl⟩)
    · exact List.mem_append_right _ (mem_expand h h1)
theorem expand_sorted : ∀ {rs : List NR}, rs.Pairwise (fun a b => a.1 < b.1) → (expand rs).Pairwise (· ≤ ·)
  | [], _ => List.Pairwise.nil
  | r :: rs, h => by
    have hc := List.pairwise_cons.1 h
    refine List.pairwise_append.2 ⟨List.pairwise_replicate.2 (.inr (Int.le_refl _)), expand_sorted hc.2, fun a ha b hb => ?_⟩
    obtain ⟨r', h1, rfl⟩ := expand_mem hb
    rw [List.eq_of_mem_replicate ha]
    exact Int.le_of_lt (hc.1 r' h1)
theorem rows_le : ∀ {rs : List NR}, (∀ r ∈ rs, 1 ≤ r.2) → rs.length ≤ (expand rs).length
  | [], _ => Nat.le_refl _
  | r :: rs, h => by
    have := rows_le (rs := rs) (fun x hx => h x (List.mem_cons_of_mem _ hx))
    have h1 := h r (List.mem_cons_self ..)
    show rs.length + 1 ≤ (List.replicate r.2 r.1 ++ expand rs).length
    rw [List.length_append, List.length_replicate]; omega
theorem times_le : ∀ {rs : List NR} {r : NR}, r ∈ rs → r.2 ≤ (expand rs).length
  | r' :: rs, r, h => by
    show r.2 ≤ (List.replicate r'.2 r'.1 ++ expand rs).length
    rw [List.length_append, List.length_replicate]
    rcases List.mem_cons.1 h with rfl | h
    · omega
    · have := times_le h; omega

theorem rk_expand : ∀ (rs : List NR) (k : Nat), 1 ≤ k → (∀ r ∈ rs, 1 ≤ r.2) → rk rs k = (expand rs)[k - 1]?
  | [], k, _, _ => rfl
  | r :: rs, k, hk, h => by
    show (if k ≤ r.2 then some r.1 else rk rs (k - r.2)) = (List.replicate r.2 r.1 ++ expand rs)[k - 1]?
    by_cases h1 : k ≤ r.2
    · rw [if_pos h1, List.getElem?_append_left (by rw [List.length_replicate]; omega), List.getElem?_replicate, if_pos (by omega)]
    · rw [if_neg h1, rk_expand rs (k - r.2) (by omega) (fun x hx => h x (List.mem_cons_of_mem _ hx)), List.getElem?_append_right (by rw [List.length_replicate]; omega), List.length_replicate]
      congr 1
      omega

theorem place_exists : ∀ (rs : List NR) (n : Int), rs.Pairwise (fun a b => a.1 < b.1) → ∃ i, Place rs n i
  | [], n, _ => ⟨0, Nat.le_refl _, fun t h => absurd h (by simp), fun t h => absurd h (by simp)⟩
  | r :: rs, n, h => by
    have hc := List.pairwise_cons.1 h
    by_cases h1 : r.1 < n
    · obtain ⟨i, a, b, c⟩ := place_exists rs n hc.2
      refine ⟨i + 1, by simpa using a, fun t ht hti => ?_, fun t ht hti => ?_⟩
      · cases t with
        | zero => exact h1
        | succ t => exact b t (by simpa using ht) (by omega)
      · cases t with
        | zero => omega
        | succ t => exact c t (by simpa using ht) (by omega)
    · refine ⟨0, Nat.zero_le _, fun t ht hti => by omega, fun t ht hti => ?_⟩
      cases t with
      | zero => show n ≤ r.1; omega
      | succ t =>
        have := hc.1 (rs[t]'(by simpa using ht)) (List.getElem_mem _)
        show n ≤ (rs[t]'(by simpa using ht)).1
        omega

theorem place_mem {rs : List NR} {n : Int} {i : Nat} (hp : Place rs n i) (hs : rs.Pairwise (fun a b => a.1 < b.1)) (hr : ∀ r ∈ rs, 1 ≤ r.2) : n ∈ expand rs ↔ ∃ hi : i < rs.length, rs[i].1 = n := by
  constructor
  · intro h
    obtain ⟨r, h1, rfl⟩ := expand_mem h
    obtain ⟨t, ht, rfl⟩ := List.mem_iff_getElem.1 h1
    have hti : i ≤ t := by
      refine Nat.le_of_not_lt fun hlt => ?_
      have := hp.2.1 t ht hlt
      omega
    refine ⟨by omega, ?_⟩
    by_cases h0 : i = t
    · subst h0; rfl
    · have h2 := hp.2.2 i (by omega) (Nat.le_refl _)
      have h3 := List.pairwise_iff_getElem.1 hs i t (by omega) ht (by omega)
      omega
  · rintro ⟨hi, rfl⟩
    exact mem_expand (List.getElem_mem _) (hr _ (List.getElem_mem _))

theorem split_at (rs : List NR) (i : Nat) (hi : i < rs.length) : rs = rs.take i ++ rs[i] :: rs.drop (i + 1) := by
  rw [← List.drop_eq_getElem_cons hi, List.take_append_drop]
theorem expand_at (rs : List NR) (i : Nat) (hi : i < rs.length) : expand rs = expand (rs.take i) ++ expand (rs[i] :: rs.drop (i + 1)) := by
  rw [← expand_append]
  exact congrArg expand (split_at rs i hi)
theorem set_at (rs : List NR) (i : Nat) (hi : i < rs.length) (y : NR) : rs.set i y = rs.take i ++ y :: rs.drop (i + 1) := by
  rw [List.set_eq_take_append_cons_drop, if_pos hi]

theorem perm_more (rs : List NR) (i : Nat) (hi : i < rs.length) (n : Int) (hn : rs[i].1 = n) : (expand (rs.set i (n, rs[i].2 + 1))).Perm (n :: expand rs) := by
  subst hn
  rw [set_at rs i hi, expand_append]
  rw [expand_at rs i hi]
  have e1 : expand ((rs[i].1, rs[i].2 + 1) :: rs.drop (i + 1)) = rs[i].1 :: expand (rs[i] :: rs.drop (i + 1)) := by
    show List.replicate (rs[i].2 + 1) rs[i].1 ++ _ = rs[i].1 :: (List.replicate rs[i].2 rs[i].1 ++ _)
    rw [List.replicate_succ]; rfl
  rw [e1]
  exact List.perm_middle
theorem perm_new (rs : List NR) (i : Nat) (n : Int) : (expand (rs.take i ++ (n, 1) :: rs.drop i)).Perm (n :: expand rs) := by
  rw [expand_append]
  conv => rhs; rw [← List.take_append_drop i rs, expand_append]
  show (expand (rs.take i) ++ (n :: expand (rs.drop i))).Perm _
  exact List.perm_middle
theorem perm_less (rs : List NR) (i : Nat) (hi : i < rs.length) (n : Int) (hn : rs[i].1 = n) (h1 : 1 ≤ rs[i].2) : (n :: expand (rs.set i (n, rs[i].2 - 1))).Perm (expand rs) := by
  subst hn
  rw [set_at rs i hi, expand_append]
  rw [expand_at rs i hi]
  have e1 : expand (rs[i] :: rs.drop (i + 1)) = rs[i].1 :: expand ((rs[i].1, rs[i].2 - 1) :: rs.drop (i + 1)) := by
    show List.replicate rs[i].2 rs[i].1 ++ _ = rs[i].1 :: (List.replicate (rs[i].2 - 1) rs[i].1 ++ _)
    obtain ⟨t, ht⟩ : ∃ t, rs[i].2 = t + 1 := ⟨rs[i].2 - 1, by omega⟩
    rw [ht, List.replicate_succ]; rfl
  rw [e1]
  exact List.perm_middle.symm
theorem perm_gone (rs : List NR) (i : Nat) (hi : i < rs.length) (n : Int) (hn : rs[i].1 = n) (h1 : rs[i].2 = 1) : (n :: expand (rs.take i ++ rs.drop (i + 1))).Perm (expand rs) := by
  subst hn
  rw [expand_append]
  rw [expand_at rs i hi]
  have e1 : expand (rs[i] :: rs.drop (i + 1)) = rs[i].1 :: expand (rs.drop (i + 1)) := by
    show List.replicate rs[i].2 rs[i].1 ++ _ = _
    rw [h1]; rfl
  rw [e1]
  exact List.perm_middle.symm

theorem rising_set {rs : List NR} (h : rs.Pairwise (fun a b => a.1 < b.1)) (i : Nat) (hi : i < rs.length) (t : Nat) : (rs.set i (rs[i].1, t)).Pairwise (fun a b => a.1 < b.1) := by
  have e : (rs.set i (rs[i].1, t)).map (·.1) = rs.map (·.1) := by
    rw [List.map_set]
    apply List.ext_getElem?
    intro j
    by_cases hj : i = j
    · subst hj; rw [List.getElem?_set_self (by simpa using hi)]; simp [hi]
    · rw [List.getElem?_set_ne hj]
  have h1 : (rs.map (·.1)).Pairwise (· < ·) := List.pairwise_map.2 h
  have h2 : ((rs.set i (rs[i].1, t)).map (·.1)).Pairwise (· < ·) := by rw [e]; exact h1
  exact List.pairwise_map.1 h2
theorem rising_ins {rs : List NR} (h : rs.Pairwise (fun a b => a.1 < b.1)) {n : Int} {i : Nat} (hp : Place rs n i) (hn : ∀ hi : i < rs.length, rs[i].1 ≠ n) (t : Nat) : (rs.take i ++ (n, t) :: rs.drop i).Pairwise (fun a b => a.1 < b.1) := by
  have hb : ∀ a ∈ rs.take i, a.1 < n := fun a ha => by
    obtain ⟨j, hj, rfl⟩ := List.mem_iff_getElem.1 ha
    rw [List.length_take] at hj
    rw [List.getElem_take]
    exact hp.2.1 j (by omega) (by omega)
  have hd : ∀ b ∈ rs.drop i, n < b.1 := fun b hb => by
    obtain ⟨j, hj, rfl⟩ := List.mem_iff_getElem.1 hb
    rw [List.length_drop] at hj
    rw [List.getElem_drop]
    have h1 := hp.2.2 (i + j) (by omega) (by omega)
    have hne := hn (by omega)
    have hii := hp.2.2 i (by omega) (Nat.le_refl _)
    by_cases h0 : j = 0
    · subst h0; simp only [Nat.add_zero]; omega
    · have := List.pairwise_iff_getElem.1 h i (i + j) (by omega) (by omega) (by omega)
      omega
  have hs : (rs.take i ++ rs.drop i).Pairwise (fun a b => a.1 < b.1) := by rw [List.take_append_drop]; exact h
  obtain ⟨p1, p2, p3⟩ := List.pairwise_append.1 hs
  refine List.pairwise_append.2 ⟨p1, List.pairwise_cons.2 ⟨hd, p2⟩, fun a ha b hb' => ?_⟩
  rcases List.mem_cons.1 hb' with rfl | hb'
  · exact hb a ha
  · exact p3 a ha b hb'
theorem rising_del {rs : List NR} (h : rs.Pairwise (fun a b => a.1 < b.1)) (i : Nat) : (rs.take i ++ rs.drop (i + 1)).Pairwise (fun a b => a.1 < b.1) := by
  have : (rs.take i ++ rs.drop (i + 1)).Sublist rs := by
    conv => rhs; rw [← List.take_append_drop i rs]
    exact List.Sublist.append (List.Sublist.refl _) (List.drop_sublist_drop_left _ (by omega))
  exact h.sublist this

/-- These numbers are there. -/
def HistL (w : World) (F : Nat → Prop) (g : Nat) (l : List Int) : Prop := ∃ v rs, HistC w F g v l.length rs ∧ Rows rs ∧ (expand rs).Perm l
def HLPost (F : Nat → Prop) (g : Nat) (l : List Int) (w w' : World) : Prop := ∃ F', HistL w' F' g l ∧ Upd F w w' ∧ ∀ k, F' k → F k ∨ w.heap.size ≤ k
theorem HistL.upd {S : Nat → Prop} {w w' : World} {F : Nat → Prop} {g : Nat} {l : List Int} (h : HistL w F g l) (hu : Upd S w w') (hn : ∀ k, F k → ¬ S k) : HistL w' F g l := by
  obtain ⟨v, rs, h1, h2⟩ := h
  exact ⟨v, rs, h1.upd hu hn, h2⟩
theorem HistL.below {w w' : World} {F : Nat → Prop} {g : Nat} {l : List Int} (h : HistL w F g l) (hb : Below w.heap.size w w') : HistL w' F g l := by
  obtain ⟨v, rs, h1, h2⟩ := h
  exact ⟨v, rs, h1.below hb, h2⟩
theorem HistL.lt {w : World} {F : Nat → Prop} {g : Nat} {l : List Int} (h : HistL w F g l) : ∀ k, F k → k < w.heap.size := by
  obtain ⟨v, rs, h1, h2⟩ := h
  exact h1.own.2.1
theorem HistL.perm {w : World} {F : Nat → Prop} {g : Nat} {l l' : List Int} (h : HistL w F g l) (hp : l.Perm l') : HistL w F g l' := by
  obtain ⟨v, rs, h1, h2, h3⟩ := h
  exact ⟨v, rs, hp.length_eq ▸ h1, h2, h3.trans hp⟩
theorem HistL.zero (w : World) (e : TypeId) : HistL (w.alloc (.cells #[.slice none 0 0, .int .i64 0] e)) (fun k => k = w.heap.size) w.heap.size [] :=
  ⟨.slice none 0 0, [], ⟨At.alloc w [.slice none 0 0, .int .i64 0] e, Sl.nil _ _ _, ⟨rfl, fun k hk => by subst hk; simp, fun k hk => by simp [Value.ownBlock] at hk⟩⟩, ⟨List.Pairwise.nil, fun r hr => by cases hr⟩, List.Perm.refl _⟩
theorem HLPost.below {F : Nat → Prop} {g B : Nat} {l : List Int} {a w w' : World} (h : HLPost F g l w w') (hb : Below B a w) (hB : B ≤ w.heap.size) (hF : ∀ k, F k → B ≤ k) : ∃ F', HistL w' F' g l ∧ (∀ k, F' k → B ≤ k) ∧ Below B a w' ∧ Upd F w w' ∧ ∀ k, F' k → F k ∨ w.heap.size ≤ k := by
  obtain ⟨F', h1, h2, h3⟩ := h
  exact ⟨F', h1, fun k hk => (h3 k hk).elim (hF k) (fun h => by omega), hb.upd h2 hB (fun i _ hi => hF i hi), h2, h3⟩

theorem hl_add (F : Nat → Prop) (g : Nat) (l : List Int) (n : Int) (w : World) (h : HistL w F g l) (hl : l.length ≤ 900) : Calls Try.prog 38 #[.pointer (some ⟨g, 0, none⟩), .int .i64 n] w fun e w' => e = .returned (.tuple #[]) ∧ HLPost F g (n :: l) w w' := by
  obtain ⟨v, rs, h1, ⟨hs, hr⟩, hp⟩ := h
  obtain ⟨i, hpl⟩ := place_exists rs n hs
  have hle := rows_le hr
  rw [hp.length_eq] at hle
  by_cases hit : ∃ hi : i < rs.length, rs[i].1 = n
  · obtain ⟨hi, hn⟩ := hit
    have ht := times_le (List.getElem_mem hi)
    rw [hp.length_eq] at ht
    refine (hi_add_hit F g v _ rs n i w h1 hpl hi hn (by omega) (by omega) (by omega)).mono ?_
    rintro e w' ⟨he, F', v', hC, hU, hF⟩
    refine ⟨he, F', ⟨v', _, hC, ⟨?_, fun r hr' => ?_⟩, (perm_more rs i hi n hn).trans (hp.cons n)⟩, hU, hF⟩
    · subst hn; exact rising_set hs i hi _
    · rcases List.mem_or_eq_of_mem_set hr' with h0 | rfl
      · exact hr r h0
      · show 1 ≤ rs[i].2 + 1; omega
  · have hn : ∀ hi : i < rs.length, rs[i].1 ≠ n := fun hi e => hit ⟨hi, e⟩
    refine (hi_add_miss F g v _ rs n i w h1 hpl hn (by omega) (by omega)).mono ?_
    rintro e w' ⟨he, F', v', hC, hU, hF⟩
    refine ⟨he, F', ⟨v', _, hC, ⟨rising_ins hs hpl hn 1, fun r hr' => ?_⟩, (perm_new rs i n).trans (hp.cons n)⟩, hU, hF⟩
    rcases List.mem_append.1 hr' with h0 | h0
    · exact hr r (List.mem_of_mem_take h0)
    · rcases List.mem_cons.1 h0 with rfl | h0
      · exact Nat.le_refl _
      · exact hr r (List.mem_of_mem_drop h0)

theorem hl_rem (F : Nat → Prop) (g : Nat) (l l' : List Int) (n : Int) (w : World) (h : HistL w F g l) (hl : l.length ≤ 900) (hp' : (n :: l').Perm l) : Calls Try.prog 37 #[.pointer (some ⟨g, 0, none⟩), .int .i64 n] w fun e w' => e = .returned (.bool true) ∧ HLPost F g l' w w' := by
  obtain ⟨v, rs, h1, ⟨hs, hr⟩, hp⟩ := h
  obtain ⟨i, hpl⟩ := place_exists rs n hs
  have hle := rows_le hr
  rw [hp.length_eq] at hle
  have hmem : n ∈ expand rs := (hp.trans hp'.symm).mem_iff.2 (List.mem_cons_self ..)
  obtain ⟨hi, hn⟩ := (place_mem hpl hs hr).1 hmem
  have hlen := hp'.length_eq
  rw [List.length_cons] at hlen
  have ht := times_le (List.getElem_mem hi)
  have ht1 := hr _ (List.getElem_mem hi)
  rw [hp.length_eq] at ht
  by_cases h2 : rs[i].2 = 1
  · refine (hi_rem_last F g v _ rs n i w h1 hpl hi hn (by omega) (by omega) (by omega) h2).mono ?_
    rintro e w' ⟨he, F', v', hC, hU, hF⟩
    refine ⟨he, F', ⟨v', _, by rw [show l'.length = l.length - 1 by omega]; exact hC, ⟨rising_del hs i, fun r hr' => ?_⟩, List.Perm.cons_inv ((perm_gone rs i hi n hn h2).trans (hp.trans hp'.symm))⟩, hU, hF⟩
    rcases List.mem_append.1 hr' with h0 | h0
    · exact hr r (List.mem_of_mem_take h0)
    · exact hr r (List.mem_of_mem_drop h0)
  · refine (hi_rem_more F g v _ rs n i w h1 hpl hi hn (by omega) (by omega) (by omega) (by omega) (by omega)).mono ?_
    rintro e w' ⟨he, F', v', hC, hU, hF⟩
    refine ⟨he, F', ⟨v', _, by rw [show l'.length = l.length - 1 by omega]; exact hC, ⟨?_, fun r hr' => ?_⟩, List.Perm.cons_inv ((perm_less rs i hi n hn ht1).trans (hp.trans hp'.symm))⟩, hU, hF⟩
    · subst hn; exact rising_set hs i hi _
    · rcases List.mem_or_eq_of_mem_set hr' with h0 | rfl
      · exact hr r h0
      · show 1 ≤ rs[i].2 - 1; omega

theorem hl_rem_none (F : Nat → Prop) (g : Nat) (l : List Int) (n : Int) (w : World) (h : HistL w F g l) (hl : l.length ≤ 900) (hn : n ∉ l) : Calls Try.prog 37 #[.pointer (some ⟨g, 0, none⟩), .int .i64 n] w fun e w' => e = .returned (.bool false) ∧ Below w.heap.size w w' := by
  obtain ⟨v, rs, h1, ⟨hs, hr⟩, hp⟩ := h
  obtain ⟨i, hpl⟩ := place_exists rs n hs
  have hle := rows_le hr
  rw [hp.length_eq] at hle
  refine hi_rem_none F g v _ rs n i w h1 hpl (fun hi e => hn ?_) (by omega)
  exact hp.mem_iff.1 ((place_mem hpl hs hr).2 ⟨hi, e⟩)

theorem rk_srt {rs : List NR} {l : List Int} (hs : Rows rs) (hp : (expand rs).Perm l) (k : Nat) (hk : 1 ≤ k) : rk rs k = (srt l)[k - 1]? := by
  rw [rk_expand rs k hk hs.2]
  have : expand rs = srt l := sorted_eq (expand_sorted hs.1) (srt_sorted l) (hp.trans (srt_perm l).symm)
  rw [this]

theorem hl_rank (F : Nat → Prop) (g : Nat) (l : List Int) (k : Nat) (kz : Int) (hkz : kz = k) (o : Option Int) (z : Int) (b : Bool) (w : World) (h : HistL w F g l) (hk : 1 ≤ k) (hk2 : k ≤ 9223372036854775807) (ho : (srt l)[k - 1]? = o) (hz : z = o.getD 0) (hb : b = o.isSome) : Calls Try.prog 39 #[.pointer (some ⟨g, 0, none⟩), .int .i64 kz] w fun e w' => e = .returned (.tuple #[.int .i64 z, .bool b]) ∧ Below w.heap.size w w' := by
  subst hb
  obtain ⟨v, rs, h1, h2, hp⟩ := h
  exact hi_rank F g v _ rs k o z kz hkz w h1 hk hk2 (by rw [rk_srt h2 hp k hk]; exact ho) hz
theorem hl_rank_low (F : Nat → Prop) (g : Nat) (l : List Int) (k : Int) (w : World) (h : HistL w F g l) (hk : k < 1) : Calls Try.prog 39 #[.pointer (some ⟨g, 0, none⟩), .int .i64 k] w fun e w' => e = .returned (.tuple #[.int .i64 0, .bool false]) ∧ Below w.heap.size w w' := by
  obtain ⟨v, rs, h1, h2, hp⟩ := h
  exact hi_rank_low F g v _ rs k w h1 hk
theorem hl_percent (F : Nat → Prop) (g : Nat) (l : List Int) (p : Nat) (pz : Int) (hpz : pz = p) (o : Option Int) (z : Int) (b : Bool) (w : World) (h : HistL w F g l) (hl : l.length ≤ 900) (hp : p ≤ 100) (ho : (srt l)[prank l.length p - 1]? = o) (hz : z = o.getD 0) (hb : b = o.isSome) : Calls Try.prog 30 #[.pointer (some ⟨g, 0, none⟩), .int .i64 pz] w fun e w' => e = .returned (.tuple #[.int .i64 z, .bool b]) ∧ Below w.heap.size w w' := by
  subst hb
  obtain ⟨v, rs, h1, h2, hpm⟩ := h
  exact hi_percent F g v _ rs p pz hpz o z w h1 hp (by omega) (by rw [rk_srt h2 hpm _ (by unfold prank; omega)]; exact ho) hz
end Go.Proofs.Ythpnkjnieljdiaa
