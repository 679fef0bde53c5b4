/- Plain facts: whether events are of logs, and whole, as the statement goes through them one by one. -/
import Derived.Test.YtmimfkhkilijcaaGreatKJuP
namespace Go.Proofs.YtmimfkhkilijcaaGreat
set_option maxRecDepth 4000
open Go.ChangeShapes Go.WideShapes Go.ChangeAt Go.RowKit
open PHist PRing PSat PClamp PBound PFrame PSign PTree PEv
set_option linter.unusedVariables false

/-- How many of each came out, and whose fault did. -/
structure Pl where
  at_ : Nat → Nat
  over : Nat → Bool
def Pl.in_ (P : Pl) (n : Nat) (p : Int) : Bool := decide (0 ≤ p ∧ p < n) && !P.over p.toNat
def Pl.mayE (P : Pl) (ls : List Lg) (p : Int) (r : R) : Bool := P.in_ ls.length p && decide ((lgAt ls p.toNat).1[P.at_ p.toNat]? = some r)
def Pl.mayF (P : Pl) (ls : List Lg) (p e : Int) : Bool := P.in_ ls.length p && decide (erOf ls p.toNat ≠ 0 ∧ e = (erOf ls p.toNat : Int))
def Pl.el (P : Pl) (p : Int) : Pl := ⟨put P.at_ p.toNat (P.at_ p.toNat + 1), P.over⟩
def Pl.fl (P : Pl) (p : Int) : Pl := ⟨P.at_, put P.over p.toNat true⟩
def Pl.one (ls : List Lg) (P : Pl) : Ev → Option Pl
  | .mark _ => some P
  | .el _ p k t x => if P.mayE ls p (k, t, x) then some (P.el p) else none
  | .fault p e => if P.mayF ls p e then some (P.fl p) else none
def Pl.all (ls : List Lg) : Pl → List Ev → Option Pl
  | P, [] => some P
  | P, e :: l => match P.one ls e with
    | none => none
    | some P' => P'.all ls l
theorem plall_cons (ls : List Lg) (P : Pl) (e : Ev) (l : List Ev) : P.all ls (e :: l) = (P.one ls e).bind fun P' => P'.all ls l := by
  show (match P.one ls e with | none => none | some P' => P'.all ls l) = _
  cases P.one ls e <;> rfl
def lenOf (ls : List Lg) (i : Nat) : Nat := (lgAt ls i).1.length
/-- Is one's fault ahead of its records, of the first k? -/
def Pl.badTo (P : Pl) (ls : List Lg) : Nat → Bool
  | 0 => false
  | k + 1 => P.badTo ls k || (P.over k && decide (P.at_ k < lenOf ls k))
def Pl.okTo (P : Pl) (ls : List Lg) : Nat → Bool
  | 0 => true
  | k + 1 => P.okTo ls k && (decide (P.at_ k = lenOf ls k) && (P.over k == decide (erOf ls k ≠ 0)))
theorem badTo_iff (P : Pl) (ls : List Lg) : ∀ k, P.badTo ls k = true ↔ ∃ i, i < k ∧ P.over i = true ∧ P.at_ i < lenOf ls i
  | 0 => ⟨fun h => Bool.noConfusion h, fun ⟨i, h, _⟩ => (Nat.not_lt_zero _ h).elim⟩
  | k + 1 => by
    show (P.badTo ls k || (P.over k && decide (P.at_ k < lenOf ls k))) = true ↔ _
    rw [Bool.or_eq_true, Bool.and_eq_true, decide_eq_true_iff, badTo_iff P ls k]
    constructor
    · rintro (⟨i, h, h2⟩ | h)
      · exact ⟨i, by omega, h2⟩
      · exact ⟨k, by omega, h⟩
    · rintro ⟨i, h, h2⟩
      by_cases e : i = k
      · subst e; exact .inr h2
      · exact .inl ⟨i, by omega, h2⟩
theorem okTo_iff (P : Pl) (ls : List Lg) : ∀ k, P.okTo ls k = true ↔ ∀ i, i < k → P.at_ i = lenOf ls i ∧ (P.over i = true ↔ erOf ls i ≠ 0)
  | 0 => ⟨fun _ i h => (Nat.not_lt_zero _ h).elim, fun _ => rfl⟩
  | k + 1 => by
    show (P.okTo ls k && (decide (P.at_ k = lenOf ls k) && (P.over k == decide (erOf ls k ≠ 0)))) = true ↔ _
    rw [Bool.and_eq_true, Bool.and_eq_true, decide_eq_true_iff, beq_iff_eq, okTo_iff P ls k]
    have hb : (P.over k = decide (erOf ls k ≠ 0)) ↔ (P.over k = true ↔ erOf ls k ≠ 0) := by
      cases P.over k <;> by_cases h : erOf ls k = 0 <;> simp [h]
    rw [hb]
    constructor
    · rintro ⟨h1, h2, h3⟩ i hi
      by_cases e : i = k
      · subst e; exact ⟨h2, h3⟩
      · exact h1 i (by omega)
    · intro h
      exact ⟨fun i hi => h i (by omega), (h k (by omega)).1, (h k (by omega)).2⟩
def plainB (ls : List Lg) (l : List Ev) : Bool × Bool :=
  match (⟨fun _ => 0, fun _ => false⟩ : Pl).all ls l with
  | none => (false, false)
  | some P => if P.badTo ls ls.length then (false, false) else (true, decide (elast l = 9223372036854775807) && P.okTo ls ls.length)
/-- Both25 go side by side. -/
structure Both25 (ls : List Lg) (c : Crs) (P : Pl) : Prop where
  left : ∀ i, i < ls.length → c.left i = (lgAt ls i).1.drop (P.at_ i)
  le : ∀ i, i < ls.length → P.at_ i ≤ lenOf ls i
  over : ∀ i, i < ls.length → c.over (i : Int) = P.over i
  done : ∀ i, i < ls.length → P.over i = true → P.at_ i = lenOf ls i ∧ erOf ls i ≠ 0
theorem both_in {ls : List Lg} {c : Crs} {P : Pl} (h : Both25 ls c P) (p : Int) : c.goesOn ls.length p = P.in_ ls.length p := by
  unfold Crs.goesOn Pl.in_
  by_cases hp : 0 ≤ p ∧ p < ls.length
  · have := h.over p.toNat (by omega)
    rw [show ((p.toNat : Nat) : Int) = p by omega] at this
    rw [this]
  · rw [decide_eq_false hp, Bool.false_and, Bool.false_and]
theorem drop_head? (l : List R) (k : Nat) : (l.drop k).head? = l[k]? := by rw [List.head?_drop]
theorem in_lt {P : Pl} {n : Nat} {p : Int} (h : P.in_ n p = true) : 0 ≤ p ∧ p.toNat < n ∧ P.over p.toNat = false := by
  unfold Pl.in_ at h
  rw [Bool.and_eq_true, decide_eq_true_iff, Bool.not_eq_true'] at h
  have := h.1
  exact ⟨by omega, by omega, h.2⟩
/-- Whose fault came too early stays so. -/
theorem bad_one {ls : List Lg} {P P' : Pl} {e : Ev} (h : P.one ls e = some P') (hb : P.badTo ls ls.length = true) : P'.badTo ls ls.length = true := by
  rw [badTo_iff] at hb ⊢
  obtain ⟨i, hi, ho, hl⟩ := hb
  cases e with
  | mark n => cases h; exact ⟨i, hi, ho, hl⟩
  | el late p k t x =>
    have h' : (if P.mayE ls p (k, t, x) then some (P.el p) else none) = some P' := h
    split at h'
    · next hm =>
      cases h'
      unfold Pl.mayE at hm
      rw [Bool.and_eq_true] at hm
      obtain ⟨-, -, h3⟩ := in_lt hm.1
      refine ⟨i, hi, ho, ?_⟩
      show (if i = p.toNat then _ else P.at_ i) < _
      rw [if_neg (fun e => by rw [e, h3] at ho; cases ho)]
      exact hl
    · cases h'
  | fault p e =>
    have h' : (if P.mayF ls p e then some (P.fl p) else none) = some P' := h
    split at h'
    · cases h'
      refine ⟨i, hi, ?_, hl⟩
      show (if i = p.toNat then true else P.over i) = true
      split
      · rfl
      · exact ho
    · cases h'
theorem bad_all (ls : List Lg) : ∀ (l : List Ev) {P P' : Pl}, P.all ls l = some P' → P.badTo ls ls.length = true → P'.badTo ls ls.length = true
  | [], P, P', h, hb => by cases h; exact hb
  | e :: l, P, P', h, hb => by
    rw [plall_cons] at h
    cases h1 : P.one ls e with
    | none => rw [h1] at h; cases h
    | some P1 =>
      rw [h1] at h
      exact bad_all ls l h (bad_one h1 hb)
theorem both_one {ls : List Lg} {c : Crs} {P : Pl} (h : Both25 ls c P) (e : Ev) :
    (∃ c' P', c.one ls.length (erOf ls) e = some c' ∧ P.one ls e = some P' ∧ Both25 ls c' P') ∨ (c.one ls.length (erOf ls) e = none ∧ (P.one ls e = none ∨ ∃ P', P.one ls e = some P' ∧ P'.badTo ls ls.length = true)) := by
  cases e with
  | mark n => exact .inl ⟨c, P, rfl, rfl, h⟩
  | el late p k t x =>
    have hin := both_in h p
    have e1 : c.one ls.length (erOf ls) (.el late p k t x) = if c.mayE ls.length p (k, t, x) then some (c.el p) else none := rfl
    have e2 : P.one ls (.el late p k t x) = if P.mayE ls p (k, t, x) then some (P.el p) else none := rfl
    rw [e1, e2]
    unfold Crs.mayE Pl.mayE
    rw [hin]
    cases hi : P.in_ ls.length p
    · right; rw [Bool.false_and, Bool.false_and, if_neg (by simp), if_neg (by simp)]; exact ⟨rfl, .inl rfl⟩
    · obtain ⟨p0, p1, p2⟩ := in_lt hi
      rw [h.left _ p1, drop_head?]
      by_cases hr : (lgAt ls p.toNat).1[P.at_ p.toNat]? = some (k, t, x)
      · left
        rw [decide_eq_true hr, Bool.and_self, if_pos rfl, if_pos rfl]
        refine ⟨_, _, rfl, rfl, ⟨fun i hi2 => ?_, fun i hi2 => ?_, h.over, fun i hi2 ho => ?_⟩⟩
        · show put c.left _ _ i = _
          unfold PTree.put Pl.el
          by_cases e : i = p.toNat
          · subst e
            rw [if_pos rfl]
            show _ = List.drop (put P.at_ _ _ _) _
            unfold PTree.put
            rw [if_pos rfl, h.left _ p1, List.tail_drop]
          · rw [if_neg e]
            show _ = List.drop (put P.at_ _ _ i) _
            unfold PTree.put
            rw [if_neg e]
            exact h.left i hi2
        · show put P.at_ _ _ i ≤ _
          unfold PTree.put
          by_cases e : i = p.toNat
          · subst e
            rw [if_pos rfl]
            have := (List.getElem?_eq_some_iff.1 hr).1
            unfold lenOf; omega
          · rw [if_neg e]; exact h.le i hi2
        · have ho' : P.over i = true := ho
          have hne : i ≠ p.toNat := fun e => by rw [e, p2] at ho'; cases ho'
          show put P.at_ _ _ i = _ ∧ _
          unfold PTree.put
          rw [if_neg hne]
          exact h.done i hi2 ho'
      · right; rw [decide_eq_false hr, if_neg (by simp), if_neg (by simp)]; exact ⟨rfl, .inl rfl⟩
  | fault p f =>
    have hin := both_in h p
    have e1 : c.one ls.length (erOf ls) (.fault p f) = if c.mayF ls.length (erOf ls) p f then some (c.fl p) else none := rfl
    have e2 : P.one ls (.fault p f) = if P.mayF ls p f then some (P.fl p) else none := rfl
    rw [e1, e2]
    unfold Crs.mayF Pl.mayF
    rw [hin]
    cases hi : P.in_ ls.length p
    · right; rw [Bool.false_and, Bool.false_and, if_neg (by simp), if_neg (by simp)]; exact ⟨rfl, .inl rfl⟩
    · obtain ⟨p0, p1, p2⟩ := in_lt hi
      rw [h.left _ p1]
      by_cases hr : erOf ls p.toNat ≠ 0 ∧ f = (erOf ls p.toNat : Int)
      · by_cases hl : P.at_ p.toNat = lenOf ls p.toNat
        · left
          have hd : (lgAt ls p.toNat).1.drop (P.at_ p.toNat) = [] := List.drop_of_length_le (by unfold lenOf at hl; omega)
          rw [decide_eq_true hr, decide_eq_true ⟨hr.1, hr.2.symm, hd⟩, Bool.and_self, if_pos rfl, if_pos rfl]
          refine ⟨_, _, rfl, rfl, ⟨h.left, h.le, fun i hi2 => ?_, fun i hi2 ho => ?_⟩⟩
          · show (if (i : Int) = p then true else c.over i) = (if i = p.toNat then true else P.over i)
            by_cases e : i = p.toNat
            · rw [if_pos e, if_pos (by omega)]
            · rw [if_neg e, if_neg (by omega)]; exact h.over i hi2
          · have ho' : (if i = p.toNat then true else P.over i) = true := ho
            by_cases e : i = p.toNat
            · subst e; exact ⟨hl, hr.1⟩
            · rw [if_neg e] at ho'; exact h.done i hi2 ho'
        · right
          have hlt := h.le p.toNat p1
          have hd : ¬ ((lgAt ls p.toNat).1.drop (P.at_ p.toNat) = []) := fun hd => by
            have := congrArg List.length hd
            rw [List.length_drop] at this
            unfold lenOf at hl hlt
            simp at this
            omega
          rw [decide_eq_true hr, decide_eq_false (fun h => hd h.2.2), if_neg (by simp), Bool.and_self, if_pos rfl]
          refine ⟨rfl, .inr ⟨_, rfl, ?_⟩⟩
          rw [badTo_iff]
          refine ⟨p.toNat, p1, ?_, ?_⟩
          · show (if p.toNat = p.toNat then true else _) = true
            rw [if_pos rfl]
          · show P.at_ p.toNat < _
            omega
      · right; rw [decide_eq_false hr, decide_eq_false (fun h => hr ⟨h.1, h.2.1.symm⟩), if_neg (by simp), if_neg (by simp)]; exact ⟨rfl, .inl rfl⟩
theorem both_all (ls : List Lg) : ∀ (l : List Ev) {c : Crs} {P : Pl} (h : Both25 ls c P),
    (∃ c' P', c.all ls.length (erOf ls) l = some c' ∧ P.all ls l = some P' ∧ Both25 ls c' P') ∨ (c.all ls.length (erOf ls) l = none ∧ (P.all ls l = none ∨ ∃ P', P.all ls l = some P' ∧ P'.badTo ls ls.length = true))
  | [], c, P, h => .inl ⟨c, P, rfl, rfl, h⟩
  | e :: l, c, P, h => by
    rw [all_cons, plall_cons]
    rcases both_one h e with ⟨c1, P1, h1, h2, h3⟩ | ⟨h1, h2 | ⟨P1, h2, h3⟩⟩
    · rw [h1, h2]
      exact both_all ls l h3
    · rw [h1, h2]
      exact .inr ⟨rfl, .inl rfl⟩
    · rw [h1, h2]
      right
      refine ⟨rfl, ?_⟩
      show P1.all ls l = none ∨ ∃ P', P1.all ls l = some P' ∧ _
      cases h4 : P1.all ls l with
      | none => exact .inl rfl
      | some P2 => exact .inr ⟨P2, rfl, bad_all ls l h4 h3⟩
theorem plain_is (ls : List Lg) (l : List Ev) : plainB ls l = (keptB ls l, wholeB ls l) := by
  have h0 : Both25 ls (Crs.start ls) ⟨fun _ => 0, fun _ => false⟩ := ⟨fun i hi => rfl, fun i hi => Nat.zero_le _, fun i hi => rfl, fun i hi h => by cases h⟩
  unfold plainB keptB wholeB
  rcases both_all ls l h0 with ⟨c, P, h1, h2, h3⟩ | ⟨h1, h2 | ⟨P, h2, h3⟩⟩
  · rw [h1, h2]
    have hnb : P.badTo ls ls.length = false := by
      cases hb : P.badTo ls ls.length
      · rfl
      · obtain ⟨i, hi, ho, hl⟩ := (badTo_iff P ls _).1 hb
        have := (h3.done i hi ho).1
        omega
    show (if P.badTo ls ls.length = true then _ else _) = _
    rw [hnb, if_neg (by simp)]
    show (true, _) = (true, _)
    congr 1
    rw [Bool.and_comm]
    congr 1
    have : P.okTo ls ls.length = true ↔ c.doneTo (erOf ls) ls.length = true := by
      rw [okTo_iff, doneTo_true]
      constructor
      · intro h i hi
        obtain ⟨a, b⟩ := h i hi
        refine ⟨by rw [h3.left i hi, a]; exact List.drop_of_length_le (Nat.le_refl _), ?_⟩
        by_cases he : erOf ls i = 0
        · exact .inl he
        · right; rw [h3.over i hi]; exact b.2 he
      · intro h i hi
        obtain ⟨a, b⟩ := h i hi
        rw [h3.left i hi] at a
        have hle := h3.le i hi
        have hlen := congrArg List.length a
        rw [List.length_drop] at hlen
        have hz : ([] : List R).length = 0 := rfl
        refine ⟨by unfold lenOf at *; omega, fun ho => (h3.done i hi ho).2, fun he => ?_⟩
        rcases b with b | b
        · exact absurd b he
        · rw [h3.over i hi] at b; exact b
    cases h5 : P.okTo ls ls.length <;> cases h6 : c.doneTo (erOf ls) ls.length <;> simp_all
  · rw [h1, h2]; rfl
  · rw [h1, h2]
    show (if P.badTo ls ls.length = true then _ else _) = _
    rw [h3, if_pos rfl]; rfl
/- Orderly, pair by pair. -/
def pairsB (b least : Int) (l : List R) : Prop := ∀ k (hk : k < l.length), least ≤ l[k].2.1 ∧ ∀ j (hj : j < k), sub (l[j]'(by omega)).2.1 b ≤ l[k].2.1
theorem sub_most {b m : Int} : ∀ (l : List Int) (t : Int), sub (most m l) b ≤ t ↔ sub m b ≤ t ∧ ∀ x ∈ l, sub x b ≤ t := by
  intro l t
  constructor
  · intro h
    refine ⟨Int.le_trans (sub_mono b (most_ge l m)) h, fun x hx => Int.le_trans (sub_mono b (most_mem l m x hx)) h⟩
  · rintro ⟨h1, h2⟩
    rcases most_in l m with e | e
    · rw [e]; exact h1
    · exact h2 _ e
theorem keeps_iff (b least : Int) : ∀ (l : List R) (m : Int), keepsAt b least m l = true ↔ ∀ k (hk : k < l.length), least ≤ l[k].2.1 ∧ sub (most m (times (l.take k))) b ≤ l[k].2.1
  | [], m => ⟨fun _ k hk => (Nat.not_lt_zero _ hk).elim, fun _ => rfl⟩
  | r :: l, m => by
    show (!(decide (r.2.1 < least) || decide (r.2.1 < sub m b)) && keepsAt b least (if m < r.2.1 then r.2.1 else m) l) = true ↔ _
    rw [Bool.and_eq_true, Bool.not_eq_true', Bool.or_eq_false_iff, decide_eq_false_iff_not, decide_eq_false_iff_not, keeps_iff b least l]
    constructor
    · rintro ⟨⟨h1, h2⟩, h3⟩ k hk
      rcases k with _ | k
      · show least ≤ r.2.1 ∧ sub m b ≤ r.2.1
        omega
      · exact h3 k (by simpa using hk)
    · intro h
      have h0 := h 0 (by simp)
      have h0' : least ≤ r.2.1 ∧ sub m b ≤ r.2.1 := h0
      refine ⟨by omega, fun k hk => ?_⟩
      exact h (k + 1) (by simpa using hk)
theorem keeps_pairs {b : Int} {l : List R} (hin : ∀ r ∈ l, -9223372036854775808 ≤ r.2.1) (hb : 0 ≤ b) : keepsB b l = true ↔ pairsB b (add (add (-9223372036854775808) b) 1) l := by
  unfold keepsB pairsB
  rw [keeps_iff]
  have hs : sub (-9223372036854775808) b = -9223372036854775808 := by
    unfold sub clampI
    (repeat' split) <;> omega
  constructor
  · intro h k hk
    obtain ⟨h1, h2⟩ := h k hk
    refine ⟨h1, fun j hj => ?_⟩
    have := ((sub_most _ _).1 h2).2 (l[j]'(by omega)).2.1 (by
      unfold times
      refine List.mem_map.2 ⟨l[j]'(by omega), ?_, rfl⟩
      have hjt : j < (l.take k).length := by rw [List.length_take]; omega
      have := List.getElem_mem hjt
      rwa [List.getElem_take] at this)
    exact this
  · intro h k hk
    obtain ⟨h1, h2⟩ := h k hk
    refine ⟨h1, (sub_most _ _).2 ⟨by rw [hs]; exact hin _ (List.getElem_mem hk), fun x hx => ?_⟩⟩
    obtain ⟨r, hr, rfl⟩ := List.mem_map.1 hx
    obtain ⟨j, hj, rfl⟩ := List.mem_iff_getElem.1 hr
    rw [List.length_take] at hj
    rw [List.getElem_take]
    exact h2 j (by omega)
end Go.Proofs.YtmimfkhkilijcaaGreat
