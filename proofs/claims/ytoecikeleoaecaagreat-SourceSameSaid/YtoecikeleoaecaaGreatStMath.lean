/- Plain facts: somebody can always be read; what is refused changes nothing; whoever is first. -/
import Derived.Test.YtoecikeleoaecaaGreatStPlain
namespace Go.Proofs.YtoecikeleoaecaaGreat
set_option maxRecDepth 4000
open Go.ChangeShapes Go.WideShapes Go.ChangeAt Go.RowKit
open PHist PRing PSat PClamp PBound PFrame PSign PTree PEv
set_option linter.unusedVariables false

/-- How far time has come is no less than the least mark. -/
def St.Far (s : St) : Prop := least s.ps ≤ s.now
theorem further_far (now : Int) (ps : List Pt) : least ps ≤ further now ps := by
  unfold further
  split <;> omega
theorem St.Far.do {s : St} (h : s.Far) (x : Bool × Int) : (s.doS x).Far := by
  unfold St.doS
  split
  · split
    · exact h
    · exact further_far _ _
  · split
    · exact h
    · exact further_far _ _
theorem new_far (t d : Int) (rs : List Rul) (ls : List (List UInt8)) : (St.new t d rs ls).Far := further_far _ _
theorem St.Far.run {s : St} (h : s.Far) : ∀ (l : List (Bool × Int)), (s.run l).Far := by
  intro l
  induction l generalizing s with
  | nil => exact h
  | cons x l ih => exact ih (h.do x)
/-- Whose mark it is. -/
theorem ml_who {K S : Nat → Int} {n i : Nat} (hi : i < n) (h0 : S i = 0 ∨ S i = 1) : ∃ p, p < n ∧ (S p = 0 ∨ S p = 1) ∧ ml K S n = K p := by
  unfold ml mlo
  cases hs : (scan K (oa S 0) n).2.2
  · rw [if_neg (by simp)]
    have hn := (scan_none K _ n hs).2
    have hi1 : S i = 1 := by
      rcases h0 with h0 | h0
      · have := hn i hi
        simp [oa, h0] at this
      · exact h0
    cases ht : (scan K (oa S 1) n).2.2
    · have := (scan_none K _ n ht).2 i hi
      simp [oa, hi1] at this
    · obtain ⟨p, e, hp, ho, hb⟩ := scan_some K _ n ht
      rw [if_pos rfl, e]
      simp [oa] at ho
      exact ⟨p, hp, .inr ho, rfl⟩
  · obtain ⟨p, e, hp, ho, hb⟩ := scan_some K _ n hs
    rw [if_pos rfl, e]
    simp [oa] at ho
    exact ⟨p, hp, .inl ho, rfl⟩
theorem add_ge {a d : Int} (ha : in64 a) (hd : 0 ≤ d) : a ≤ add a d := by
  unfold in64 at ha
  unfold add clampI
  split
  · omega
  · split <;> omega
/-- As long as one is not over, one that isn't over isn't refused. -/
theorem free_one {s : St} (h : s.Ok) (hf : s.Far) {i : Nat} (hi : i < s.ps.length) (h1 : ss s.ps i < 2) : ∃ p, p < s.ps.length ∧ s.refused p = false ∧ ss s.ps p < 2 := by
  have h0 := (h.pt _ (pat_mem hi)).lo
  obtain ⟨p, hp, hs, he⟩ := ml_who (K := kk s.ps) (S := ss s.ps) hi (by unfold ss at h1 ⊢; omega)
  refine ⟨p, hp, ?_, by omega⟩
  unfold St.refused
  simp only [Bool.or_eq_false_iff, decide_eq_false_iff_not, Decidable.not_not]
  have h2 : kk s.ps p ≤ s.now := by rw [← he]; exact hf
  have := add_ge h.nw h.dr.1
  rw [show ((p : Nat) : Int).toNat = p by omega]
  refine ⟨⟨by omega, by omega⟩, by omega⟩
/-- What changes nothing. -/
def St.vain (s : St) (x : Bool × Int) : Bool := (!x.1 && s.refused x.2) || (x.1 && decide (x.2 < 0))
theorem vain_same {s : St} {x : Bool × Int} (h : s.vain x = true) : s.doS x = s ∧ s.doE x = [] := by
  obtain ⟨t, n⟩ := x
  unfold St.vain at h
  unfold St.doS St.doE
  cases t
  · simp at h
    simp [h]
  · simp at h
    simp [h]

/- In the other order. -/
theorem scan_least {K S : Nat → Int} {q : Int} {n : Nat} (hs : (scan K (oa S q) n).2.2 = true) : ∃ i, i < n ∧ S i = q ∧ (scan K (oa S q) n).1 = K i ∧ ∀ m, m < n → S m = q → K i ≤ K m := by
  obtain ⟨p, e, hp, ho, hb⟩ := scan_some K _ n hs
  refine ⟨p, hp, by simpa [oa] using ho, by rw [e], fun m hm hq => ?_⟩
  have := hb m hm (by simp [oa, hq])
  unfold Beats at this
  omega
theorem scan_turn {K S : Nat → Int} {q : Int} {n : Nat} : (scan (fun j => K (n - 1 - j)) (oa (fun j => S (n - 1 - j)) q) n).2.2 = (scan K (oa S q) n).2.2 ∧ (scan (fun j => K (n - 1 - j)) (oa (fun j => S (n - 1 - j)) q) n).1 = (scan K (oa S q) n).1 := by
  cases h1 : (scan K (oa S q) n).2.2 <;> cases h2 : (scan (fun j => K (n - 1 - j)) (oa (fun j => S (n - 1 - j)) q) n).2.2
  · rw [(scan_none _ _ n h1).1, (scan_none _ _ n h2).1]
    exact ⟨rfl, rfl⟩
  · obtain ⟨i, hi, hs, _, _⟩ := scan_least h2
    have := (scan_none _ _ n h1).2 (n - 1 - i) (by omega)
    simp [oa, hs] at this
  · obtain ⟨i, hi, hs, _, _⟩ := scan_least h1
    have := (scan_none _ _ n h2).2 (n - 1 - i) (by omega)
    unfold oa at this
    rw [decide_eq_true_iff] at this
    have this : S (n - 1 - (n - 1 - i)) ≠ q := this
    rw [show n - 1 - (n - 1 - i) = i by omega] at this
    exact absurd hs this
  · obtain ⟨i, hi, hs, he, hl⟩ := scan_least h1
    obtain ⟨j, hj, hsj, hej, hlj⟩ := scan_least h2
    refine ⟨rfl, ?_⟩
    rw [he, hej]
    have a := hl (n - 1 - j) (by omega) hsj
    have b := hlj (n - 1 - i) (by omega) (by show S (n - 1 - (n - 1 - i)) = q; rw [show n - 1 - (n - 1 - i) = i by omega]; exact hs)
    rw [show n - 1 - (n - 1 - i) = i by omega] at b
    omega
theorem ml_turn {K S : Nat → Int} {n : Nat} : ml (fun j => K (n - 1 - j)) (fun j => S (n - 1 - j)) n = ml K S n := by
  unfold ml mlo
  rw [(scan_turn (q := 0)).1, (scan_turn (q := 0)).2, (scan_turn (q := 1)).1, (scan_turn (q := 1)).2]
theorem pat_rev {ps : List Pt} {i : Nat} (h : i < ps.length) : pat ps.reverse i = pat ps (ps.length - 1 - i) := by
  rw [pat_lt (by rw [List.length_reverse]; exact h), pat_lt (by omega), List.getElem_reverse]
theorem least_rev (ps : List Pt) : least ps.reverse = least ps := by
  unfold least
  rw [List.length_reverse, ← ml_turn (n := ps.length)]
  refine ml_congr (fun i hi => ?_) (fun i hi => ?_)
  · unfold kk; rw [pat_rev (by omega), show ps.length - 1 - (ps.length - 1 - i) = i by omega]
  · unfold ss; rw [pat_rev (by omega), show ps.length - 1 - (ps.length - 1 - i) = i by omega]
def St.rev (s : St) : St := { s with ps := s.ps.reverse }
theorem further_rev (now : Int) (ps : List Pt) : further now ps.reverse = further now ps := by unfold further; rw [least_rev]
theorem marksE_rev (now : Int) (ps : List Pt) : marksE now ps.reverse = marksE now ps := by unfold marksE; rw [least_rev]
/-- The choice of the partition at the same place from the other end. -/
def turnC (n : Nat) (x : Bool × Int) : Bool × Int := if x.1 then x else (false, if 0 ≤ x.2 ∧ x.2 < n then (n : Int) - 1 - x.2 else -1)
def turnE (n : Nat) : Ev → Ev
  | .el late p k t x => .el late ((n : Int) - 1 - p) k t x
  | .mark m => .mark m
  | .fault p e => .fault ((n : Int) - 1 - p) e
theorem refused_rev (s : St) (i : Int) (h : 0 ≤ i ∧ i < s.ps.length) : s.rev.refused ((s.ps.length : Int) - 1 - i) = s.refused i := by
  have e : ((s.ps.length : Int) - 1 - i).toNat = s.ps.length - 1 - i.toNat := by omega
  have e2 : ss s.rev.ps ((s.ps.length : Int) - 1 - i).toNat = ss s.ps i.toNat := by
    rw [e]; unfold ss; show (pat s.ps.reverse _).is = _
    rw [pat_rev (by omega), show s.ps.length - 1 - (s.ps.length - 1 - i.toNat) = i.toNat by omega]
  have e3 : kk s.rev.ps ((s.ps.length : Int) - 1 - i).toNat = kk s.ps i.toNat := by
    rw [e]; unfold kk; show (pat s.ps.reverse _).mark = _
    rw [pat_rev (by omega), show s.ps.length - 1 - (s.ps.length - 1 - i.toNat) = i.toNat by omega]
  unfold St.refused
  rw [e2, e3]
  have e4 : s.rev.ps.length = s.ps.length := List.length_reverse
  rw [e4]
  have a1 : decide (¬ (0 ≤ (s.ps.length : Int) - 1 - i ∧ (s.ps.length : Int) - 1 - i < s.ps.length)) = decide (¬ (0 ≤ i ∧ i < s.ps.length)) := by
    rw [decide_eq_false (by omega), decide_eq_false (by omega)]
  rw [a1]; rfl
theorem set_rev {ps : List Pt} {i : Nat} (h : i < ps.length) (p : Pt) : ps.reverse.set (ps.length - 1 - i) p = (ps.set i p).reverse := by
  apply List.ext_getElem
  · simp
  · intro j h1 h2
    simp only [List.length_set, List.length_reverse] at h1
    rw [List.getElem_set, List.getElem_reverse, List.getElem_reverse, List.getElem_set]
    simp only [List.length_set]
    by_cases e : ps.length - 1 - i = j
    · rw [if_pos e, if_pos (by omega)]
    · rw [if_neg e, if_neg (by omega)]
theorem faults_turn (p : Pt) (n i : Nat) (h : i < n) : faults p (n - 1 - i) = (faults p i).map (turnE n) := by
  unfold faults
  split
  · rfl
  · split
    · rfl
    · show [Ev.fault _ _] = [Ev.fault _ _]
      congr 2; omega
theorem marksE_turn (n : Nat) (now : Int) (ps : List Pt) : (marksE now ps).map (turnE n) = marksE now ps := by
  unfold marksE
  split <;> rfl
theorem poll_rev (s : St) (i : Nat) (h : i < s.ps.length) : s.rev.pollS (s.ps.length - 1 - i) = (s.pollS i).rev ∧ s.rev.pollE (s.ps.length - 1 - i) = (s.pollE i).map (turnE s.ps.length) := by
  have e1 : pat s.rev.ps (s.ps.length - 1 - i) = pat s.ps i := by
    show pat s.ps.reverse _ = _
    rw [pat_rev (by omega), show s.ps.length - 1 - (s.ps.length - 1 - i) = i by omega]
  have e2 : s.rev.polled (s.ps.length - 1 - i) = (s.polled i).reverse := by
    unfold St.polled
    rw [e1]
    show s.ps.reverse.set _ _ = _
    exact set_rev h _
  constructor
  · unfold St.pollS
    rw [e2, further_rev]; rfl
  · unfold St.pollE
    rw [e1, e2, marksE_rev, List.map_cons, List.map_append, marksE_turn, faults_turn _ _ _ h]
    show Ev.el _ _ _ _ _ :: _ = Ev.el _ _ _ _ _ :: _
    congr 2; omega
theorem tick_rev (s : St) (b : Int) : s.rev.tickS b = (s.tickS b).rev ∧ s.rev.tickE b = s.tickE b := by
  have e : ∀ c, s.rev.ticked c = (s.ticked c).reverse := fun c => by
    unfold St.ticked
    show s.ps.reverse.map _ = _
    rw [List.map_reverse]
  constructor
  · unfold St.tickS
    show St.mk (s.rev.ticked (add s.clock b)) _ _ _ (further s.now (s.rev.ticked (add s.clock b))) = _
    rw [e, further_rev]; rfl
  · unfold St.tickE
    show marksE s.now (s.rev.ticked (add s.clock b)) = _
    rw [e, marksE_rev]
theorem tickE_turn (s : St) (b : Int) (n : Nat) : (s.tickE b).map (turnE n) = s.tickE b := marksE_turn _ _ _
theorem do_rev (s : St) (x : Bool × Int) : s.rev.doS (turnC s.ps.length x) = (s.doS x).rev ∧ s.rev.doE (turnC s.ps.length x) = (s.doE x).map (turnE s.ps.length) := by
  obtain ⟨t, i⟩ := x
  cases t
  · unfold St.doS St.doE turnC
    simp only [Bool.false_eq_true, if_false]
    by_cases h : 0 ≤ i ∧ i < s.ps.length
    · rw [if_pos h, refused_rev s i h]
      cases hr : s.refused i
      · rw [if_neg (by simp), if_neg (by simp), if_neg (by simp), if_neg (by simp)]
        have := poll_rev s i.toNat (by omega)
        rw [show ((s.ps.length : Int) - 1 - i).toNat = s.ps.length - 1 - i.toNat by omega]
        exact this
      · rw [if_pos rfl, if_pos rfl, if_pos rfl, if_pos rfl]
        exact ⟨rfl, rfl⟩
    · rw [if_neg h]
      have h1 : s.refused i = true := by unfold St.refused; simp [h]
      have h2 : s.rev.refused (-1) = true := by unfold St.refused; simp
      rw [h1, h2, if_pos rfl, if_pos rfl, if_pos rfl, if_pos rfl]
      exact ⟨rfl, rfl⟩
  · unfold St.doS St.doE turnC
    simp only [if_true]
    by_cases h : i < 0
    · rw [if_pos h, if_pos h, if_pos h, if_pos h]; exact ⟨rfl, rfl⟩
    · rw [if_neg h, if_neg h, if_neg h, if_neg h, tickE_turn]
      exact tick_rev s i
theorem raws_rev {t : Int} {rs : List Rul} {ls : List (List UInt8)} (h : ls.length = rs.length) : raws t rs.reverse ls.reverse = (raws t rs ls).reverse := by
  unfold raws
  rw [List.reverse_zipWith (by omega)]
theorem new_rev {t d : Int} {rs : List Rul} {ls : List (List UInt8)} (h : ls.length = rs.length) : St.new t d rs.reverse ls.reverse = (St.new t d rs ls).rev := by
  have e : begun t rs.reverse ls.reverse = (begun t rs ls).reverse := by
    unfold begun
    rw [raws_rev h, List.map_reverse]
  unfold St.new St.rev
  rw [e, further_rev]
/-- How many faults there are at the beginning. -/
theorem faultsTo_eq (ps : List Pt) : ∀ k, k ≤ ps.length → (faultsTo ps k).length = ((ps.take k).map fun p => (faults p 0).length).sum
  | 0, _ => by simp [faultsTo]
  | k + 1, hk => by
    show (faultsTo ps k ++ faults (pat ps k) k).length = _
    rw [List.length_append, faultsTo_eq ps k (by omega), List.take_succ_eq_append_getElem (show k < ps.length by omega), List.map_append, List.sum_append, ← pat_lt (by omega)]
    congr 1
    rw [List.map_cons, List.map_nil, List.sum_cons, List.sum_nil, Nat.add_zero]
    unfold faults
    by_cases h1 : (pat ps k).read < (pat ps k).recs.length
    · rw [if_pos h1, if_pos h1]
    · rw [if_neg h1, if_neg h1]
      by_cases h2 : (pat ps k).err = 0
      · rw [if_pos h2, if_pos h2]
      · rw [if_neg h2, if_neg h2]; rfl
theorem sum_rev (l : List Nat) : l.reverse.sum = l.sum := by
  induction l with
  | nil => rfl
  | cons x l ih => rw [List.reverse_cons, List.sum_append, ih, List.sum_cons]; simp; omega
theorem newE_rev {t : Int} {rs : List Rul} {ls : List (List UInt8)} (h : ls.length = rs.length) : (St.newE t rs.reverse ls.reverse).length = (St.newE t rs ls).length := by
  have hl := raws_len (t := t) h
  unfold St.newE
  have e : begun t rs.reverse ls.reverse = (begun t rs ls).reverse := by
    unfold begun
    rw [raws_rev h, List.map_reverse]
  rw [e, marksE_rev, raws_rev h, List.length_append, List.length_append, List.length_reverse, faultsTo_eq _ _ (by rw [List.length_reverse]; omega), faultsTo_eq _ _ (by omega)]
  congr 1
  rw [List.take_of_length_le (by rw [List.length_reverse]; omega), List.take_of_length_le (by omega), List.map_reverse, sum_rev]
end Go.Proofs.YtoecikeleoaecaaGreat
