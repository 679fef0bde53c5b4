/- A source's pieces, and the plain state. -/
import Derived.Test.YtoecikeleoaecaaGreatSrc5
namespace Go.Proofs.YtoecikeleoaecaaGreat
set_option maxRecDepth 4000
open Go.ChangeShapes Go.WideShapes Go.ChangeAt Go.RowKit
open PHist PRing PSat PClamp PBound PFrame PVar PCrc PSign PTree PEv
set_option linter.unusedVariables false
set_option linter.unusedSimpArgs false

def loOf (s : St) (evs : List Ev) (beg : Nat) : Lo :=
  { n := s.ps.length, m := s.ps.length, timeout := s.timeout, drift := s.drift, ru := fun j => (pat s.ps j).rule, re := fun j => (pat s.ps j).recs, er := fun j => (pat s.ps j).err, rd := fun j => (pat s.ps j).read, gt := fun j => (pat s.ps j).got,
    is := ss s.ps, tl := fun j => (pat s.ps j).til, K := kk s.ps, S := ss s.ps, L := kk s.ps, clock := s.clock, now := s.now, G := s.now, evs := evs, beg := beg }
theorem lo_refused (s : St) (evs : List Ev) (beg : Nat) (i : Int) : (loOf s evs beg).refused i = s.refused i := rfl
/-- How far time has come, of these partitions. -/
theorem lo_adv (ps : List Pt) (t d c now : Int) (evs : List Ev) (beg : Nat) : (loOf ⟨ps, t, d, c, now⟩ evs beg).adv = loOf ⟨ps, t, d, c, further now ps⟩ (evs ++ marksE now ps) beg := by
  unfold Lo.adv further marksE
  by_cases h : least ps ≤ now
  · rw [if_pos h, if_pos h, List.append_nil]
    exact if_pos h
  · rw [if_neg h, if_neg h]
    exact if_neg h
theorem pat_map_any (ps : List Pt) (f : Pt → Pt) (j : Nat) : pat (ps.map f) j = if j < ps.length then f (pat ps j) else zp := by
  by_cases h : j < ps.length
  · rw [if_pos h, pat_map h]
  · rw [if_neg h]
    unfold pat
    rw [List.getD_eq_getElem?_getD, List.getElem?_eq_none (by rw [List.length_map]; omega)]; rfl
theorem pat_none {ps : List Pt} {j : Nat} (h : ¬ j < ps.length) : pat ps j = zp := by
  unfold pat
  rw [List.getD_eq_getElem?_getD, List.getElem?_eq_none (by omega)]; rfl
/-- What waiting makes. -/
def wf (x : Lo) (f : Nat → Int) (k : Nat) : Nat → Int := fun j => if j < k ∧ x.is j = 0 ∧ x.tl j ≤ x.clock then 1 else f j
theorem wf_next (x : Lo) (f : Nat → Int) (k : Nat) : wf x f (k + 1) = if x.is k = 0 ∧ x.tl k ≤ x.clock then put (wf x f k) k 1 else wf x f k := by
  funext j
  by_cases hk : x.is k = 0 ∧ x.tl k ≤ x.clock
  · rw [if_pos hk]
    by_cases e : j = k
    · subst e
      rw [put_same]
      exact if_pos ⟨by omega, hk⟩
    · rw [put_other _ _ _ e]
      unfold wf
      have : (j < k + 1 ∧ x.is j = 0 ∧ x.tl j ≤ x.clock) ↔ (j < k ∧ x.is j = 0 ∧ x.tl j ≤ x.clock) := ⟨fun h => ⟨by omega, h.2⟩, fun h => ⟨by omega, h.2⟩⟩
      simp only [this]
  · rw [if_neg hk]
    unfold wf
    have : (j < k + 1 ∧ x.is j = 0 ∧ x.tl j ≤ x.clock) ↔ (j < k ∧ x.is j = 0 ∧ x.tl j ≤ x.clock) := ⟨fun h => ⟨by
      by_cases e : j = k
      · subst e; exact absurd h.2 hk
      · omega, h.2⟩, fun h => ⟨by omega, h.2⟩⟩
    simp only [this]
theorem iter_wait (x : Lo) : ∀ k, x.iter Lo.wait k = { x with is := wf x x.is k, S := wf x x.S k }
  | 0 => by
    have h : ∀ f, wf x f 0 = f := fun f => by funext j; exact if_neg (fun h => by omega)
    show x = _
    rw [h, h]
  | k + 1 => by
    show (x.iter Lo.wait k).wait k = _
    rw [iter_wait x k]
    unfold Lo.wait
    have e1 : wf x x.is k k = x.is k := if_neg (fun h => by omega)
    show (if wf x x.is k k = 0 ∧ x.tl k ≤ x.clock then _ else _) = _
    rw [e1]
    by_cases hk : x.is k = 0 ∧ x.tl k ≤ x.clock
    · rw [if_pos hk, wf_next, wf_next, if_pos hk, if_pos hk]
    · rw [if_neg hk, wf_next, wf_next, if_neg hk, if_neg hk]
theorem lo_tick (s : St) (evs : List Ev) (beg : Nat) (b : Int) : (loOf s evs beg).tick b = loOf (s.tickS b) (evs ++ s.tickE b) beg := by
  unfold Lo.tick
  rw [iter_wait]
  have h : ({ ({ (loOf s evs beg) with clock := add s.clock b } : Lo) with is := wf { (loOf s evs beg) with clock := add s.clock b } (ss s.ps) s.ps.length, S := wf { (loOf s evs beg) with clock := add s.clock b } (ss s.ps) s.ps.length } : Lo) = loOf ⟨s.ticked (add s.clock b), s.timeout, s.drift, add s.clock b, s.now⟩ evs beg := by
    have hp : ∀ j, pat (s.ticked (add s.clock b)) j = if j < s.ps.length then (pat s.ps j).wait (add s.clock b) else zp := fun j => pat_map_any _ _ _
    have hw : wf { (loOf s evs beg) with clock := add s.clock b } (ss s.ps) s.ps.length = ss (s.ticked (add s.clock b)) := by
      funext j
      show (if j < s.ps.length ∧ (pat s.ps j).is = 0 ∧ (pat s.ps j).til ≤ add s.clock b then (1 : Int) else (pat s.ps j).is) = (pat (s.ticked (add s.clock b)) j).is
      rw [hp]
      by_cases hj : j < s.ps.length
      · rw [if_pos hj]
        unfold Pt.wait
        by_cases hk : (pat s.ps j).is = 0 ∧ (pat s.ps j).til ≤ add s.clock b
        · rw [if_pos hk, if_pos ⟨hj, hk⟩]
        · rw [if_neg hk, if_neg (fun h => hk h.2)]
      · rw [if_neg hj, if_neg (fun h => hj h.1), pat_none hj]
    have hf : ∀ {α : Type} (f : Pt → α), (∀ p c, f (Pt.wait p c) = f p) → (fun j => f (pat (s.ticked (add s.clock b)) j)) = fun j => f (pat s.ps j) := fun f hf => by
      funext j
      rw [hp]
      by_cases hj : j < s.ps.length
      · rw [if_pos hj, hf]
      · rw [if_neg hj, pat_none hj]
    rw [hw]
    unfold loOf
    have hl : (s.ticked (add s.clock b)).length = s.ps.length := by unfold St.ticked; rw [List.length_map]
    have hkk : kk (s.ticked (add s.clock b)) = kk s.ps := hf Pt.mark wait_mark
    have w : ∀ p c, (Pt.wait p c).rule = p.rule ∧ (Pt.wait p c).recs = p.recs ∧ (Pt.wait p c).err = p.err ∧ (Pt.wait p c).read = p.read ∧ (Pt.wait p c).til = p.til := fun p c => by unfold Pt.wait; split <;> exact ⟨rfl, rfl, rfl, rfl, rfl⟩
    have hgot : (fun j => (pat (s.ticked (add s.clock b)) j).got) = fun j => (pat s.ps j).got := hf Pt.got (fun p c => by unfold Pt.got; rw [(w p c).2.1, (w p c).2.2.2.1])
    simp only [hl, hkk, hgot, hf Pt.rule (fun p c => (w p c).1), hf Pt.recs (fun p c => (w p c).2.1), hf Pt.err (fun p c => (w p c).2.2.1), hf Pt.read (fun p c => (w p c).2.2.2.1), hf Pt.til (fun p c => (w p c).2.2.2.2)]
  show Lo.adv ({ ({ (loOf s evs beg) with clock := add s.clock b } : Lo) with is := wf { (loOf s evs beg) with clock := add s.clock b } (ss s.ps) s.ps.length, S := wf { (loOf s evs beg) with clock := add s.clock b } (ss s.ps) s.ps.length } : Lo) = _
  rw [h, lo_adv]; rfl
theorem fun_put {α : Type} {ps : List Pt} {i : Nat} (h : i < ps.length) (p : Pt) (f : Pt → α) : (fun j => f (pat (ps.set i p) j)) = put (fun j => f (pat ps j)) i (f p) := by
  funext j
  rw [pat_set h]
  unfold put
  by_cases e : j = i
  · rw [if_pos e, if_pos e]
  · rw [if_neg e, if_neg e]
theorem got_gone {p : Pt} {t : Int} (h : p.read < p.recs.length) : (p.gone t).got = p.got ++ [p.recs.getD p.read zr] := by
  show p.recs.take (p.read + 1) = _
  rw [List.take_succ_eq_append_getElem h, List.getD_eq_getElem?_getD, List.getElem?_eq_getElem h]; rfl
theorem put_twice {α : Type} (f : Nat → α) (i : Nat) (a b : α) : put (put f i a) i b = put f i b := by
  funext j
  unfold put
  by_cases e : j = i <;> simp [e]
theorem put_id {α : Type} (f : Nat → α) (i : Nat) (a : α) (h : f i = a) : put f i a = f := h ▸ putSelf f i
theorem lo_settled (s : St) (evs : List Ev) (beg : Nat) (i : Nat) (hi : i < s.ps.length) (hr : (pat s.ps i).read < (pat s.ps i).recs.length) (ht : 0 ≤ s.timeout) :
    ((loOf s evs beg).gone i).settle i = loOf ⟨s.polled i, s.timeout, s.drift, s.clock, s.now⟩ (evs ++ (loOf s evs beg).elm i :: faults ((pat s.ps i).gone (add s.clock s.timeout)) i) beg := by
  have hmax : max s.timeout 0 = s.timeout := by omega
  have hg : ((pat s.ps i).gone (add s.clock s.timeout)).got = (pat s.ps i).got ++ [(pat s.ps i).recs.getD (pat s.ps i).read zr] := got_gone hr
  have hmk : (loOf s evs beg).mk2 i = ((pat s.ps i).gone (add s.clock s.timeout)).mark := by
    unfold Pt.mark; rw [hg]; rfl
  have hfin : ((loOf s evs beg).gone i).fin i = (settled ((pat s.ps i).gone (add s.clock s.timeout))).is := by
    unfold Lo.fin settled
    show (if put (fun j => (pat s.ps j).read) i ((pat s.ps i).read + 1) i < (pat s.ps i).recs.length then put (ss s.ps) i 0 i else _) = _
    rw [put_same, put_same]
    by_cases h1 : (pat s.ps i).read + 1 < (pat s.ps i).recs.length
    · rw [if_pos h1]
      have h2 : ((pat s.ps i).gone (add s.clock s.timeout)).read < ((pat s.ps i).gone (add s.clock s.timeout)).recs.length := h1
      rw [if_pos h2]; rfl
    · rw [if_neg h1]
      have h2 : ¬ ((pat s.ps i).gone (add s.clock s.timeout)).read < ((pat s.ps i).gone (add s.clock s.timeout)).recs.length := h1
      rw [if_neg h2]; rfl
  have hflt : ((loOf s evs beg).gone i).flt i = faults ((pat s.ps i).gone (add s.clock s.timeout)) i := by
    unfold Lo.flt faults
    show (if put (fun j => (pat s.ps j).read) i ((pat s.ps i).read + 1) i < (pat s.ps i).recs.length then _ else _) = _
    rw [put_same]; rfl
  unfold Lo.settle
  rw [hfin, hflt]
  unfold Lo.gone
  rw [hmk]
  have hl : (s.polled i).length = s.ps.length := by unfold St.polled; rw [List.length_set]
  have hset : ∀ {α : Type} (f : Pt → α), (fun j => f (pat (s.polled i) j)) = put (fun j => f (pat s.ps j)) i (f (settled ((pat s.ps i).gone (add s.clock s.timeout)))) := fun f => fun_put hi _ f
  have w : ∀ p : Pt, (settled p).rule = p.rule ∧ (settled p).recs = p.recs ∧ (settled p).err = p.err ∧ (settled p).read = p.read ∧ (settled p).til = p.til ∧ (settled p).got = p.got := fun p => by unfold settled; split <;> exact ⟨rfl, rfl, rfl, rfl, rfl, rfl⟩
  have a1 := w ((pat s.ps i).gone (add s.clock s.timeout))
  have k1 : (fun j => (pat (s.polled i) j).rule) = fun j => (pat s.ps j).rule := by rw [hset Pt.rule, a1.1]; exact put_id _ _ _ rfl
  have k2 : (fun j => (pat (s.polled i) j).recs) = fun j => (pat s.ps j).recs := by rw [hset Pt.recs, a1.2.1]; exact put_id _ _ _ rfl
  have k3 : (fun j => (pat (s.polled i) j).err) = fun j => (pat s.ps j).err := by rw [hset Pt.err, a1.2.2.1]; exact put_id _ _ _ rfl
  have k4 : (fun j => (pat (s.polled i) j).read) = put (fun j => (pat s.ps j).read) i ((pat s.ps i).read + 1) := by rw [hset Pt.read, a1.2.2.2.1]; rfl
  have k5 : (fun j => (pat (s.polled i) j).til) = put (fun j => (pat s.ps j).til) i (add s.clock s.timeout) := by rw [hset Pt.til, a1.2.2.2.2.1]; rfl
  have k6 : (fun j => (pat (s.polled i) j).got) = put (fun j => (pat s.ps j).got) i ((pat s.ps i).got ++ [(pat s.ps i).recs.getD (pat s.ps i).read zr]) := by rw [hset Pt.got, a1.2.2.2.2.2, hg]
  have k7 : kk (s.polled i) = put (kk s.ps) i ((pat s.ps i).gone (add s.clock s.timeout)).mark := (hset Pt.mark).trans (by rw [settled_mark]; rfl)
  have k8 : ss (s.polled i) = put (ss s.ps) i (settled ((pat s.ps i).gone (add s.clock s.timeout))).is := hset Pt.is
  unfold loOf
  simp only [hl, k1, k2, k3, k4, k5, k6, k7, k8, hmax, put_twice, List.append_assoc, List.cons_append, List.nil_append]
  rfl
theorem lo_poll (s : St) (evs : List Ev) (beg : Nat) (i : Nat) (hi : i < s.ps.length) (hr : (pat s.ps i).read < (pat s.ps i).recs.length) (ht : 0 ≤ s.timeout) : (loOf s evs beg).poll i = loOf (s.pollS i) (evs ++ s.pollE i) beg := by
  unfold Lo.poll
  rw [lo_settled s evs beg i hi hr ht, lo_adv]
  unfold St.pollS St.pollE
  rw [List.append_assoc]
  rfl
end Go.Proofs.YtoecikeleoaecaaGreat
