/- KJuP: what is reached of them. -/
import Derived.Test.YtmimfkhkilijcaaGreatDoorPr15
import Derived.Test.YtmimfkhkilijcaaGreatDoorPr26
namespace Go.Proofs.YtmimfkhkilijcaaGreatDoor
set_option maxRecDepth 4000
open Go.ChangeShapes Go.WideShapes Go.ChangeAt Go.RowKit
open PHist PRing PSat PClamp PBound PFrame PSign PTree PEv
set_option linter.unusedVariables false

def markOf (m : Int) : Ev → Int
  | .mark n => n
  | .el _ _ _ _ _ => m
  | .fault _ _ => m
def lastFrom (m : Int) (l : List Ev) : Int := l.foldl markOf m
theorem lastFrom_append (m : Int) (a b : List Ev) : lastFrom m (a ++ b) = lastFrom (lastFrom m a) b := List.foldl_append ..
/-- Does time go on, from m on? -/
def risesAt : Int → List Ev → Bool
  | _, [] => true
  | m, .mark n :: l => decide (m < n) && risesAt n l
  | m, .el _ _ _ _ _ :: l => risesAt m l
  | m, .fault _ _ :: l => risesAt m l
/-- Is one of that time late, behind a mark? -/
def lateT (m t : Int) : Bool := decide (m ≠ -9223372036854775808 ∧ t ≤ m)
/-- Is each late just if it is, from m on? -/
def taggedAt : Int → List Ev → Bool
  | _, [] => true
  | _, .mark n :: l => taggedAt n l
  | m, .el late _ _ t _ :: l => (late == lateT m t) && taggedAt m l
  | m, .fault _ _ :: l => taggedAt m l
theorem risesAt_append : ∀ (a b : List Ev) (m : Int), risesAt m (a ++ b) = (risesAt m a && risesAt (lastFrom m a) b)
  | [], b, m => by simp [risesAt, lastFrom]
  | .mark n :: a, b, m => by
    show (decide (m < n) && risesAt n (a ++ b)) = ((decide (m < n) && risesAt n a) && risesAt (lastFrom n a) b)
    rw [risesAt_append a b n, Bool.and_assoc]
  | .el _ _ _ _ _ :: a, b, m => risesAt_append a b m
  | .fault _ _ :: a, b, m => risesAt_append a b m
theorem taggedAt_append : ∀ (a b : List Ev) (m : Int), taggedAt m (a ++ b) = (taggedAt m a && taggedAt (lastFrom m a) b)
  | [], b, m => by simp [taggedAt, lastFrom]
  | .mark n :: a, b, m => taggedAt_append a b n
  | .el late p k t x :: a, b, m => by
    show ((late == lateT m t) && taggedAt m (a ++ b)) = (((late == lateT m t) && taggedAt m a) && taggedAt (lastFrom m a) b)
    rw [taggedAt_append a b m, Bool.and_assoc]
  | .fault _ _ :: a, b, m => taggedAt_append a b m
def Ev.lateB : Ev → Bool
  | .el late _ _ _ _ => late
  | .mark _ => false
  | .fault _ _ => false
def lates (l : List Ev) : Nat := (l.filter Ev.lateB).length
theorem lates_append (a b : List Ev) : lates (a ++ b) = lates a + lates b := by unfold lates; rw [List.filter_append, List.length_append]
theorem lates_le (l : List Ev) : lates l ≤ l.length := List.length_filter_le _ _
/- What comes out of a source: time goes on, and elements are late just where they are. -/
/-- Good, from one time to another. -/
structure Good (m : Int) (l : List Ev) (m' : Int) : Prop where
  rises : risesAt m l = true
  tagged : taggedAt m l = true
  last : lastFrom m l = m'
theorem Good.append {m m' m2 : Int} {a b : List Ev} (h : Good m a m') (k : Good m' b m2) : Good m (a ++ b) m2 :=
  ⟨by rw [risesAt_append, h.rises, h.last, k.rises]; rfl, by rw [taggedAt_append, h.tagged, h.last, k.tagged]; rfl, by rw [lastFrom_append, h.last, k.last]⟩
end Go.Proofs.YtmimfkhkilijcaaGreatDoor

/- Plain facts on what is promised of what comes out: logs come out as they are, none runs ahead, none is late where logs are orderly, all comes out. -/
namespace Go.Proofs.YtmimfkhkilijcaaGreatDoor
set_option maxRecDepth 4000
open Go.ChangeShapes Go.WideShapes Go.ChangeAt Go.RowKit
open PHist PRing PSat PClamp PBound PFrame PSign PTree PEv
set_option linter.unusedVariables false

/-- Logs, as far as they came out: what is left of each, and whose fault came out. -/
structure Crs where
  left : Nat → List R
  over : Int → Bool
def putI (f : Int → Bool) (i : Int) : Int → Bool := fun j => if j = i then true else f j
/-- Is there such a one, whose fault didn't come out? -/
def Crs.goesOn (c : Crs) (n : Nat) (i : Int) : Bool := decide (0 ≤ i ∧ i < n) && !c.over i
/-- May that come out next? -/
def Crs.mayE (c : Crs) (n : Nat) (p : Int) (r : R) : Bool := c.goesOn n p && decide ((c.left p.toNat).head? = some r)
def Crs.mayF (c : Crs) (n : Nat) (er : Nat → Nat) (p e : Int) : Bool := c.goesOn n p && decide (er p.toNat ≠ 0 ∧ (er p.toNat : Int) = e ∧ c.left p.toNat = [])
def Crs.el (c : Crs) (p : Int) : Crs := ⟨put c.left p.toNat (c.left p.toNat).tail, c.over⟩
def Crs.fl (c : Crs) (p : Int) : Crs := ⟨c.left, putI c.over p⟩
/-- An event comes out; none: the logs don't have it there. -/
def Crs.one (n : Nat) (er : Nat → Nat) (c : Crs) : Ev → Option Crs
  | .mark _ => some c
  | .el _ p k t x => if c.mayE n p (k, t, x) then some (c.el p) else none
  | .fault p e => if c.mayF n er p e then some (c.fl p) else none
def Crs.all (n : Nat) (er : Nat → Nat) : Crs → List Ev → Option Crs
  | c, [] => some c
  | c, e :: l => match c.one n er e with
    | none => none
    | some c' => c'.all n er l
theorem all_cons (n : Nat) (er : Nat → Nat) (c : Crs) (e : Ev) (l : List Ev) : c.all n er (e :: l) = (c.one n er e).bind fun c' => c'.all n er l := by
  show (match c.one n er e with | none => none | some c' => c'.all n er l) = _
  cases c.one n er e <;> rfl
theorem all_append (n : Nat) (er : Nat → Nat) : ∀ (a b : List Ev) (c : Crs), c.all n er (a ++ b) = (c.all n er a).bind fun c' => c'.all n er b
  | [], b, c => rfl
  | e :: a, b, c => by
    rw [List.cons_append, all_cons, all_cons]
    cases h : c.one n er e with
    | none => rfl
    | some c' => exact all_append n er a b c'
/- A source's partitions, and the logs. -/
end Go.Proofs.YtmimfkhkilijcaaGreatDoor

/- Plain facts on what is promised of what comes out: the beginning; none runs ahead; none is late where logs are orderly. -/
namespace Go.Proofs.YtmimfkhkilijcaaGreatDoor
set_option maxRecDepth 4000
open Go.ChangeShapes Go.WideShapes Go.ChangeAt Go.RowKit
open PHist PRing PSat PClamp PBound PFrame PSign PTree PEv
set_option linter.unusedVariables false

/- None runs ahead. -/
/- None is late. -/
end Go.Proofs.YtmimfkhkilijcaaGreatDoor

/- Plain facts: all comes out. -/
namespace Go.Proofs.YtmimfkhkilijcaaGreatDoor
set_option maxRecDepth 4000
open Go.ChangeShapes Go.WideShapes Go.ChangeAt Go.RowKit
open PHist PRing PSat PClamp PBound PFrame PSign PTree PEv
set_option linter.unusedVariables false

/-- How many records are still to be read. -/
def Pt.rest (p : Pt) : Nat := p.recs.length - p.read
/-- All are asked, one behind the other. -/
def oneRound (P : Nat) : List (Bool × Int) := (List.range P).map fun (i : Nat) => (false, ((i : Nat) : Int))
def rounds (P : Nat) : Nat → List (Bool × Int)
  | 0 => []
  | R + 1 => oneRound P ++ rounds P R
end Go.Proofs.YtmimfkhkilijcaaGreatDoor

/- Plain facts: events that come out of a source are as events may be. -/
namespace Go.Proofs.YtmimfkhkilijcaaGreatDoor
set_option maxRecDepth 4000
open Go.ChangeShapes Go.WideShapes Go.ChangeAt Go.RowKit
open PHist PRing PSat PClamp PBound PFrame PSign PTree PEv
set_option linter.unusedVariables false

def Fine (e : Ev) : Prop := Ev.ok e ∧ (etext e).length ≤ 400
theorem fine_marks {now : Int} {ps : List Pt} (h : ∀ p ∈ ps, p.Ok) : ∀ e ∈ marksE now ps, Fine e := by
  intro e he
  unfold marksE at he
  split at he
  · cases he
  · rw [List.mem_singleton.1 he]
    exact ⟨least_in h, Nat.zero_le _⟩
theorem fine_faults {p : Pt} (h : p.Ok) (i : Nat) (hi : i < 1000) : ∀ e ∈ faults p i, Fine e := by
  intro e he
  unfold faults at he
  split at he
  · cases he
  · split at he
    · cases he
    · rw [List.mem_singleton.1 he]
      have := h.er
      exact ⟨⟨by unfold in64; omega, by unfold in64; omega⟩, Nat.zero_le _⟩
theorem fine_do {s : St} (h : s.Ok) (x : Bool × Int) : ∀ e ∈ s.doE x, Fine e := by
  have hd := h.do x
  unfold St.doE
  unfold St.doS at hd
  split
  · split
    · intro e he; cases he
    · next hx hn =>
      rw [if_pos hx, if_neg hn] at hd
      exact fine_marks hd.pt
  · next hx =>
    rw [if_neg hx] at hd
    split
    · intro e he; cases he
    · next hr =>
      rw [if_neg hr] at hd
      rw [Bool.not_eq_true] at hr
      have hi := (refused_not hr).2.1
      have hrd := refused_read h hr
      have hp := h.pt _ (pat_mem hi)
      have h8 := h.n
      have hmem : recAt (pat s.ps x.2.toNat) ∈ (pat s.ps x.2.toNat).recs := by
        unfold recAt
        rw [List.getD_eq_getElem?_getD, List.getElem?_eq_getElem hrd]
        exact List.getElem_mem hrd
      intro e he
      unfold St.pollE at he
      rcases List.mem_cons.1 he with rfl | he
      · have := okR_in (hp.okr _ hmem)
        refine ⟨⟨by unfold in64; omega, this.1, this.2⟩, ?_⟩
        exact hp.short _ hmem
      · rcases List.mem_append.1 he with he | he
        · exact fine_faults (hp.gone (add_in _ _) hrd) _ (by omega) e he
        · exact fine_marks hd.pt e he
theorem fine_run : ∀ (l : List (Bool × Int)) {s : St} (h : s.Ok), ∀ e ∈ s.runE l, Fine e
  | [], s, h, e, he => by cases he
  | x :: l, s, h, e, he => by
    rcases List.mem_append.1 he with he | he
    · exact fine_do h x e he
    · exact fine_run l (h.do x) e he
theorem fine_faultsTo {ps : List Pt} (h : ∀ p ∈ ps, p.Ok) : ∀ k, k ≤ ps.length → k ≤ 1000 → ∀ e ∈ faultsTo ps k, Fine e
  | 0, _, _, e, he => by cases he
  | k + 1, hk, h1, e, he => by
    rcases List.mem_append.1 he with he | he
    · exact fine_faultsTo h k (by omega) (by omega) e he
    · exact fine_faults (h _ (pat_mem (by omega))) k (by omega) e he
theorem fine_new {t : Int} {rs : List Rul} {ls : List (List UInt8)} (hn : ls.length = rs.length) (h8 : rs.length ≤ 8) (hc : ∀ r ∈ rs, rcheck r = 0 ∧ r.Fits) (hl : ∀ l ∈ ls, l.length ≤ 400) (ht : 1 ≤ t ∧ t ≤ 9223372036854775807) : ∀ e ∈ St.newE t rs ls, Fine e := by
  have hr := raws_ok hc hl ht
  intro e he
  unfold St.newE at he
  rcases List.mem_append.1 he with he | he
  · exact fine_faultsTo hr rs.length (by rw [raws_len hn]; omega) (by omega) e he
  · refine fine_marks (fun p hp => ?_) e he
    obtain ⟨q, hq, rfl⟩ := List.mem_map.1 hp
    exact (hr q hq).settled
end Go.Proofs.YtmimfkhkilijcaaGreatDoor

/- Plain facts: what layer 25's statements say first: of two partitions the first one is silent for so long that its record is late. -/
namespace Go.Proofs.YtmimfkhkilijcaaGreatDoor
set_option maxRecDepth 4000
open Go.ChangeShapes Go.WideShapes Go.ChangeAt Go.RowKit
open PHist PRing PSat PClamp PBound PFrame PSign PTree PEv PVar PCrc
set_option linter.unusedVariables false

def b5 : List UInt8 := enc 1 5 []
end Go.Proofs.YtmimfkhkilijcaaGreatDoor
