/- Plain facts on what is promised of what comes out: time goes on, elements are late where they are, how many are, which records and faults a partition has. -/
import Derived.Test.YtmimfkhkilijcaaGreatKSt
import Derived.Test.YtmimfkhkilijcaaGreatKEvV
namespace Go.Proofs.YtmimfkhkilijcaaGreat
set_option maxRecDepth 4000
open Go.ChangeShapes Go.WideShapes Go.ChangeAt Go.RowKit
open PHist PRing PSat PClamp PBound PFrame PSign PTree PEv
set_option linter.unusedVariables false

def nvr : Int := -9223372036854775808
def markOf (m : Int) : Ev → Int
  | .mark n => n
  | .el _ _ _ _ _ => m
  | .fault _ _ => m
def lastFrom (m : Int) (l : List Ev) : Int := l.foldl markOf m
theorem elast_from (l : List Ev) : elast l = lastFrom nvr l := by
  unfold elast lastFrom nvr
  congr 1
  funext s v
  cases v <;> rfl
theorem lastFrom_append (m : Int) (a b : List Ev) : lastFrom m (a ++ b) = lastFrom (lastFrom m a) b := List.foldl_append ..
/-- Does time go on, from m on? -/
def risesAt : Int → List Ev → Bool
  | _, [] => true
  | m, .mark n :: l => decide (m < n) && risesAt n l
  | m, .el _ _ _ _ _ :: l => risesAt m l
  | m, .fault _ _ :: l => risesAt m l
/-- Is one of that time late, behind a mark? -/
def lateT (m t : Int) : Bool := decide (m ≠ -9223372036854775808 ∧ t ≤ m)
/-- Is each late just if it is, from m on? -/
def taggedAt : Int → List Ev → Bool
  | _, [] => true
  | _, .mark n :: l => taggedAt n l
  | m, .el late _ _ t _ :: l => (late == lateT m t) && taggedAt m l
  | m, .fault _ _ :: l => taggedAt m l
theorem risesAt_append : ∀ (a b : List Ev) (m : Int), risesAt m (a ++ b) = (risesAt m a && risesAt (lastFrom m a) b)
  | [], b, m => by simp [risesAt, lastFrom]
  | .mark n :: a, b, m => by
    show (decide (m < n) && risesAt n (a ++ b)) = ((decide (m < n) && risesAt n a) && risesAt (lastFrom n a) b)
    rw [risesAt_append a b n, Bool.and_assoc]
  | .el _ _ _ _ _ :: a, b, m => risesAt_append a b m
  | .fault _ _ :: a, b, m => risesAt_append a b m
theorem taggedAt_append : ∀ (a b : List Ev) (m : Int), taggedAt m (a ++ b) = (taggedAt m a && taggedAt (lastFrom m a) b)
  | [], b, m => by simp [taggedAt, lastFrom]
  | .mark n :: a, b, m => taggedAt_append a b n
  | .el late p k t x :: a, b, m => by
    show ((late == lateT m t) && taggedAt m (a ++ b)) = (((late == lateT m t) && taggedAt m a) && taggedAt (lastFrom m a) b)
    rw [taggedAt_append a b m, Bool.and_assoc]
  | .fault _ _ :: a, b, m => taggedAt_append a b m
def Ev.lateB : Ev → Bool
  | .el late _ _ _ _ => late
  | .mark _ => false
  | .fault _ _ => false
def lates (l : List Ev) : Nat := (l.filter Ev.lateB).length
theorem lates_append (a b : List Ev) : lates (a ++ b) = lates a + lates b := by unfold lates; rw [List.filter_append, List.length_append]
theorem lates_le (l : List Ev) : lates l ≤ l.length := List.length_filter_le _ _
/-- The records of a partition, and its faults. -/
def recE (p : Int) : Ev → List R
  | .el _ q k t x => if q = p then [(k, t, x)] else []
  | .mark _ => []
  | .fault _ _ => []
def errE (p : Int) : Ev → List Int
  | .el _ _ _ _ _ => []
  | .mark _ => []
  | .fault q e => if q = p then [e] else []
def recsOf (p : Int) (l : List Ev) : List R := l.flatMap (recE p)
def errsOf (p : Int) (l : List Ev) : List Int := l.flatMap (errE p)
theorem recsOf_snoc (p : Int) (l : List Ev) (v : Ev) : recsOf p (l ++ [v]) = recsOf p l ++ recE p v := by simp [recsOf]
theorem errsOf_snoc (p : Int) (l : List Ev) (v : Ev) : errsOf p (l ++ [v]) = errsOf p l ++ errE p v := by simp [errsOf]
theorem recE_len (p : Int) (v : Ev) : (recE p v).length ≤ 1 := by
  cases v with
  | el late q k t x =>
    show (if q = p then [(k, t, x)] else []).length ≤ 1
    split
    · exact Nat.le_refl _
    · exact Nat.zero_le _
  | mark n => exact Nat.zero_le _
  | fault q e => exact Nat.zero_le _
theorem errE_len (p : Int) (v : Ev) : (errE p v).length ≤ 1 := by
  cases v with
  | el late q k t x => exact Nat.zero_le _
  | mark n => exact Nat.zero_le _
  | fault q e =>
    show (if q = p then [e] else []).length ≤ 1
    split
    · exact Nat.le_refl _
    · exact Nat.zero_le _
theorem recsOf_len (p : Int) : ∀ l : List Ev, (recsOf p l).length ≤ l.length
  | [] => Nat.le_refl _
  | v :: l => by
    show (recE p v ++ recsOf p l).length ≤ _
    rw [List.length_append, List.length_cons]
    have := recE_len p v
    have := recsOf_len p l
    omega
theorem errsOf_len (p : Int) : ∀ l : List Ev, (errsOf p l).length ≤ l.length
  | [] => Nat.le_refl _
  | v :: l => by
    show (errE p v ++ errsOf p l).length ≤ _
    rw [List.length_append, List.length_cons]
    have := errE_len p v
    have := errsOf_len p l
    omega

/- What comes out of a source: time goes on, and elements are late just where they are. -/
theorem marksE_good (now : Int) (ps : List Pt) : risesAt now (marksE now ps) = true ∧ taggedAt now (marksE now ps) = true ∧ lastFrom now (marksE now ps) = further now ps := by
  unfold marksE further
  by_cases h : least ps ≤ now
  · rw [if_pos h, if_pos h]; exact ⟨rfl, rfl, rfl⟩
  · rw [if_neg h, if_neg h]
    refine ⟨?_, rfl, rfl⟩
    show (decide (now < least ps) && true) = true
    rw [decide_eq_true (by omega)]; rfl
theorem faults_good (m : Int) (p : Pt) (i : Nat) : risesAt m (faults p i) = true ∧ taggedAt m (faults p i) = true ∧ lastFrom m (faults p i) = m := by
  unfold faults
  split
  · exact ⟨rfl, rfl, rfl⟩
  · split
    · exact ⟨rfl, rfl, rfl⟩
    · exact ⟨rfl, rfl, rfl⟩
/-- Good, from one time to another. -/
structure Good (m : Int) (l : List Ev) (m' : Int) : Prop where
  rises : risesAt m l = true
  tagged : taggedAt m l = true
  last : lastFrom m l = m'
theorem Good.append {m m' m2 : Int} {a b : List Ev} (h : Good m a m') (k : Good m' b m2) : Good m (a ++ b) m2 :=
  ⟨by rw [risesAt_append, h.rises, h.last, k.rises]; rfl, by rw [taggedAt_append, h.tagged, h.last, k.tagged]; rfl, by rw [lastFrom_append, h.last, k.last]⟩
theorem good_marks (now : Int) (ps : List Pt) : Good now (marksE now ps) (further now ps) := ⟨(marksE_good now ps).1, (marksE_good now ps).2.1, (marksE_good now ps).2.2⟩
theorem good_faults (m : Int) (p : Pt) (i : Nat) : Good m (faults p i) m := ⟨(faults_good m p i).1, (faults_good m p i).2.1, (faults_good m p i).2.2⟩
theorem good_nil (m : Int) : Good m [] m := ⟨rfl, rfl, rfl⟩
theorem good_faultsTo (m : Int) (ps : List Pt) : ∀ k, Good m (faultsTo ps k) m
  | 0 => good_nil m
  | k + 1 => (good_faultsTo m ps k).append (good_faults m _ k)
theorem good_do (s : St) (x : Bool × Int) : Good s.now (s.doE x) (s.doS x).now := by
  unfold St.doE St.doS
  split
  · split
    · exact good_nil _
    · exact good_marks _ _
  · split
    · exact good_nil _
    · unfold St.pollE
      refine Good.append (m' := s.now) (a := [_]) ⟨rfl, ?_, rfl⟩ ((good_faults _ _ _).append (good_marks _ _))
      show ((lateOf _ _ == lateT _ _) && true) = true
      rw [Bool.and_true, beq_iff_eq]
      rfl
theorem good_run : ∀ (l : List (Bool × Int)) (s : St), Good s.now (s.runE l) (s.run l).now
  | [], s => good_nil _
  | x :: l, s => (good_do s x).append (good_run l (s.doS x))
theorem good_new (t d : Int) (rs : List Rul) (ls : List (List UInt8)) : Good nvr (St.newE t rs ls) (St.new t d rs ls).now :=
  (good_faultsTo nvr _ _).append (good_marks _ _)
theorem good_all (t d : Int) (rs : List Rul) (ls : List (List UInt8)) (cs : List (Bool × Int)) : Good nvr (St.newE t rs ls ++ (St.new t d rs ls).runE cs) ((St.new t d rs ls).run cs).now :=
  (good_new t d rs ls).append (good_run cs _)
end Go.Proofs.YtmimfkhkilijcaaGreat

/- Plain facts on what is promised of what comes out: logs come out as they are, none runs ahead, none is late where logs are orderly, all comes out. -/
namespace Go.Proofs.YtmimfkhkilijcaaGreat
set_option maxRecDepth 4000
open Go.ChangeShapes Go.WideShapes Go.ChangeAt Go.RowKit
open PHist PRing PSat PClamp PBound PFrame PSign PTree PEv
set_option linter.unusedVariables false

/-- Logs, as far as they came out: what is left of each, and whose fault came out. -/
structure Crs where
  left : Nat → List R
  over : Int → Bool
def putI (f : Int → Bool) (i : Int) : Int → Bool := fun j => if j = i then true else f j
/-- Is there such a one, whose fault didn't come out? -/
def Crs.goesOn (c : Crs) (n : Nat) (i : Int) : Bool := decide (0 ≤ i ∧ i < n) && !c.over i
/-- May that come out next? -/
def Crs.mayE (c : Crs) (n : Nat) (p : Int) (r : R) : Bool := c.goesOn n p && decide ((c.left p.toNat).head? = some r)
def Crs.mayF (c : Crs) (n : Nat) (er : Nat → Nat) (p e : Int) : Bool := c.goesOn n p && decide (er p.toNat ≠ 0 ∧ (er p.toNat : Int) = e ∧ c.left p.toNat = [])
def Crs.el (c : Crs) (p : Int) : Crs := ⟨put c.left p.toNat (c.left p.toNat).tail, c.over⟩
def Crs.fl (c : Crs) (p : Int) : Crs := ⟨c.left, putI c.over p⟩
/-- An event comes out; none: the logs don't have it there. -/
def Crs.one (n : Nat) (er : Nat → Nat) (c : Crs) : Ev → Option Crs
  | .mark _ => some c
  | .el _ p k t x => if c.mayE n p (k, t, x) then some (c.el p) else none
  | .fault p e => if c.mayF n er p e then some (c.fl p) else none
def Crs.all (n : Nat) (er : Nat → Nat) : Crs → List Ev → Option Crs
  | c, [] => some c
  | c, e :: l => match c.one n er e with
    | none => none
    | some c' => c'.all n er l
theorem all_cons (n : Nat) (er : Nat → Nat) (c : Crs) (e : Ev) (l : List Ev) : c.all n er (e :: l) = (c.one n er e).bind fun c' => c'.all n er l := by
  show (match c.one n er e with | none => none | some c' => c'.all n er l) = _
  cases c.one n er e <;> rfl
theorem all_append (n : Nat) (er : Nat → Nat) : ∀ (a b : List Ev) (c : Crs), c.all n er (a ++ b) = (c.all n er a).bind fun c' => c'.all n er b
  | [], b, c => rfl
  | e :: a, b, c => by
    rw [List.cons_append, all_cons, all_cons]
    cases h : c.one n er e with
    | none => rfl
    | some c' => exact all_append n er a b c'
/-- Did all come out? -/
def Crs.doneTo (c : Crs) (er : Nat → Nat) : Nat → Bool
  | 0 => true
  | k + 1 => c.doneTo er k && (decide (c.left k = []) && (decide (er k = 0) || c.over k))
theorem doneTo_true (c : Crs) (er : Nat → Nat) : ∀ k, c.doneTo er k = true ↔ ∀ i, i < k → c.left i = [] ∧ (er i = 0 ∨ c.over i = true)
  | 0 => ⟨fun _ i h => (Nat.not_lt_zero _ h).elim, fun _ => rfl⟩
  | k + 1 => by
    show (c.doneTo er k && (decide (c.left k = []) && (decide (er k = 0) || c.over k))) = true ↔ _
    rw [Bool.and_eq_true, Bool.and_eq_true, Bool.or_eq_true, decide_eq_true_iff, decide_eq_true_iff, doneTo_true c er k]
    constructor
    · rintro ⟨h1, h2, h3⟩ i hi
      by_cases e : i = k
      · subst e; exact ⟨h2, h3⟩
      · exact h1 i (by omega)
    · intro h
      exact ⟨fun i hi => h i (by omega), (h k (by omega)).1, (h k (by omega)).2⟩
/-- Of logs that were read. -/
abbrev Lg := List R × Nat
def lgAt (ls : List Lg) (i : Nat) : Lg := ls.getD i ([], 0)
def Crs.start (ls : List Lg) : Crs := ⟨fun i => (lgAt ls i).1, fun _ => false⟩
def erOf (ls : List Lg) (i : Nat) : Nat := (lgAt ls i).2
def keptB (ls : List Lg) (l : List Ev) : Bool := ((Crs.start ls).all ls.length (erOf ls) l).isSome
def wholeB (ls : List Lg) (l : List Ev) : Bool :=
  match (Crs.start ls).all ls.length (erOf ls) l with
  | none => false
  | some c => c.doneTo (erOf ls) ls.length && decide (elast l = 9223372036854775807)
def lgOf (s : List UInt8) : Lg := ((parse s).1, (parse s).2.2)

/- A source's partitions, and the logs. -/
/-- Whose end came is what it is by its error. -/
def Pt.Fin (p : Pt) : Prop := 2 ≤ p.is → p.is = if p.err = 0 then 2 else 3
theorem settled_fin (p : Pt) (h : p.is < 2) : (settled p).Fin := by
  unfold settled Pt.Fin
  split
  · intro h2; omega
  · intro _; rfl
theorem wait_fin {p : Pt} (h : p.Fin) (c : Int) : (p.wait c).Fin := by
  unfold Pt.wait
  split
  · intro h2
    have h2' : (2 : Int) ≤ 1 := h2
    omega
  · exact h
/-- What came out of the source so far, by the logs. -/
structure Goes (s : St) (c : Crs) : Prop where
  left : ∀ i, i < s.ps.length → c.left i = (pat s.ps i).recs.drop (pat s.ps i).read
  over : ∀ i, i < s.ps.length → c.over (i : Int) = decide ((pat s.ps i).is = 3)
  fin : ∀ i, i < s.ps.length → (pat s.ps i).Fin
def errs (ps : List Pt) (i : Nat) : Nat := (pat ps i).err
theorem all_marks (n : Nat) (er : Nat → Nat) (c : Crs) (now : Int) (ps : List Pt) : c.all n er (marksE now ps) = some c := by
  unfold marksE
  split <;> rfl
theorem drop_head {l : List R} {k : Nat} (h : k < l.length) : (l.drop k).head? = some (l.getD k zr) ∧ (l.drop k).tail = l.drop (k + 1) := by
  rw [List.drop_eq_getElem_cons h]
  refine ⟨?_, rfl⟩
  rw [List.getD_eq_getElem?_getD, List.getElem?_eq_getElem h]
  rfl
theorem goes_poll {s : St} (h : s.Ok) {c : Crs} (hg : Goes s c) {er : Nat → Nat} (he : ∀ i, i < s.ps.length → er i = errs s.ps i) {i : Nat} (hi : i < s.ps.length) (hr : (pat s.ps i).read < (pat s.ps i).recs.length) (his : ss s.ps i < 2) :
    ∃ c', c.all s.ps.length er (s.pollE i) = some c' ∧ Goes (s.pollS i) c' := by
  have hq : recAt (pat s.ps i) = (pat s.ps i).recs.getD (pat s.ps i).read zr := rfl
  obtain ⟨d1, d2⟩ := drop_head hr
  have his' : (pat s.ps i).is < 2 := his
  have hov : c.over (i : Int) = false := by rw [hg.over i hi]; exact decide_eq_false (by omega)
  have hgo : c.goesOn s.ps.length (i : Int) = true := by
    unfold Crs.goesOn
    rw [hov, decide_eq_true ⟨by omega, by omega⟩]; rfl
  have hmay : c.mayE s.ps.length (i : Int) ((recAt (pat s.ps i)).1, (recAt (pat s.ps i)).2.1, (recAt (pat s.ps i)).2.2) = true := by
    unfold Crs.mayE
    rw [hgo, Int.toNat_natCast, hg.left i hi, d1]
    simp [hq]
  have hone : c.one s.ps.length er (Ev.el (lateOf s.now (recAt (pat s.ps i))) i (recAt (pat s.ps i)).1 (recAt (pat s.ps i)).2.1 (recAt (pat s.ps i)).2.2) = some (c.el i) := by
    show (if _ then _ else _) = _
    rw [if_pos hmay]
  have hpl : (s.pollS i).ps = s.ps.set i (settled ((pat s.ps i).gone (add s.clock s.timeout))) := rfl
  have hlen : (s.pollS i).ps.length = s.ps.length := by rw [hpl, List.length_set]
  have hpat : pat (s.pollS i).ps = put (pat s.ps) i (settled ((pat s.ps i).gone (add s.clock s.timeout))) := by rw [hpl, pat_set hi]
  generalize hq2 : (pat s.ps i).gone (add s.clock s.timeout) = q at *
  have q1 : q.recs = (pat s.ps i).recs := by rw [← hq2]; rfl
  have q2 : q.read = (pat s.ps i).read + 1 := by rw [← hq2]; rfl
  have q3 : q.is = 0 := by rw [← hq2]; rfl
  have q4 : q.err = (pat s.ps i).err := by rw [← hq2]; rfl
  have s1 : (settled q).recs = q.recs ∧ (settled q).read = q.read ∧ (settled q).err = q.err := by unfold settled; split <;> exact ⟨rfl, rfl, rfl⟩
  have hleft : ∀ j, j < s.ps.length → (c.el i).left j = (pat (s.pollS i).ps j).recs.drop (pat (s.pollS i).ps j).read := by
    intro j hj
    rw [hpat]
    show put c.left _ _ j = _
    rw [Int.toNat_natCast]
    unfold put
    by_cases e : j = i
    · subst e
      rw [if_pos rfl, if_pos rfl, s1.1, s1.2.1, q1, q2, hg.left j hj, d2]
    · rw [if_neg e, if_neg e]
      exact hg.left j hj
  have hfin : ∀ j, j < s.ps.length → (pat (s.pollS i).ps j).Fin := by
    intro j hj
    rw [hpat]
    unfold put
    by_cases e : j = i
    · rw [if_pos e]; exact settled_fin q (by omega)
    · rw [if_neg e]; exact hg.fin j hj
  unfold St.pollE
  rw [hq2, all_cons, hone]
  show ∃ c', (c.el i).all s.ps.length er (faults q i ++ marksE s.now (s.polled i)) = some c' ∧ _
  rw [all_append]
  have hisj : ∀ j, j < s.ps.length → j ≠ i → (pat (s.pollS i).ps j) = pat s.ps j := fun j hj e => by rw [hpat]; unfold put; rw [if_neg e]
  have hisi : pat (s.pollS i).ps i = settled q := by rw [hpat]; unfold put; rw [if_pos rfl]
  by_cases hrd : q.read < q.recs.length
  · have hf : faults q i = [] := by unfold faults; rw [if_pos hrd]
    have hs : settled q = q := by unfold settled; rw [if_pos hrd]
    refine ⟨c.el i, ?_, ⟨fun j hj => hleft j (by omega), fun j hj => ?_, fun j hj => hfin j (by omega)⟩⟩
    · rw [hf]
      exact all_marks _ _ _ _ _
    · rw [hlen] at hj
      show c.over j = _
      by_cases e : j = i
      · subst e
        rw [hisi, hs, q3, hov]; rfl
      · rw [hisj j hj e]; exact hg.over j hj
  · by_cases her : q.err = 0
    · have hf : faults q i = [] := by unfold faults; rw [if_neg hrd, if_pos her]
      have hs : (settled q).is = 2 := by unfold settled; rw [if_neg hrd, if_pos her]
      refine ⟨c.el i, ?_, ⟨fun j hj => hleft j (by omega), fun j hj => ?_, fun j hj => hfin j (by omega)⟩⟩
      · rw [hf]
        exact all_marks _ _ _ _ _
      · rw [hlen] at hj
        show c.over j = _
        by_cases e : j = i
        · subst e
          rw [hisi, hs, hov]; rfl
        · rw [hisj j hj e]; exact hg.over j hj
    · have hf : faults q i = [.fault i q.err] := by unfold faults; rw [if_neg hrd, if_neg her]
      have hs : (settled q).is = 3 := by unfold settled; rw [if_neg hrd, if_neg her]
      have hlq : (c.el i).left i = [] := by
        rw [hleft i hi, hisi, s1.1, s1.2.1]
        exact List.drop_of_length_le (by omega)
      have hone2 : (c.el i).one s.ps.length er (.fault i q.err) = some ((c.el i).fl i) := by
        show (if _ then _ else _) = _
        rw [if_pos]
        unfold Crs.mayF
        have g2 : (c.el i).goesOn s.ps.length (i : Int) = true := hgo
        rw [g2, Int.toNat_natCast, hlq, he i hi]
        unfold errs
        rw [← q4]
        simp [her]
      refine ⟨(c.el i).fl i, ?_, ⟨fun j hj => hleft j (by omega), fun j hj => ?_, fun j hj => hfin j (by omega)⟩⟩
      · rw [hf, all_cons, hone2]
        exact all_marks _ _ _ _ _
      · rw [hlen] at hj
        show (if (j : Int) = i then true else c.over j) = _
        by_cases e : j = i
        · subst e
          rw [if_pos rfl, hisi, hs]; rfl
        · rw [if_neg (by omega), hisj j hj e]; exact hg.over j hj
theorem goes_tick {s : St} {c : Crs} (hg : Goes s c) (by_ : Int) : Goes (s.tickS by_) c := by
  have e : ∀ i, i < s.ps.length → pat (s.tickS by_).ps i = (pat s.ps i).wait (add s.clock by_) := fun i hi => pat_map hi
  have w1 : ∀ (p : Pt) (cl : Int), (p.wait cl).recs = p.recs ∧ (p.wait cl).read = p.read ∧ decide ((p.wait cl).is = 3) = decide (p.is = 3) := by
    intro p cl
    unfold Pt.wait
    split
    · next h => exact ⟨rfl, rfl, by show decide ((1 : Int) = 3) = _; rw [h.1]; rfl⟩
    · exact ⟨rfl, rfl, rfl⟩
  have hl : (s.tickS by_).ps.length = s.ps.length := by show (s.ps.map _).length = _; rw [List.length_map]
  refine ⟨fun i hi => ?_, fun i hi => ?_, fun i hi => ?_⟩
  · rw [hl] at hi
    rw [e i hi, (w1 _ _).1, (w1 _ _).2.1]; exact hg.left i hi
  · rw [hl] at hi
    rw [e i hi, (w1 _ _).2.2]; exact hg.over i hi
  · rw [hl] at hi
    rw [e i hi]; exact wait_fin (hg.fin i hi) _
theorem errs_do (s : St) (x : Bool × Int) (i : Nat) (hi : i < s.ps.length) : errs (s.doS x).ps i = errs s.ps i := by
  unfold St.doS
  split
  · split
    · rfl
    · show (pat (s.ps.map _) i).err = _
      rw [pat_map hi]
      show ((pat s.ps i).wait _).err = _
      unfold Pt.wait
      split <;> rfl
  · split
    · rfl
    · next hr =>
      rw [Bool.not_eq_true] at hr
      have hx := (refused_not hr).2.1
      show (pat (s.ps.set _ _) i).err = _
      rw [pat_set hx]
      unfold put
      split
      · next e =>
        subst e
        unfold settled errs
        split <;> rfl
      · rfl
theorem goes_do {s : St} (h : s.Ok) {c : Crs} (hg : Goes s c) {er : Nat → Nat} (he : ∀ i, i < s.ps.length → er i = errs s.ps i) (x : Bool × Int) :
    ∃ c', c.all s.ps.length er (s.doE x) = some c' ∧ Goes (s.doS x) c' := by
  unfold St.doE St.doS
  split
  · split
    · exact ⟨c, rfl, hg⟩
    · exact ⟨c, all_marks _ _ _ _ _, goes_tick hg _⟩
  · split
    · exact ⟨c, rfl, hg⟩
    · next hr =>
      rw [Bool.not_eq_true] at hr
      have h1 := refused_not hr
      exact goes_poll h hg he h1.2.1 (refused_read h hr) (by omega)
theorem goes_run : ∀ (l : List (Bool × Int)) {s : St} (h : s.Ok) {c : Crs} (hg : Goes s c) {er : Nat → Nat} (he : ∀ i, i < s.ps.length → er i = errs s.ps i),
    ∃ c', c.all s.ps.length er (s.runE l) = some c' ∧ Goes (s.run l) c'
  | [], s, h, c, hg, er, he => ⟨c, rfl, hg⟩
  | x :: l, s, h, c, hg, er, he => by
    obtain ⟨c1, h1, g1⟩ := goes_do h hg he x
    obtain ⟨c2, h2, g2⟩ := goes_run l (h.do x) g1 (er := er) (fun i hi => by rw [doS_len] at hi; rw [errs_do s x i hi]; exact he i hi)
    rw [doS_len] at h2
    refine ⟨c2, ?_, g2⟩
    show c.all s.ps.length er (s.doE x ++ (s.doS x).runE l) = _
    rw [all_append, h1]
    exact h2
/-- The beginning: faults of those of which nothing is there, one behind the other. -/
theorem goes_faults (ps : List Pt) (hraw : ∀ i, i < ps.length → (pat ps i).read = 0 ∧ (pat ps i).is = 0) {er : Nat → Nat} (he : ∀ i, i < ps.length → er i = errs ps i) (c : Crs) (hl : ∀ i, i < ps.length → c.left i = (pat ps i).recs) (ho : ∀ i, c.over i = false) :
    ∀ k, k ≤ ps.length → ∃ c', c.all ps.length er (faultsTo ps k) = some c' ∧ c'.left = c.left ∧ (∀ i, i < ps.length → c'.over (i : Int) = (decide (i < k) && decide ((settled (pat ps i)).is = 3)))
  | 0, _ => ⟨c, rfl, rfl, fun i hi => by rw [ho, decide_eq_false (by omega)]; rfl⟩
  | k + 1, hk => by
    obtain ⟨c1, h1, h2, h3⟩ := goes_faults ps hraw he c hl ho k (by omega)
    have hkl : k < ps.length := by omega
    obtain ⟨r0, r1⟩ := hraw k hkl
    show ∃ c', c.all ps.length er (faultsTo ps k ++ faults (pat ps k) k) = some c' ∧ _
    rw [all_append, h1]
    show ∃ c', c1.all ps.length er (faults (pat ps k) k) = some c' ∧ _
    have hstep : ∀ (b : Bool), decide ((settled (pat ps k)).is = 3) = b → ∀ i, i < ps.length → i ≠ k → (decide (i < k) && decide ((settled (pat ps i)).is = 3)) = (decide (i < k + 1) && decide ((settled (pat ps i)).is = 3)) := by
      intro b hb i hi e
      have he2 : decide (i < k) = decide (i < k + 1) := decide_eq_decide.2 (by omega)
      rw [he2]
    by_cases hf : faults (pat ps k) k = []
    · rw [hf]
      refine ⟨c1, rfl, h2, fun i hi => ?_⟩
      rw [h3 i hi]
      by_cases e : i = k
      · subst e
        have hs : ¬ (settled (pat ps i)).is = 3 := by
          unfold faults at hf
          unfold settled
          by_cases hr : (pat ps i).read < (pat ps i).recs.length
          · rw [if_pos hr]; omega
          · rw [if_neg hr] at hf ⊢
            by_cases hz : (pat ps i).err = 0
            · rw [if_pos hz]
              show ¬ (2 : Int) = 3; omega
            · rw [if_neg hz] at hf; cases hf
        rw [decide_eq_false hs, Bool.and_false, Bool.and_false]
      · exact hstep _ rfl i hi e
    · have hr : ¬ (pat ps k).read < (pat ps k).recs.length := fun hr => hf (by unfold faults; rw [if_pos hr])
      have hz : ¬ (pat ps k).err = 0 := fun hz => hf (by unfold faults; rw [if_neg hr, if_pos hz])
      have hfe : faults (pat ps k) k = [.fault k (pat ps k).err] := by unfold faults; rw [if_neg hr, if_neg hz]
      have hs : (settled (pat ps k)).is = 3 := by unfold settled; rw [if_neg hr, if_neg hz]
      have hlk : c1.left k = [] := by
        rw [h2, hl k hkl]
        exact List.eq_nil_of_length_eq_zero (by omega)
      have hok : c1.over (k : Int) = false := by rw [h3 k hkl, decide_eq_false (by omega)]; rfl
      have hone : c1.one ps.length er (.fault k (pat ps k).err) = some (c1.fl k) := by
        show (if _ then _ else _) = _
        rw [if_pos]
        unfold Crs.mayF Crs.goesOn
        rw [hok, decide_eq_true ⟨by omega, by omega⟩, Int.toNat_natCast, hlk, he k hkl]
        unfold errs
        simp [hz]
      refine ⟨c1.fl k, by rw [hfe, all_cons, hone]; rfl, h2, fun i hi => ?_⟩
      show (if (i : Int) = k then true else c1.over i) = _
      by_cases e : i = k
      · subst e
        rw [if_pos rfl, hs, decide_eq_true (show i < i + 1 by omega)]; rfl
      · rw [if_neg (by omega), h3 i hi]
        exact hstep _ rfl i hi e
end Go.Proofs.YtmimfkhkilijcaaGreat

/- Plain facts on what is promised of what comes out: the beginning; none runs ahead; none is late where logs are orderly. -/
namespace Go.Proofs.YtmimfkhkilijcaaGreat
set_option maxRecDepth 4000
open Go.ChangeShapes Go.WideShapes Go.ChangeAt Go.RowKit
open PHist PRing PSat PClamp PBound PFrame PSign PTree PEv
set_option linter.unusedVariables false

theorem lgAt_map {ls : List (List UInt8)} {i : Nat} (h : i < ls.length) : lgAt (ls.map lgOf) i = lgOf ls[i] := by
  unfold lgAt
  rw [List.getD_eq_getElem?_getD, List.getElem?_map, List.getElem?_eq_getElem h]
  rfl
theorem raw_at {t : Int} {rs : List Rul} {ls : List (List UInt8)} (hn : ls.length = rs.length) (i : Nat) (hi : i < rs.length) : (pat (raws t rs ls) i).read = 0 ∧ (pat (raws t rs ls) i).is = 0 ∧ (pat (raws t rs ls) i).recs = (lgAt (ls.map lgOf) i).1 ∧ (pat (raws t rs ls) i).err = (lgAt (ls.map lgOf) i).2 ∧ (pat (raws t rs ls) i).rule = rs[i] := by
  rw [raws_at hn i hi, lgAt_map (by omega)]
  exact ⟨rfl, rfl, rfl, rfl, rfl⟩
theorem begun_at {t d : Int} {rs : List Rul} {ls : List (List UInt8)} (hn : ls.length = rs.length) (i : Nat) (hi : i < rs.length) : pat (St.new t d rs ls).ps i = settled (pat (raws t rs ls) i) := by
  show pat ((raws t rs ls).map settled) i = _
  exact pat_map (by rw [raws_len hn]; exact hi)
theorem settled_same (p : Pt) : (settled p).recs = p.recs ∧ (settled p).read = p.read ∧ (settled p).err = p.err ∧ (settled p).rule = p.rule := by unfold settled; split <;> exact ⟨rfl, rfl, rfl, rfl⟩
theorem new_len {t d : Int} {rs : List Rul} {ls : List (List UInt8)} (hn : ls.length = rs.length) : (St.new t d rs ls).ps.length = rs.length := by
  show ((raws t rs ls).map settled).length = _
  rw [List.length_map, raws_len hn]
theorem errs_new {t d : Int} {rs : List Rul} {ls : List (List UInt8)} (hn : ls.length = rs.length) (i : Nat) (hi : i < rs.length) : erOf (ls.map lgOf) i = errs (St.new t d rs ls).ps i := by
  unfold erOf errs
  rw [begun_at hn i hi, (settled_same _).2.2.1, (raw_at hn i hi).2.2.2.1]
theorem goes_new {t d : Int} {rs : List Rul} {ls : List (List UInt8)} (hn : ls.length = rs.length) :
    ∃ c, (Crs.start (ls.map lgOf)).all rs.length (erOf (ls.map lgOf)) (St.newE t rs ls) = some c ∧ Goes (St.new t d rs ls) c := by
  have hl : (raws t rs ls).length = rs.length := raws_len hn
  obtain ⟨c, h1, h2, h3⟩ := goes_faults (raws t rs ls) (fun i hi => ⟨(raw_at hn i (by omega)).1, (raw_at hn i (by omega)).2.1⟩) (er := erOf (ls.map lgOf)) (fun i hi => (raw_at hn i (by omega)).2.2.2.1.symm) (Crs.start (ls.map lgOf)) (fun i hi => (raw_at hn i (by omega)).2.2.1.symm) (fun _ => rfl) rs.length (by omega)
  rw [hl] at h1 h3
  have hnl := new_len (t := t) (d := d) hn
  refine ⟨c, ?_, ⟨fun i hi => ?_, fun i hi => ?_, fun i hi => ?_⟩⟩
  · unfold St.newE
    rw [all_append, h1]
    exact all_marks _ _ _ _ _
  · rw [hnl] at hi
    rw [h2, begun_at hn i hi, (settled_same _).1, (settled_same _).2.1, (raw_at hn i hi).1, (raw_at hn i hi).2.2.1]
    rfl
  · rw [hnl] at hi
    rw [h3 i hi, begun_at hn i hi, decide_eq_true hi]; rfl
  · rw [hnl] at hi
    rw [begun_at hn i hi]
    exact settled_fin _ (by rw [(raw_at hn i hi).2.1]; omega)
/-- Behind all choices. -/
theorem goes_all {t d : Int} {rs : List Rul} {ls : List (List UInt8)} (hn : ls.length = rs.length) (hok : (St.new t d rs ls).Ok) (cs : List (Bool × Int)) :
    ∃ c, (Crs.start (ls.map lgOf)).all (ls.map lgOf).length (erOf (ls.map lgOf)) (St.newE t rs ls ++ (St.new t d rs ls).runE cs) = some c ∧ Goes ((St.new t d rs ls).run cs) c := by
  obtain ⟨c1, h1, g1⟩ := goes_new (t := t) (d := d) hn
  have hl := new_len (t := t) (d := d) hn
  obtain ⟨c2, h2, g2⟩ := goes_run cs hok g1 (er := erOf (ls.map lgOf)) (fun i hi => errs_new hn i (by omega))
  rw [hl] at h2
  refine ⟨c2, ?_, g2⟩
  rw [all_append, List.length_map, hn, h1]
  exact h2
theorem kept_true {t d : Int} {rs : List Rul} {ls : List (List UInt8)} (hn : ls.length = rs.length) (hok : (St.new t d rs ls).Ok) (cs : List (Bool × Int)) :
    keptB (ls.map lgOf) (St.newE t rs ls ++ (St.new t d rs ls).runE cs) = true := by
  obtain ⟨c, h, _⟩ := goes_all hn hok cs
  unfold keptB
  rw [h]; rfl

/- None runs ahead. -/
def rulAt (rs : List Rul) (i : Nat) : Rul := rs.getD i ⟨0, 0, 0, 0, 0⟩
theorem rulAt_lt {rs : List Rul} {i : Nat} (h : i < rs.length) : rulAt rs i = rs[i] := by
  unfold rulAt
  rw [List.getD_eq_getElem?_getD, List.getElem?_eq_getElem h]; rfl
def seenE (f : Nat → List R) : Ev → Nat → List R
  | .el _ p k t x => put f p.toNat (f p.toNat ++ [(k, t, x)])
  | .mark _ => f
  | .fault _ _ => f
def seenBy (f : Nat → List R) (l : List Ev) : Nat → List R := l.foldl seenE f
def driftAt (rs : List Rul) (d : Int) : (Nat → List R) → Int → List Ev → Bool
  | _, _, [] => true
  | f, _, .mark n :: l => driftAt rs d f n l
  | f, m, .fault _ _ :: l => driftAt rs d f m l
  | f, m, .el _ p k t x :: l => decide (0 ≤ p ∧ p < rs.length) && (decide (gnow (rulAt rs p.toNat) (f p.toNat) ≤ add m d) && driftAt rs d (put f p.toNat (f p.toNat ++ [(k, t, x)])) m l)
def rulesB (rs : List Rul) : Bool := rs.all fun r => decide (rcheck r = 0)
def driftB (rs : List Rul) (d : Int) (l : List Ev) : Bool := rulesB rs && driftAt rs d (fun _ => []) (-9223372036854775808) l
theorem driftAt_append (rs : List Rul) (d : Int) : ∀ (a b : List Ev) (f : Nat → List R) (m : Int), driftAt rs d f m (a ++ b) = (driftAt rs d f m a && driftAt rs d (seenBy f a) (lastFrom m a) b)
  | [], b, f, m => by simp [driftAt, lastFrom, seenBy]
  | .mark n :: a, b, f, m => driftAt_append rs d a b f n
  | .fault _ _ :: a, b, f, m => driftAt_append rs d a b f m
  | .el late p k t x :: a, b, f, m => by
    show (_ && (_ && driftAt rs d _ m (a ++ b))) = ((_ && (_ && driftAt rs d _ m a)) && _)
    rw [driftAt_append rs d a b _ m, Bool.and_assoc, Bool.and_assoc]; rfl
theorem seenBy_append (f : Nat → List R) (a b : List Ev) : seenBy f (a ++ b) = seenBy (seenBy f a) b := List.foldl_append ..
/-- Which records of each were seen, and its rule. -/
structure Sees (rs : List Rul) (d : Int) (s : St) (f : Nat → List R) : Prop where
  n : s.ps.length = rs.length
  d : s.drift = d
  rule : ∀ i, i < s.ps.length → (pat s.ps i).rule = rulAt rs i
  got : ∀ i, i < s.ps.length → f i = (pat s.ps i).got
theorem drift_faults (rs : List Rul) (d : Int) (f : Nat → List R) (m : Int) (p : Pt) (i : Nat) : driftAt rs d f m (faults p i) = true ∧ seenBy f (faults p i) = f := by
  unfold faults
  split
  · exact ⟨rfl, rfl⟩
  · split <;> exact ⟨rfl, rfl⟩
theorem drift_marks (rs : List Rul) (d : Int) (f : Nat → List R) (m now : Int) (ps : List Pt) : driftAt rs d f m (marksE now ps) = true ∧ seenBy f (marksE now ps) = f := by
  unfold marksE
  split <;> exact ⟨rfl, rfl⟩
theorem drift_faultsTo (rs : List Rul) (d : Int) (f : Nat → List R) (m : Int) (ps : List Pt) : ∀ k, driftAt rs d f m (faultsTo ps k) = true ∧ seenBy f (faultsTo ps k) = f
  | 0 => ⟨rfl, rfl⟩
  | k + 1 => by
    obtain ⟨h1, h2⟩ := drift_faultsTo rs d f m ps k
    show driftAt rs d f m (faultsTo ps k ++ faults (pat ps k) k) = true ∧ seenBy f (faultsTo ps k ++ faults (pat ps k) k) = f
    rw [driftAt_append, seenBy_append, h1, h2, (drift_faults rs d f _ _ _).1, (drift_faults rs d f m _ _).2]
    exact ⟨rfl, rfl⟩
theorem got_gone25 {p : Pt} (h : p.read < p.recs.length) (t : Int) : (settled (p.gone t)).got = p.got ++ [recAt p] := by
  unfold Pt.got
  rw [(settled_same _).1, (settled_same _).2.1]
  show p.recs.take (p.read + 1) = _
  rw [List.take_succ_eq_append_getElem h]
  congr 2
  unfold recAt
  rw [List.getD_eq_getElem?_getD, List.getElem?_eq_getElem h]; rfl
theorem wait_same (p : Pt) (c : Int) : (p.wait c).recs = p.recs ∧ (p.wait c).read = p.read ∧ (p.wait c).rule = p.rule := by
  unfold Pt.wait
  split <;> exact ⟨rfl, rfl, rfl⟩
theorem drift_do {rs : List Rul} {d : Int} {s : St} (h : s.Ok) {f : Nat → List R} (hs : Sees rs d s f) (x : Bool × Int) :
    driftAt rs d f s.now (s.doE x) = true ∧ Sees rs d (s.doS x) (seenBy f (s.doE x)) := by
  unfold St.doE St.doS
  split
  · split
    · exact ⟨rfl, hs⟩
    · unfold St.tickE
      obtain ⟨h1, h2⟩ := drift_marks rs d f s.now s.now (s.ticked (add s.clock x.2))
      rw [h1, h2]
      have hl : (s.tickS x.2).ps.length = s.ps.length := by show (s.ps.map _).length = _; rw [List.length_map]
      refine ⟨rfl, ⟨by rw [hl]; exact hs.n, hs.d, fun i hi => ?_, fun i hi => ?_⟩⟩
      · rw [hl] at hi
        show (pat (s.ps.map _) i).rule = _
        rw [pat_map hi, (wait_same _ _).2.2]; exact hs.rule i hi
      · rw [hl] at hi
        show f i = (pat (s.ps.map _) i).got
        rw [pat_map hi]
        unfold Pt.got
        rw [(wait_same _ _).1, (wait_same _ _).2.1]; exact hs.got i hi
  · split
    · exact ⟨rfl, hs⟩
    · next hr =>
      rw [Bool.not_eq_true] at hr
      have hrd := refused_read h hr
      obtain ⟨r1, r2, r3, r4⟩ := refused_not hr
      generalize x.2.toNat = i at *
      unfold St.pollE
      have hgot : f i = (pat s.ps i).got := hs.got i r2
      have hrl : rulAt rs i = (pat s.ps i).rule := (hs.rule i r2).symm
      have hmk : gnow (rulAt rs i) (f i) = kk s.ps i := by rw [hgot, hrl]; rfl
      have hin : (i : Nat) < rs.length := by rw [← hs.n]; exact r2
      have hse : seenBy f (Ev.el (lateOf s.now (recAt (pat s.ps i))) i (recAt (pat s.ps i)).1 (recAt (pat s.ps i)).2.1 (recAt (pat s.ps i)).2.2 :: (faults ((pat s.ps i).gone (add s.clock s.timeout)) i ++ marksE s.now (s.polled i))) = put f i (f i ++ [recAt (pat s.ps i)]) := by
        show seenBy (put f (i : Int).toNat (f (i : Int).toNat ++ [_])) (_ ++ _) = _
        rw [Int.toNat_natCast, seenBy_append, (drift_faults rs d _ s.now _ _).2, (drift_marks rs d _ s.now _ _).2]
      refine ⟨?_, ?_⟩
      · show (decide (0 ≤ (i : Int) ∧ (i : Int) < rs.length) && (decide (gnow (rulAt rs (i : Int).toNat) (f (i : Int).toNat) ≤ add s.now d) && driftAt rs d _ s.now (_ ++ _))) = true
        rw [Int.toNat_natCast, decide_eq_true ⟨by omega, by omega⟩, hmk, ← hs.d, decide_eq_true r4, driftAt_append, (drift_faults rs _ _ s.now _ _).1, (drift_marks rs _ _ _ _ _).1]
        rfl
      · rw [hse]
        have hpl : (s.pollS i).ps = s.ps.set i (settled ((pat s.ps i).gone (add s.clock s.timeout))) := rfl
        have hl : (s.pollS i).ps.length = s.ps.length := by rw [hpl, List.length_set]
        refine ⟨by rw [hl]; exact hs.n, hs.d, fun j hj => ?_, fun j hj => ?_⟩
        · rw [hl] at hj
          rw [hpl, pat_set r2]
          unfold put
          by_cases e : j = i
          · subst e
            rw [if_pos rfl, (settled_same _).2.2.2]; exact hs.rule j hj
          · rw [if_neg e]; exact hs.rule j hj
        · rw [hl] at hj
          rw [hpl, pat_set r2]
          unfold put
          by_cases e : j = i
          · subst e
            rw [if_pos rfl, if_pos rfl, got_gone25 hrd, hgot]
          · rw [if_neg e, if_neg e]; exact hs.got j hj
theorem drift_run {rs : List Rul} {d : Int} : ∀ (l : List (Bool × Int)) {s : St} (h : s.Ok) {f : Nat → List R} (hs : Sees rs d s f), driftAt rs d f s.now (s.runE l) = true
  | [], s, h, f, hs => rfl
  | x :: l, s, h, f, hs => by
    obtain ⟨h1, h2⟩ := drift_do h hs x
    show driftAt rs d f s.now (s.doE x ++ (s.doS x).runE l) = true
    rw [driftAt_append, h1, (good_do s x).last, drift_run l (h.do x) h2]; rfl
theorem drift_true {t d : Int} {rs : List Rul} {ls : List (List UInt8)} (hn : ls.length = rs.length) (hok : (St.new t d rs ls).Ok) (hr : ∀ r ∈ rs, rcheck r = 0) (cs : List (Bool × Int)) :
    driftB rs d (St.newE t rs ls ++ (St.new t d rs ls).runE cs) = true := by
  have hl := new_len (t := t) (d := d) hn
  have hsees : Sees rs d (St.new t d rs ls) (fun _ => []) := ⟨hl, rfl, fun i hi => by rw [hl] at hi; rw [begun_at hn i hi, (settled_same _).2.2.2, (raw_at hn i hi).2.2.2.2, rulAt_lt hi], fun i hi => by
    rw [hl] at hi
    rw [begun_at hn i hi]
    unfold Pt.got
    rw [(settled_same _).2.1, (raw_at hn i hi).1]; rfl⟩
  unfold driftB
  have h1 : driftAt rs d (fun _ => []) (-9223372036854775808) (St.newE t rs ls) = true ∧ seenBy (fun _ => []) (St.newE t rs ls) = fun _ => [] := by
    unfold St.newE
    rw [driftAt_append, seenBy_append, (drift_faultsTo rs d _ _ _ _).1, (drift_faultsTo rs d _ nvr _ _).2, (drift_marks rs d _ _ _ _).1, (drift_marks rs d _ nvr _ _).2]
    exact ⟨rfl, rfl⟩
  rw [driftAt_append, h1.1, h1.2, show lastFrom (-9223372036854775808) (St.newE t rs ls) = (St.new t d rs ls).now from (good_new t d rs ls).last, drift_run cs hok hsees]
  rw [show rulesB rs = true from List.all_eq_true.2 fun r h => decide_eq_true (hr r h)]; rfl

/- None is late. -/
def keepsAt (b least : Int) : Int → List R → Bool
  | _, [] => true
  | m, r :: l => !(decide (r.2.1 < least) || decide (r.2.1 < sub m b)) && keepsAt b least (if m < r.2.1 then r.2.1 else m) l
def keepsB (b : Int) (l : List R) : Bool := keepsAt b (add (add (-9223372036854775808) b) 1) (-9223372036854775808) l
def ordOne (r : Rul) (l : List R) : Bool := decide (r.kind = 0 ∧ 0 ≤ r.bound) && keepsB r.bound l
def ordFrom : List (Rul × Lg) → Bool
  | [] => true
  | x :: l => ordOne x.1 x.2.1 && ordFrom l
def orderlyB (rs : List Rul) (ls : List Lg) : Bool := decide (ls.length = rs.length) && ordFrom (rs.zip ls)
theorem keeps_at (b least : Int) : ∀ (l : List R) (m : Int) (k : Nat) (hk : k < l.length), keepsAt b least m l = true → least ≤ l[k].2.1 ∧ sub (most m (times (l.take k))) b ≤ l[k].2.1
  | r :: l, m, 0, hk, h => by
    have h' : (!(decide (r.2.1 < least) || decide (r.2.1 < sub m b)) && keepsAt b least (if m < r.2.1 then r.2.1 else m) l) = true := h
    rw [Bool.and_eq_true, Bool.not_eq_true', Bool.or_eq_false_iff, decide_eq_false_iff_not, decide_eq_false_iff_not] at h'
    show least ≤ r.2.1 ∧ sub m b ≤ r.2.1
    omega
  | r :: l, m, k + 1, hk, h => by
    have h' : (!(decide (r.2.1 < least) || decide (r.2.1 < sub m b)) && keepsAt b least (if m < r.2.1 then r.2.1 else m) l) = true := h
    rw [Bool.and_eq_true] at h'
    exact keeps_at b least l _ k (by simpa using hk) h'.2
theorem ord_at : ∀ (l : List (Rul × Lg)) (k : Nat) (hk : k < l.length), ordFrom l = true → ordOne l[k].1 l[k].2.1 = true
  | x :: l, 0, hk, h => by
    have h' : (ordOne x.1 x.2.1 && ordFrom l) = true := h
    rw [Bool.and_eq_true] at h'
    exact h'.1
  | x :: l, k + 1, hk, h => by
    have h' : (ordOne x.1 x.2.1 && ordFrom l) = true := h
    rw [Bool.and_eq_true] at h'
    exact ord_at l k (by simpa using hk) h'.2
/-- Each partition's records keep their bound. -/
structure Tidy25 (s : St) : Prop where
  one : ∀ i, i < s.ps.length → ordOne (pat s.ps i).rule (pat s.ps i).recs = true
def St.Near (s : St) : Prop := ∀ i, i < s.ps.length → ss s.ps i = 0 → s.now ≤ kk s.ps i
def St.Awake (s : St) : Prop := ∀ i, i < s.ps.length → ss s.ps i ≠ 1
theorem further_le {now : Int} {ps : List Pt} {k : Int} (h1 : now ≤ k) (h2 : least ps ≤ k) : further now ps ≤ k := by
  unfold further
  split <;> omega
theorem least_le {ps : List Pt} {i : Nat} (hi : i < ps.length) (h : ss ps i = 0) : least ps ≤ kk ps i := ml_le hi h
theorem tidy_poll {s : St} (h : Tidy25 s) (i : Nat) (hi : i < s.ps.length) : Tidy25 (s.pollS i) := ⟨fun j hj => by
  have hpl : (s.pollS i).ps = s.ps.set i (settled ((pat s.ps i).gone (add s.clock s.timeout))) := rfl
  have hl : (s.pollS i).ps.length = s.ps.length := by rw [hpl, List.length_set]
  rw [hl] at hj
  rw [hpl, pat_set hi]
  unfold put
  by_cases e : j = i
  · subst e
    rw [if_pos rfl, (settled_same _).2.2.2, (settled_same _).1]; exact h.one j hj
  · rw [if_neg e]; exact h.one j hj⟩
theorem tidy_tick {s : St} (h : Tidy25 s) (b : Int) : Tidy25 (s.tickS b) := ⟨fun j hj => by
  have hl : (s.tickS b).ps.length = s.ps.length := by show (s.ps.map _).length = _; rw [List.length_map]
  rw [hl] at hj
  show ordOne (pat (s.ps.map _) j).rule (pat (s.ps.map _) j).recs = true
  rw [pat_map hj, (wait_same _ _).2.2, (wait_same _ _).1]; exact h.one j hj⟩
theorem near_poll {s : St} (h : s.Near) (i : Nat) (hi : i < s.ps.length) (hr : (pat s.ps i).read < (pat s.ps i).recs.length) (h0 : ss s.ps i = 0) : (s.pollS i).Near := by
  intro j hj hj0
  have hpl : (s.pollS i).ps = s.ps.set i (settled ((pat s.ps i).gone (add s.clock s.timeout))) := rfl
  have hl : (s.pollS i).ps.length = s.ps.length := by rw [hpl, List.length_set]
  refine further_le ?_ (least_le hj hj0)
  rw [hl] at hj
  rw [hpl, kk_set hi]
  unfold put
  by_cases e : j = i
  · subst e
    rw [if_pos rfl]
    refine Int.le_trans (h j hj h0) ?_
    show (pat s.ps j).mark ≤ (settled ((pat s.ps j).gone _)).mark
    unfold Pt.mark
    rw [got_gone25 hr, (settled_same _).2.2.2]
    exact gnow_up _ _ _
  · rw [if_neg e]
    refine h j hj ?_
    rw [hpl, ss_set hi] at hj0
    unfold put at hj0
    rw [if_neg e] at hj0
    exact hj0
theorem near_tick {s : St} (h : s.Near) (b : Int) : (s.tickS b).Near := by
  intro j hj hj0
  refine further_le ?_ (least_le hj hj0)
  have hl : (s.tickS b).ps.length = s.ps.length := by show (s.ps.map _).length = _; rw [List.length_map]
  rw [hl] at hj
  have e : pat (s.tickS b).ps j = (pat s.ps j).wait (add s.clock b) := pat_map hj
  have hk : kk (s.tickS b).ps j = kk s.ps j := by unfold kk; rw [e, wait_mark]
  rw [hk]
  refine h j hj ?_
  unfold ss at hj0 ⊢
  rw [e] at hj0
  unfold Pt.wait at hj0
  split at hj0
  · next hc => exact hc.1
  · exact hj0
/-- What is read of a tidy one whose mark is no less than how far time has come is not late. -/
theorem not_late {s : St} (h : s.Ok) (ht : Tidy25 s) (hn : s.Near) (i : Nat) (hi : i < s.ps.length) (hr : (pat s.ps i).read < (pat s.ps i).recs.length) (h0 : ss s.ps i = 0) : lateOf s.now (recAt (pat s.ps i)) = false := by
  have h1 := ht.one i hi
  have h2 := hn i hi h0
  have h3 := (h.pt _ (pat_mem hi)).okr
  unfold kk Pt.mark at h2
  generalize pat s.ps i = p at *
  unfold ordOne at h1
  rw [Bool.and_eq_true, decide_eq_true_iff] at h1
  obtain ⟨⟨k0, kb⟩, hk⟩ := h1
  obtain ⟨a1, a2⟩ := keeps_at _ _ p.recs _ p.read hr hk
  have hrec : recAt p = p.recs[p.read] := by
    unfold recAt
    rw [List.getD_eq_getElem?_getD, List.getElem?_eq_getElem hr]; rfl
  have hg : gnow p.rule p.got = after (most (-9223372036854775808) (times (p.recs.take p.read))) p.rule.bound := by
    unfold gnow
    rw [if_pos k0]; rfl
  have hgt : -9223372036854775808 < p.recs[p.read].2.1 := by
    have : -9223372036854775808 < add (add (-9223372036854775808) p.rule.bound) 1 := by
      unfold add clampI
      (repeat' split) <;> omega
    omega
  have hlt := after_lt a2 hgt
  rw [hg] at h2
  unfold lateOf
  rw [hrec]
  exact decide_eq_false (by omega)
theorem lates_marks (now : Int) (ps : List Pt) : lates (marksE now ps) = 0 := by
  unfold marksE
  split <;> rfl
theorem lates_faults (p : Pt) (i : Nat) : lates (faults p i) = 0 := by
  unfold faults
  split
  · rfl
  · split <;> rfl
theorem lates_faultsTo (ps : List Pt) : ∀ k, lates (faultsTo ps k) = 0
  | 0 => rfl
  | k + 1 => by
    show lates (faultsTo ps k ++ _) = 0
    rw [lates_append, lates_faultsTo ps k, lates_faults]
theorem none_do {s : St} (h : s.Ok) (ht : Tidy25 s) (hn : s.Near) (ha : s.Awake) (x : Bool × Int) : lates (s.doE x) = 0 ∧ Tidy25 (s.doS x) ∧ (s.doS x).Near := by
  unfold St.doE St.doS
  split
  · split
    · exact ⟨rfl, ht, hn⟩
    · exact ⟨lates_marks _ _, tidy_tick ht _, near_tick hn _⟩
  · split
    · exact ⟨rfl, ht, hn⟩
    · next hr =>
      rw [Bool.not_eq_true] at hr
      have hrd := refused_read h hr
      obtain ⟨r1, r2, r3, r4⟩ := refused_not hr
      generalize x.2.toNat = i at *
      have h0 : ss s.ps i = 0 := by
        have := ha i r2
        have := (h.pt _ (pat_mem r2)).lo
        unfold ss at *
        omega
      refine ⟨?_, tidy_poll ht i r2, near_poll hn i r2 hrd h0⟩
      unfold St.pollE
      have hl := not_late h ht hn i r2 hrd h0
      rw [hl]
      show lates ([Ev.el false _ _ _ _] ++ (faults _ _ ++ marksE _ _)) = 0
      rw [lates_append, lates_append, lates_faults, lates_marks]
      rfl
theorem none_run : ∀ (l : List (Bool × Int)) {s : St} (h : s.Ok) (ht : Tidy25 s) (hn : s.Near) (ha : ∀ k, k ≤ l.length → (s.run (l.take k)).Awake), lates (s.runE l) = 0
  | [], s, h, ht, hn, ha => rfl
  | x :: l, s, h, ht, hn, ha => by
    obtain ⟨h1, h2, h3⟩ := none_do h ht hn (ha 0 (Nat.zero_le _)) x
    show lates (s.doE x ++ (s.doS x).runE l) = 0
    rw [lates_append, h1, none_run l (h.do x) h2 h3 (fun k hk => ha (k + 1) (by simpa using hk))]
theorem none_new {t d : Int} {rs : List Rul} {ls : List (List UInt8)} (hn : ls.length = rs.length) (hok : (St.new t d rs ls).Ok) (ho : orderlyB rs (ls.map lgOf) = true) : Tidy25 (St.new t d rs ls) ∧ (St.new t d rs ls).Near ∧ (St.new t d rs ls).Awake := by
  have hl := new_len (t := t) (d := d) hn
  refine ⟨⟨fun i hi => ?_⟩, fun i hi h0 => ?_, fun i hi => ?_⟩
  · rw [hl] at hi
    unfold orderlyB at ho
    rw [Bool.and_eq_true] at ho
    have := ord_at _ i (by rw [List.length_zip, List.length_map]; omega) ho.2
    rw [List.getElem_zip, List.getElem_map] at this
    rw [begun_at hn i hi, (settled_same _).2.2.2, (settled_same _).1, (raw_at hn i hi).2.2.2.2, (raw_at hn i hi).2.2.1, lgAt_map (by omega)]
    exact this
  · have hk := mark_in (hok.pt _ (pat_mem hi))
    refine further_le ?_ (least_le hi h0)
    unfold in64 at hk
    exact hk.1
  · rw [hl] at hi
    unfold ss
    rw [begun_at hn i hi]
    have := (raw_at (t := t) hn i hi).2.1
    unfold settled
    split
    · rw [this]; omega
    · show (if _ then (2 : Int) else 3) ≠ 1
      split <;> omega
theorem none_late {t d : Int} {rs : List Rul} {ls : List (List UInt8)} (hn : ls.length = rs.length) (hok : (St.new t d rs ls).Ok) (ho : orderlyB rs (ls.map lgOf) = true) (cs : List (Bool × Int)) (ha : ∀ k, 1 ≤ k → k ≤ cs.length → ((St.new t d rs ls).run (cs.take k)).Awake) :
    lates (St.newE t rs ls ++ (St.new t d rs ls).runE cs) = 0 := by
  obtain ⟨h1, h2, h3⟩ := none_new hn hok ho
  rw [lates_append, none_run cs hok h1 h2 (fun k hk => by
    rcases k with _ | k
    · exact h3
    · exact ha _ (Nat.le_add_left ..) hk)]
  unfold St.newE
  rw [lates_append, lates_faultsTo, lates_marks]
end Go.Proofs.YtmimfkhkilijcaaGreat

/- Plain facts: all comes out. -/
namespace Go.Proofs.YtmimfkhkilijcaaGreat
set_option maxRecDepth 4000
open Go.ChangeShapes Go.WideShapes Go.ChangeAt Go.RowKit
open PHist PRing PSat PClamp PBound PFrame PSign PTree PEv
set_option linter.unusedVariables false

/-- How many records are still to be read. -/
def Pt.rest (p : Pt) : Nat := p.recs.length - p.read
def restOf (ps : List Pt) : Nat := (ps.map Pt.rest).sum
theorem rest_set : ∀ (ps : List Pt) (i : Nat) (hi : i < ps.length) (q : Pt), restOf (ps.set i q) + ps[i].rest = restOf ps + q.rest
  | p :: ps, 0, hi, q => by
    show (q.rest + restOf ps) + p.rest = (p.rest + restOf ps) + q.rest
    omega
  | p :: ps, i + 1, hi, q => by
    have hi2 : i < ps.length := Nat.lt_of_succ_lt_succ hi
    have := rest_set ps i hi2 q
    show (p.rest + restOf (ps.set i q)) + ps[i].rest = (p.rest + restOf ps) + q.rest
    omega
theorem rest_map (f : Pt → Pt) (hf : ∀ p, (f p).rest = p.rest) : ∀ ps : List Pt, restOf (ps.map f) = restOf ps
  | [] => rfl
  | p :: ps => by
    show (f p).rest + restOf (ps.map f) = p.rest + restOf ps
    rw [hf, rest_map f hf ps]
theorem rest_poll {s : St} {i : Nat} (hi : i < s.ps.length) (hr : (pat s.ps i).read < (pat s.ps i).recs.length) : restOf (s.pollS i).ps + 1 = restOf s.ps := by
  have h := rest_set s.ps i hi (settled ((pat s.ps i).gone (add s.clock s.timeout)))
  have e : (s.pollS i).ps = s.ps.set i (settled ((pat s.ps i).gone (add s.clock s.timeout))) := rfl
  rw [e]
  rw [← pat_lt hi] at h
  have q1 : (settled ((pat s.ps i).gone (add s.clock s.timeout))).rest = (pat s.ps i).recs.length - ((pat s.ps i).read + 1) := by
    unfold Pt.rest
    rw [(settled_same _).1, (settled_same _).2.1]; rfl
  rw [q1] at h
  unfold Pt.rest at h
  omega
theorem rest_do {s : St} (h : s.Ok) (x : Bool × Int) : restOf (s.doS x).ps ≤ restOf s.ps := by
  unfold St.doS
  split
  · split
    · exact Nat.le_refl _
    · show restOf (s.ps.map _) ≤ _
      rw [rest_map _ (fun p => by unfold Pt.rest; rw [(wait_same _ _).1, (wait_same _ _).2.1])]
      exact Nat.le_refl _
  · split
    · exact Nat.le_refl _
    · next hr =>
      rw [Bool.not_eq_true] at hr
      have := rest_poll (refused_not hr).2.1 (refused_read h hr)
      omega
theorem rest_run : ∀ (l : List (Bool × Int)) {s : St} (h : s.Ok), restOf (s.run l).ps ≤ restOf s.ps
  | [], s, h => Nat.le_refl _
  | x :: l, s, h => Nat.le_trans (rest_run l (h.do x)) (rest_do h x)
/-- All are over. -/
def St.AllOver (s : St) : Prop := ∀ i, i < s.ps.length → 2 ≤ ss s.ps i
theorem over_poll {s : St} (h : s.AllOver) (i : Int) : s.refused i = true := by
  cases hr : s.refused i
  · obtain ⟨r1, r2, r3, r4⟩ := refused_not hr
    have := h _ r2
    omega
  · rfl
theorem over_polls : ∀ (l : List (Bool × Int)) {s : St} (h : s.AllOver), (∀ x ∈ l, x.1 = false) → s.run l = s
  | [], s, h, hl => rfl
  | x :: l, s, h, hl => by
    have hx := hl x (by simp)
    have e : s.doS x = s := by
      unfold St.doS
      rw [hx, if_neg (by simp), if_pos (over_poll h _)]
    show (s.doS x).run l = s
    rw [e]
    exact over_polls l h (fun y hy => hl y (by simp [hy]))
/-- Polls, one of which is not refused: fewer are left. -/
theorem polls_less : ∀ (l : List (Bool × Int)) {s : St} (h : s.Ok) (p : Int), (∀ x ∈ l, x.1 = false) → (false, p) ∈ l → s.refused p = false → restOf (s.run l).ps < restOf s.ps
  | [], s, h, p, hl, hp, hr => by cases hp
  | x :: l, s, h, p, hl, hp, hr => by
    have hx := hl x (by simp)
    obtain ⟨t, n⟩ := x
    have hx : t = false := hx
    subst hx
    show restOf ((s.doS (false, n)).run l).ps < _
    by_cases hn : s.refused n = true
    · have e : s.doS (false, n) = s := by
        unfold St.doS
        rw [if_neg (by simp), if_pos hn]
      rw [e]
      rcases List.mem_cons.1 hp with hp | hp
      · have : p = n := by simpa using hp
        rw [this, hn] at hr; cases hr
      · exact polls_less l h p (fun y hy => hl y (by simp [hy])) hp hr
    · rw [Bool.not_eq_true] at hn
      have h1 := rest_run l (h.do (false, n))
      have e : s.doS (false, n) = s.pollS n.toNat := by
        unfold St.doS
        rw [if_neg (by simp), if_neg (by simp [hn])]
      have h2 := rest_poll (refused_not hn).2.1 (refused_read h hn)
      rw [e] at h1 ⊢
      omega
/-- All are asked, one behind the other. -/
def oneRound (P : Nat) : List (Bool × Int) := (List.range P).map fun (i : Nat) => (false, ((i : Nat) : Int))
def rounds (P : Nat) : Nat → List (Bool × Int)
  | 0 => []
  | R + 1 => oneRound P ++ rounds P R
theorem oneRound_polls (P : Nat) : ∀ x ∈ oneRound P, x.1 = false := by
  intro x hx
  obtain ⟨i, -, rfl⟩ := List.mem_map.1 hx
  rfl
theorem rounds_polls (P : Nat) : ∀ R, ∀ x ∈ rounds P R, x.1 = false
  | 0, x, hx => by cases hx
  | R + 1, x, hx => by
    rcases List.mem_append.1 hx with hx | hx
    · exact oneRound_polls P x hx
    · exact rounds_polls P R x hx
theorem run_append (s : St) (a b : List (Bool × Int)) : s.run (a ++ b) = (s.run a).run b := List.foldl_append ..
theorem far_run {s : St} (h : s.Far) (l : List (Bool × Int)) : (s.run l).Far := h.run l
theorem rounds_over (P : Nat) : ∀ (R : Nat) {s : St} (h : s.Ok) (hf : s.Far) (hP : s.ps.length = P), restOf s.ps ≤ R → (s.run (rounds P R)).AllOver
  | 0, s, h, hf, hP, hR => by
    intro i hi
    show 2 ≤ ss s.ps i
    have hi' : i < s.ps.length := hi
    have h0 : (pat s.ps i).rest = 0 := by
      have hall : ∀ (ps : List Pt), restOf ps ≤ 0 → ∀ p ∈ ps, p.rest = 0 := by
        intro ps
        induction ps with
        | nil => intro _ p hp; cases hp
        | cons q ps ih =>
          intro hq p hp
          have hq' : q.rest + restOf ps ≤ 0 := hq
          rcases List.mem_cons.1 hp with rfl | hp
          · omega
          · exact ih (by omega) p hp
      exact hall s.ps hR _ (pat_mem hi')
    have hs := h.set _ (pat_mem hi')
    unfold Pt.rest at h0
    unfold Pt.Set at hs
    unfold ss
    have := (h.pt _ (pat_mem hi')).rd
    omega
  | R + 1, s, h, hf, hP, hR => by
    show (s.run (oneRound P ++ rounds P R)).AllOver
    rw [run_append]
    by_cases ho : s.AllOver
    · rw [over_polls _ ho (oneRound_polls P), over_polls _ ho (rounds_polls P R)]
      exact ho
    · have hex : ∃ i, i < s.ps.length ∧ ss s.ps i < 2 := by
        apply Classical.byContradiction
        intro hn
        exact ho fun i hi => by
          apply Classical.byContradiction
          intro h2
          exact hn ⟨i, hi, by omega⟩
      obtain ⟨i, hi, h1⟩ := hex
      obtain ⟨p, hp, hr, -⟩ := free_one h hf hi h1
      have hless := polls_less (oneRound P) h (p : Int) (oneRound_polls P) (List.mem_map.2 ⟨p, List.mem_range.2 (by omega), rfl⟩) hr
      exact rounds_over P R (h.run _) (far_run hf _) (by rw [run_len]; exact hP) (by omega)
theorem run_ok {s : St} (h : s.Ok) (l : List (Bool × Int)) : (s.run l).Ok := h.run l
theorem ml_none {K S : Nat → Int} {n : Nat} (h : ∀ i, i < n → 2 ≤ S i) : ml K S n = 9223372036854775807 := by
  unfold ml mlo
  have hs : ∀ q, (q = 0 ∨ q = 1) → (scan K (oa S q) n).2.2 = false := by
    intro q hq
    cases hh : (scan K (oa S q) n).2.2
    · rfl
    · obtain ⟨p, e, hp, ho, hb⟩ := scan_some K _ n hh
      have := h p hp
      simp [oa] at ho
      omega
  rw [hs 0 (.inl rfl), hs 1 (.inr rfl), if_neg (by simp), if_neg (by simp)]
/-- How many records logs have. -/
def recsIn (ls : List (List UInt8)) : Nat := (ls.map fun l => (parse l).1.length).sum
theorem rest_new {t d : Int} : ∀ {rs : List Rul} {ls : List (List UInt8)} (hn : ls.length = rs.length), restOf (St.new t d rs ls).ps = recsIn ls := by
  intro rs ls hn
  show restOf ((raws t rs ls).map settled) = _
  rw [rest_map _ (fun p => by unfold Pt.rest; rw [(settled_same _).1, (settled_same _).2.1])]
  have h : ∀ (rs : List Rul) (ls : List (List UInt8)), ls.length = rs.length → restOf (raws t rs ls) = recsIn ls := by
    intro rs
    induction rs with
    | nil =>
      intro ls h
      rw [List.eq_nil_of_length_eq_zero h]; rfl
    | cons r rs ih =>
      intro ls h
      match ls, h with
      | l :: ls, h =>
        show (Pt.raw t r l).rest + restOf (raws t rs ls) = (parse l).1.length + recsIn ls
        rw [ih ls (by simpa using h)]
        rfl
  exact h rs ls hn
theorem recsIn_le {ls : List (List UInt8)} (h : ∀ l ∈ ls, (parse l).1.length ≤ 400) : recsIn ls ≤ 400 * ls.length := by
  induction ls with
  | nil => exact Nat.le_refl _
  | cons l ls ih =>
    show (parse l).1.length + recsIn ls ≤ 400 * (ls.length + 1)
    have h1 := h l (by simp)
    have h2 := ih fun x hx => h x (by simp [hx])
    omega
/-- All comes out, and the end. -/
theorem whole_true {t d : Int} {rs : List Rul} {ls : List (List UInt8)} (hn : ls.length = rs.length) (hok : (St.new t d rs ls).Ok) (cs : List (Bool × Int)) (R : Nat) (hR : recsIn ls ≤ R) :
    wholeB (ls.map lgOf) (St.newE t rs ls ++ (St.new t d rs ls).runE (cs ++ rounds rs.length R)) = true := by
  obtain ⟨c, h1, g⟩ := goes_all hn hok (cs ++ rounds rs.length R)
  have hl := new_len (t := t) (d := d) hn
  have hov : ((St.new t d rs ls).run (cs ++ rounds rs.length R)).AllOver := by
    rw [run_append]
    refine rounds_over rs.length R (run_ok hok cs) (far_run (new_far t d rs ls) cs) (by rw [run_len, hl]) ?_
    have := rest_run cs hok
    rw [rest_new hn] at this
    omega
  have hok2 := run_ok hok (cs ++ rounds rs.length R)
  have hfar := far_run (new_far t d rs ls) (cs ++ rounds rs.length R)
  have hlast := (good_all t d rs ls (cs ++ rounds rs.length R)).last
  have hlen := run_len (cs ++ rounds rs.length R) (St.new t d rs ls)
  have herr : ∀ (l : List (Bool × Int)) (s : St) (i : Nat), i < s.ps.length → errs (s.run l).ps i = errs s.ps i := by
    intro l
    induction l with
    | nil => intro s i hi; rfl
    | cons x l ih =>
      intro s i hi
      show errs ((s.doS x).run l).ps i = _
      rw [ih (s.doS x) i (by rw [doS_len]; exact hi), errs_do s x i hi]
  have herr2 := fun i hi => herr (cs ++ rounds rs.length R) (St.new t d rs ls) i hi
  unfold wholeB
  rw [h1, elast_from, hlast]
  generalize (St.new t d rs ls).run (cs ++ rounds rs.length R) = s at *
  have hnow : s.now = 9223372036854775807 := by
    have h2 : least s.ps ≤ s.now := hfar
    have h3 : least s.ps = 9223372036854775807 := ml_none hov
    have := hok2.nw
    unfold in64 at this
    omega
  show (c.doneTo _ _ && decide (s.now = 9223372036854775807)) = true
  rw [decide_eq_true hnow, Bool.and_true, doneTo_true]
  intro i hi
  rw [List.length_map] at hi
  have hi2 : i < s.ps.length := by omega
  have h2 := hov i hi2
  have hset := hok2.set _ (pat_mem hi2)
  refine ⟨?_, ?_⟩
  · rw [g.left i hi2]
    unfold Pt.Set at hset
    unfold ss at h2
    exact List.drop_of_length_le (by omega)
  · by_cases he : erOf (ls.map lgOf) i = 0
    · exact .inl he
    · right
      rw [g.over i hi2]
      have := g.fin i hi2 h2
      have he2 : (pat s.ps i).err ≠ 0 := by
        intro h0
        apply he
        rw [errs_new (t := t) (d := d) hn i (by omega), ← herr2 i (by omega)]
        exact h0
      rw [if_neg he2] at this
      exact decide_eq_true this
end Go.Proofs.YtmimfkhkilijcaaGreat

/- Plain facts: events that come out of a source are as events may be. -/
namespace Go.Proofs.YtmimfkhkilijcaaGreat
set_option maxRecDepth 4000
open Go.ChangeShapes Go.WideShapes Go.ChangeAt Go.RowKit
open PHist PRing PSat PClamp PBound PFrame PSign PTree PEv
set_option linter.unusedVariables false

def Fine (e : Ev) : Prop := Ev.ok e ∧ (etext e).length ≤ 400
theorem fine_marks {now : Int} {ps : List Pt} (h : ∀ p ∈ ps, p.Ok) : ∀ e ∈ marksE now ps, Fine e := by
  intro e he
  unfold marksE at he
  split at he
  · cases he
  · rw [List.mem_singleton.1 he]
    exact ⟨least_in h, Nat.zero_le _⟩
theorem fine_faults {p : Pt} (h : p.Ok) (i : Nat) (hi : i < 1000) : ∀ e ∈ faults p i, Fine e := by
  intro e he
  unfold faults at he
  split at he
  · cases he
  · split at he
    · cases he
    · rw [List.mem_singleton.1 he]
      have := h.er
      exact ⟨⟨by unfold in64; omega, by unfold in64; omega⟩, Nat.zero_le _⟩
theorem fine_do {s : St} (h : s.Ok) (x : Bool × Int) : ∀ e ∈ s.doE x, Fine e := by
  have hd := h.do x
  unfold St.doE
  unfold St.doS at hd
  split
  · split
    · intro e he; cases he
    · next hx hn =>
      rw [if_pos hx, if_neg hn] at hd
      exact fine_marks hd.pt
  · next hx =>
    rw [if_neg hx] at hd
    split
    · intro e he; cases he
    · next hr =>
      rw [if_neg hr] at hd
      rw [Bool.not_eq_true] at hr
      have hi := (refused_not hr).2.1
      have hrd := refused_read h hr
      have hp := h.pt _ (pat_mem hi)
      have h8 := h.n
      have hmem : recAt (pat s.ps x.2.toNat) ∈ (pat s.ps x.2.toNat).recs := by
        unfold recAt
        rw [List.getD_eq_getElem?_getD, List.getElem?_eq_getElem hrd]
        exact List.getElem_mem hrd
      intro e he
      unfold St.pollE at he
      rcases List.mem_cons.1 he with rfl | he
      · have := okR_in (hp.okr _ hmem)
        refine ⟨⟨by unfold in64; omega, this.1, this.2⟩, ?_⟩
        exact hp.short _ hmem
      · rcases List.mem_append.1 he with he | he
        · exact fine_faults (hp.gone (add_in _ _) hrd) _ (by omega) e he
        · exact fine_marks hd.pt e he
theorem fine_run : ∀ (l : List (Bool × Int)) {s : St} (h : s.Ok), ∀ e ∈ s.runE l, Fine e
  | [], s, h, e, he => by cases he
  | x :: l, s, h, e, he => by
    rcases List.mem_append.1 he with he | he
    · exact fine_do h x e he
    · exact fine_run l (h.do x) e he
theorem fine_faultsTo {ps : List Pt} (h : ∀ p ∈ ps, p.Ok) : ∀ k, k ≤ ps.length → k ≤ 1000 → ∀ e ∈ faultsTo ps k, Fine e
  | 0, _, _, e, he => by cases he
  | k + 1, hk, h1, e, he => by
    rcases List.mem_append.1 he with he | he
    · exact fine_faultsTo h k (by omega) (by omega) e he
    · exact fine_faults (h _ (pat_mem (by omega))) k (by omega) e he
theorem fine_new {t : Int} {rs : List Rul} {ls : List (List UInt8)} (hn : ls.length = rs.length) (h8 : rs.length ≤ 8) (hc : ∀ r ∈ rs, rcheck r = 0 ∧ r.Fits) (hl : ∀ l ∈ ls, l.length ≤ 400) (ht : 1 ≤ t ∧ t ≤ 9223372036854775807) : ∀ e ∈ St.newE t rs ls, Fine e := by
  have hr := raws_ok hc hl ht
  intro e he
  unfold St.newE at he
  rcases List.mem_append.1 he with he | he
  · exact fine_faultsTo hr rs.length (by rw [raws_len hn]; omega) (by omega) e he
  · refine fine_marks (fun p hp => ?_) e he
    obtain ⟨q, hq, rfl⟩ := List.mem_map.1 hp
    exact (hr q hq).settled
end Go.Proofs.YtmimfkhkilijcaaGreat

/- Plain facts: what layer 25's statements say first: of two partitions the first one is silent for so long that its record is late. -/
namespace Go.Proofs.YtmimfkhkilijcaaGreat
set_option maxRecDepth 4000
open Go.ChangeShapes Go.WideShapes Go.ChangeAt Go.RowKit
open PHist PRing PSat PClamp PBound PFrame PSign PTree PEv PVar PCrc
set_option linter.unusedVariables false

def r5 : R := (1, 5, [])
def r90 : R := (1, 90, [])
def b5 : List UInt8 := enc 1 5 []
def b90 : List UInt8 := enc 1 90 []
def r00 : Rul := ⟨0, 0, 0, 0, 0⟩
theorem len5 : b5.length = 7 := by
  unfold b5
  rw [enc_len, body_len, show fold 5 = 10 from rfl, digs_low (n := 10) (by omega)]
  simp only [List.length_cons, List.length_nil]
  rw [digs_low (by omega)]; rfl
theorem len90 : b90.length = 8 := by
  unfold b90
  rw [enc_len, body_len, show fold 90 = 180 from rfl, digs_high (n := 180) (by omega), digs_low (n := 180 / 128) (by omega)]
  simp only [List.length_cons, List.length_nil]
  rw [digs_low (by omega)]; rfl
theorem err5 : err 1 5 [] = 0 := by
  refine err_zero (.inl rfl) ?_
  have := len5
  unfold b5 at this
  rw [enc_len] at this
  omega
theorem err90 : err 1 90 [] = 0 := by
  refine err_zero (.inl rfl) ?_
  have := len90
  unfold b90 at this
  rw [enc_len] at this
  omega
theorem ok5 : okR r5 := ⟨err5, by show (-9223372036854775808 : Int) ≤ 5; omega, by show (5 : Int) ≤ _; omega⟩
theorem ok90 : okR r90 := ⟨err90, by show (-9223372036854775808 : Int) ≤ 90; omega, by show (90 : Int) ≤ _; omega⟩
theorem lg5 : lgOf b5 = ([r5], 0) := by
  have h := parse_build [r5] (fun r hr => by rw [List.mem_singleton.1 hr]; exact ok5) []
  have e : build [r5] ++ [] = b5 := by show (encR r5 ++ []) ++ [] = _; rw [List.append_nil, List.append_nil]; rfl
  rw [e, parse_nil] at h
  unfold lgOf
  rw [h]; rfl
theorem lg90 : lgOf (b90 ++ b90) = ([r90, r90], 0) := by
  have h := parse_build [r90, r90] (fun r hr => by
    have : r = r90 := by simpa using hr
    rw [this]; exact ok90) []
  have e : build [r90, r90] ++ [] = b90 ++ b90 := by show (encR r90 ++ (encR r90 ++ [])) ++ [] = _; rw [List.append_nil, List.append_nil]; rfl
  rw [e, parse_nil] at h
  unfold lgOf
  rw [h]; rfl
theorem raws25 : raws 3 [r00, r00] [b5, b90 ++ b90] = [⟨r00, [r5], 0, 0, 0, 3⟩, ⟨r00, [r90, r90], 0, 0, 0, 3⟩] := by
  have h1 : Pt.raw 3 r00 b5 = ⟨r00, [r5], 0, 0, 0, 3⟩ := by
    have := lg5
    unfold lgOf at this
    rw [Prod.mk.injEq] at this
    unfold Pt.raw
    rw [this.1, this.2]
  have h2 : Pt.raw 3 r00 (b90 ++ b90) = ⟨r00, [r90, r90], 0, 0, 0, 3⟩ := by
    have := lg90
    unfold lgOf at this
    rw [Prod.mk.injEq] at this
    unfold Pt.raw
    rw [this.1, this.2]
  show [Pt.raw 3 r00 b5, Pt.raw 3 r00 (b90 ++ b90)] = _
  rw [h1, h2]
def cs25 : List (Bool × Int) := [(true, 2), (false, 1), (true, 1), (false, 0)]
def evs25 : List Ev := [.el false 1 1 90 [], .mark 89, .el true 0 1 5 []]
theorem new25 : St.newE 3 [r00, r00] [b5, b90 ++ b90] ++ (St.new 3 1000 [r00, r00] [b5, b90 ++ b90]).runE cs25 = evs25 := by
  unfold St.newE St.new begun
  rw [raws25]
  rfl
theorem ord25 : orderlyB [r00, r00] [lgOf b5, lgOf (b90 ++ b90)] = true := by
  rw [lg5, lg90]
  rfl
theorem rise25 : risesAt (-9223372036854775808) evs25 = true := rfl
theorem tag25 : taggedAt (-9223372036854775808) evs25 = true := rfl
theorem late25 : lates evs25 = 1 := rfl
theorem untag25 : taggedAt (-9223372036854775808) [.mark 5, .el false 0 0 5 []] = false := rfl
end Go.Proofs.YtmimfkhkilijcaaGreat
