/- Plain facts: partitions, a clock, and how far time has come. -/
import Derived.Test.YtmimfkhkilijcaaGreatKGen
import Derived.Test.YtmimfkhkilijcaaGreatKMerge
import Derived.Test.YtmimfkhkilijcaaGreatKEvV
namespace Go.Proofs.YtmimfkhkilijcaaGreat
set_option maxRecDepth 4000
open Go.ChangeShapes Go.WideShapes Go.ChangeAt Go.RowKit
open PHist PRing PSat PClamp PBound PFrame PSign PTree PEv
set_option linter.unusedVariables false

/-- A partition: its rule, its records, why there are no more, how many were read, what it is, by when it is silent. -/
structure Pt where
  rule : Rul
  recs : List R
  err : Nat
  read : Nat
  is : Int
  til : Int
def Pt.got (p : Pt) : List R := p.recs.take p.read
def Pt.mark (p : Pt) : Int := gnow p.rule p.got
def zp : Pt := ⟨⟨0, 0, 0, 0, 0⟩, [], 0, 0, 0, 0⟩
def pat (ps : List Pt) (i : Nat) : Pt := ps.getD i zp
theorem pat_lt {ps : List Pt} {i : Nat} (h : i < ps.length) : pat ps i = ps[i] := by
  unfold pat
  rw [List.getD_eq_getElem?_getD, List.getElem?_eq_getElem h]; rfl
theorem pat_set {ps : List Pt} {i : Nat} (h : i < ps.length) (p : Pt) : pat (ps.set i p) = put (pat ps) i p := by
  funext j
  show (ps.set i p).getD j zp = if j = i then p else ps.getD j zp
  rw [List.getD_eq_getElem?_getD, List.getD_eq_getElem?_getD, List.getElem?_set]
  by_cases e : j = i
  · subst e
    rw [if_pos rfl, if_pos rfl, if_pos h]; rfl
  · rw [if_neg (fun h => e h.symm), if_neg e]
theorem pat_map {ps : List Pt} {f : Pt → Pt} {i : Nat} (h : i < ps.length) : pat (ps.map f) i = f (pat ps i) := by
  rw [pat_lt h, pat_lt (by rw [List.length_map]; exact h), List.getElem_map]
theorem pat_mem {ps : List Pt} {i : Nat} (h : i < ps.length) : pat ps i ∈ ps := by
  rw [pat_lt h]; exact List.getElem_mem h
/-- The marks, and what each is. -/
def kk (ps : List Pt) (i : Nat) : Int := (pat ps i).mark
def ss (ps : List Pt) (i : Nat) : Int := (pat ps i).is
theorem kk_set {ps : List Pt} {i : Nat} (h : i < ps.length) (p : Pt) : kk (ps.set i p) = put (kk ps) i p.mark := by
  funext j
  unfold kk
  rw [pat_set h]
  unfold put
  by_cases e : j = i
  · rw [if_pos e, if_pos e]
  · rw [if_neg e, if_neg e]
theorem ss_set {ps : List Pt} {i : Nat} (h : i < ps.length) (p : Pt) : ss (ps.set i p) = put (ss ps) i p.is := by
  funext j
  unfold ss
  rw [pat_set h]
  unfold put
  by_cases e : j = i
  · rw [if_pos e, if_pos e]
  · rw [if_neg e, if_neg e]

structure St where
  ps : List Pt
  timeout : Int
  drift : Int
  clock : Int
  now : Int

def settled (p : Pt) : Pt := if p.read < p.recs.length then p else { p with is := if p.err = 0 then 2 else 3 }
def faults (p : Pt) (i : Nat) : List Ev := if p.read < p.recs.length then [] else if p.err = 0 then [] else [.fault i p.err]
def least (ps : List Pt) : Int := ml (kk ps) (ss ps) ps.length
def further (now : Int) (ps : List Pt) : Int := if least ps ≤ now then now else least ps
def marksE (now : Int) (ps : List Pt) : List Ev := if least ps ≤ now then [] else [.mark (least ps)]
def lateOf (now : Int) (r : R) : Bool := decide (now ≠ -9223372036854775808 ∧ r.2.1 ≤ now)
def recAt (p : Pt) : R := p.recs.getD p.read zr
/-- Behind a record that is read at a clock. -/
def Pt.gone (p : Pt) (til : Int) : Pt := { p with read := p.read + 1, is := 0, til := til }
def Pt.wait (p : Pt) (clock : Int) : Pt := if p.is = 0 ∧ p.til ≤ clock then { p with is := 1 } else p
/-- Is nothing read of it? -/
def St.refused (s : St) (i : Int) : Bool :=
  decide (¬ (0 ≤ i ∧ i < s.ps.length)) || decide (1 < ss s.ps i.toNat) || decide (add s.now s.drift < kk s.ps i.toNat)
def St.polled (s : St) (i : Nat) : List Pt := s.ps.set i (settled ((pat s.ps i).gone (add s.clock s.timeout)))
def St.ticked (s : St) (c : Int) : List Pt := s.ps.map fun p => p.wait c
def St.pollS (s : St) (i : Nat) : St := { s with ps := s.polled i, now := further s.now (s.polled i) }
def St.pollE (s : St) (i : Nat) : List Ev :=
  Ev.el (lateOf s.now (recAt (pat s.ps i))) i (recAt (pat s.ps i)).1 (recAt (pat s.ps i)).2.1 (recAt (pat s.ps i)).2.2 :: (faults ((pat s.ps i).gone (add s.clock s.timeout)) i ++ marksE s.now (s.polled i))
def St.tickS (s : St) (by_ : Int) : St := { s with clock := add s.clock by_, ps := s.ticked (add s.clock by_), now := further s.now (s.ticked (add s.clock by_)) }
def St.tickE (s : St) (by_ : Int) : List Ev := marksE s.now (s.ticked (add s.clock by_))
def St.doS (s : St) (x : Bool × Int) : St :=
  if x.1 then (if x.2 < 0 then s else s.tickS x.2) else if s.refused x.2 then s else s.pollS x.2.toNat
def St.doE (s : St) (x : Bool × Int) : List Ev :=
  if x.1 then (if x.2 < 0 then [] else s.tickE x.2) else if s.refused x.2 then [] else s.pollE x.2.toNat
def St.run (s : St) (l : List (Bool × Int)) : St := l.foldl St.doS s
def St.runE : St → List (Bool × Int) → List Ev
  | _, [] => []
  | s, x :: l => s.doE x ++ (s.doS x).runE l
theorem run_snoc (s : St) (l : List (Bool × Int)) (x : Bool × Int) : s.run (l ++ [x]) = (s.run l).doS x := by simp [St.run]
theorem runE_append : ∀ (l m : List (Bool × Int)) (s : St), s.runE (l ++ m) = s.runE l ++ (s.run l).runE m
  | [], _, _ => rfl
  | x :: l, m, s => by
    show s.doE x ++ (s.doS x).runE (l ++ m) = (s.doE x ++ (s.doS x).runE l) ++ _
    rw [runE_append l m, List.append_assoc]; rfl
theorem runE_snoc (s : St) (l : List (Bool × Int)) (x : Bool × Int) : s.runE (l ++ [x]) = s.runE l ++ (s.run l).doE x := by
  rw [runE_append]
  show _ ++ (_ ++ []) = _
  rw [List.append_nil]
theorem run_take (s : St) (l : List (Bool × Int)) (k : Nat) (hk : k < l.length) : s.run (l.take (k + 1)) = (s.run (l.take k)).doS l[k] := by
  rw [List.take_succ_eq_append_getElem hk, run_snoc]
theorem runE_take (s : St) (l : List (Bool × Int)) (k : Nat) (hk : k < l.length) : s.runE (l.take (k + 1)) = s.runE (l.take k) ++ (s.run (l.take k)).doE l[k] := by
  rw [List.take_succ_eq_append_getElem hk, runE_snoc]

/-- The beginning. -/
def Pt.raw (timeout : Int) (r : Rul) (l : List UInt8) : Pt := ⟨r, (parse l).1, (parse l).2.2, 0, 0, timeout⟩
def raws (timeout : Int) (rs : List Rul) (ls : List (List UInt8)) : List Pt := List.zipWith (Pt.raw timeout) rs ls
def begun (timeout : Int) (rs : List Rul) (ls : List (List UInt8)) : List Pt := (raws timeout rs ls).map settled
def faultsTo (ps : List Pt) : Nat → List Ev
  | 0 => []
  | k + 1 => faultsTo ps k ++ faults (pat ps k) k
def St.new (timeout drift : Int) (rs : List Rul) (ls : List (List UInt8)) : St :=
  ⟨begun timeout rs ls, timeout, drift, 0, further (-9223372036854775808) (begun timeout rs ls)⟩
def St.newE (timeout : Int) (rs : List Rul) (ls : List (List UInt8)) : List Ev :=
  faultsTo (raws timeout rs ls) rs.length ++ marksE (-9223372036854775808) (begun timeout rs ls)

/-- What each partition keeps to. -/
structure Pt.Ok (p : Pt) : Prop where
  chk : rcheck p.rule = 0
  fit : p.rule.Fits
  okr : ∀ r ∈ p.recs, okR r
  short : ∀ r ∈ p.recs, r.2.2.length ≤ 400
  few : p.recs.length ≤ 400
  er : p.err ≤ 5
  rd : p.read ≤ p.recs.length
  lo : 0 ≤ p.is
  hi : p.is ≤ 3
  tl : in64 p.til
def Pt.Set (p : Pt) : Prop := p.is < 2 ↔ p.read < p.recs.length
structure St.Ok (s : St) : Prop where
  pt : ∀ p ∈ s.ps, p.Ok
  set : ∀ p ∈ s.ps, p.Set
  n : s.ps.length ≤ 8
  tm : 1 ≤ s.timeout ∧ s.timeout ≤ 9223372036854775807
  dr : 0 ≤ s.drift ∧ s.drift ≤ 9223372036854775807
  ck : in64 s.clock
  nw : in64 s.now

theorem okR_in {r : R} (h : okR r) : in64 r.1 ∧ in64 r.2.1 := by
  obtain ⟨h1, h2, h3⟩ := h
  have := err_kind h1
  unfold in64
  refine ⟨?_, h2, h3⟩
  rcases this with h | h <;> rw [h] <;> omega
theorem Pt.Ok.inr {p : Pt} (h : p.Ok) : InR p.recs := fun r hr => okR_in (h.okr r hr)
theorem mark_in {p : Pt} (h : p.Ok) : in64 p.mark := gnow_in (h.inr.take _)
theorem Pt.Ok.gone {p : Pt} (h : p.Ok) {t : Int} (ht : in64 t) (hr : p.read < p.recs.length) : (p.gone t).Ok :=
  ⟨h.chk, h.fit, h.okr, h.short, h.few, h.er, hr, Int.le_refl 0, by show (0 : Int) ≤ 3; omega, ht⟩
theorem Pt.Ok.settled {p : Pt} (h : p.Ok) : (settled p).Ok := by
  unfold Go.Proofs.YtmimfkhkilijcaaGreat.settled
  split
  · exact h
  · exact ⟨h.chk, h.fit, h.okr, h.short, h.few, h.er, h.rd, by show 0 ≤ (if _ then (2 : Int) else 3); split <;> omega, by show (if _ then (2 : Int) else 3) ≤ 3; split <;> omega, h.tl⟩
theorem Pt.Ok.wait {p : Pt} (h : p.Ok) (c : Int) : (p.wait c).Ok := by
  unfold Pt.wait
  split
  · exact ⟨h.chk, h.fit, h.okr, h.short, h.few, h.er, h.rd, by show (0 : Int) ≤ 1; omega, by show (1 : Int) ≤ 3; omega, h.tl⟩
  · exact h
theorem settled_set {p : Pt} (h : p.read < p.recs.length → p.is < 2) : (settled p).Set := by
  unfold settled Pt.Set
  by_cases hr : p.read < p.recs.length
  · rw [if_pos hr]; exact ⟨fun _ => hr, h⟩
  · rw [if_neg hr]
    refine ⟨fun h => ?_, fun h => absurd h hr⟩
    exfalso
    have h' : (if p.err = 0 then (2 : Int) else 3) < 2 := h
    split at h' <;> omega
theorem wait_set {p : Pt} (h : p.Set) (c : Int) : (p.wait c).Set := by
  unfold Pt.wait
  split
  · next e => exact ⟨fun _ => h.1 (by rw [e.1]; omega), fun _ => by show (1 : Int) < 2; omega⟩
  · exact h
theorem settled_mark (p : Pt) : (settled p).mark = p.mark := by
  unfold settled
  split <;> rfl
theorem wait_mark (p : Pt) (c : Int) : (p.wait c).mark = p.mark := by
  unfold Pt.wait
  split <;> rfl
theorem least_in {ps : List Pt} (h : ∀ p ∈ ps, p.Ok) : in64 (least ps) :=
  ml_in fun i hi => mark_in (h _ (pat_mem hi))
theorem further_in {ps : List Pt} (h : ∀ p ∈ ps, p.Ok) {now : Int} (hn : in64 now) : in64 (further now ps) := by
  unfold further
  split
  · exact hn
  · exact least_in h
theorem St.Ok.poll {s : St} (h : s.Ok) {i : Nat} (hi : i < s.ps.length) (hr : (pat s.ps i).read < (pat s.ps i).recs.length) : (s.pollS i).Ok := by
  have hp := h.pt _ (pat_mem hi)
  have hg : (settled ((pat s.ps i).gone (add s.clock s.timeout))).Ok := (hp.gone (add_in _ _) hr).settled
  have hs : (settled ((pat s.ps i).gone (add s.clock s.timeout))).Set := settled_set fun _ => by show (0 : Int) < 2; omega
  have h1 : ∀ p ∈ s.polled i, p.Ok := fun p hm => by
    rcases List.mem_or_eq_of_mem_set hm with hm | rfl
    · exact h.pt p hm
    · exact hg
  exact ⟨h1, fun p hm => by
    rcases List.mem_or_eq_of_mem_set hm with hm | rfl
    · exact h.set p hm
    · exact hs, by show (s.ps.set _ _).length ≤ 8; rw [List.length_set]; exact h.n, h.tm, h.dr, h.ck, further_in h1 h.nw⟩
theorem St.Ok.tick {s : St} (h : s.Ok) (x : Int) : (s.tickS x).Ok := by
  have h1 : ∀ p ∈ s.ticked (add s.clock x), p.Ok := fun p hm => by
    obtain ⟨q, hq, rfl⟩ := List.mem_map.1 hm
    exact (h.pt q hq).wait _
  exact ⟨h1, fun p hm => by
    obtain ⟨q, hq, rfl⟩ := List.mem_map.1 hm
    exact wait_set (h.set q hq) _, by show (s.ps.map _).length ≤ 8; rw [List.length_map]; exact h.n, h.tm, h.dr, add_in _ _, further_in h1 h.nw⟩
theorem refused_not {s : St} {i : Int} (h : s.refused i = false) : 0 ≤ i ∧ i.toNat < s.ps.length ∧ ss s.ps i.toNat ≤ 1 ∧ kk s.ps i.toNat ≤ add s.now s.drift := by
  unfold St.refused at h
  simp only [Bool.or_eq_false_iff, decide_eq_false_iff_not, Decidable.not_not] at h
  omega
theorem refused_read {s : St} (h : s.Ok) {i : Int} (hr : s.refused i = false) : (pat s.ps i.toNat).read < (pat s.ps i.toNat).recs.length := by
  obtain ⟨h1, h2, h3, h4⟩ := refused_not hr
  exact (h.set _ (pat_mem h2)).1 (by unfold ss at h3; omega)
theorem St.Ok.do {s : St} (h : s.Ok) (x : Bool × Int) : (s.doS x).Ok := by
  unfold St.doS
  split
  · split
    · exact h
    · exact h.tick _
  · split
    · exact h
    · next hr =>
      rw [Bool.not_eq_true] at hr
      exact h.poll (refused_not hr).2.1 (refused_read h hr)
theorem St.Ok.run {s : St} (h : s.Ok) : ∀ (l : List (Bool × Int)), (s.run l).Ok := by
  intro l
  induction l generalizing s with
  | nil => exact h
  | cons x l ih => exact ih (h.do x)
theorem doS_len (s : St) (x : Bool × Int) : (s.doS x).ps.length = s.ps.length := by
  unfold St.doS
  split
  · split
    · rfl
    · show (s.ps.map _).length = _; rw [List.length_map]
  · split
    · rfl
    · show (s.ps.set _ _).length = _; rw [List.length_set]
theorem doS_same (s : St) (x : Bool × Int) : (s.doS x).timeout = s.timeout ∧ (s.doS x).drift = s.drift := by
  unfold St.doS
  split
  · split <;> exact ⟨rfl, rfl⟩
  · split <;> exact ⟨rfl, rfl⟩
theorem run_len (l : List (Bool × Int)) : ∀ s : St, (s.run l).ps.length = s.ps.length := by
  induction l with
  | nil => intro s; rfl
  | cons x l ih => intro s; show ((s.doS x).run l).ps.length = _; rw [ih, doS_len]
theorem marksE_len (now : Int) (ps : List Pt) : (marksE now ps).length ≤ 1 := by unfold marksE; split <;> simp
theorem faults_len (p : Pt) (i : Nat) : (faults p i).length ≤ 1 := by
  unfold faults
  split
  · simp
  · split <;> simp
theorem doE_len (s : St) (x : Bool × Int) : (s.doE x).length ≤ 3 := by
  have m := fun now ps => marksE_len now ps
  have f := fun p i => faults_len p i
  unfold St.doE
  split
  · split
    · simp
    · unfold St.tickE; have := m s.now (s.ticked (add s.clock x.2)); omega
  · split
    · simp
    · unfold St.pollE
      rw [List.length_cons, List.length_append]
      have := m s.now (s.polled x.2.toNat)
      have := f ((pat s.ps x.2.toNat).gone (add s.clock s.timeout)) x.2.toNat
      omega
theorem runE_len : ∀ (l : List (Bool × Int)) (s : St), (s.runE l).length ≤ 3 * l.length
  | [], _ => by simp [St.runE]
  | x :: l, s => by
    show (s.doE x ++ (s.doS x).runE l).length ≤ _
    rw [List.length_append, List.length_cons]
    have := doE_len s x
    have := runE_len l (s.doS x)
    omega
theorem faultsTo_len (ps : List Pt) : ∀ k, (faultsTo ps k).length ≤ k
  | 0 => by simp [faultsTo]
  | k + 1 => by
    show (faultsTo ps k ++ _).length ≤ _
    rw [List.length_append]
    have := faultsTo_len ps k
    have := faults_len (pat ps k) k
    omega
theorem newE_len (t : Int) (rs : List Rul) (ls : List (List UInt8)) : (St.newE t rs ls).length ≤ rs.length + 1 := by
  unfold St.newE
  rw [List.length_append]
  have := faultsTo_len (raws t rs ls) rs.length
  have := marksE_len (-9223372036854775808) (begun t rs ls)
  omega

/-- Records of a text: they are few, and short. -/
theorem build_big : ∀ (rs : List R), 7 * rs.length ≤ (build rs).length ∧ ∀ r ∈ rs, r.2.2.length ≤ (build rs).length
  | [] => ⟨by simp [build], fun r h => by cases h⟩
  | r :: rs => by
    obtain ⟨h1, h2⟩ := build_big rs
    have h3 := encR_pos r
    have h4 : r.2.2.length ≤ (encR r).length := by
      show _ ≤ (enc _ _ _).length
      rw [enc_len, body_len]; omega
    show _ ≤ (encR r ++ build rs).length ∧ ∀ q ∈ r :: rs, _ ≤ (encR r ++ build rs).length
    rw [List.length_append, List.length_cons]
    refine ⟨by omega, fun q hq => ?_⟩
    rcases List.mem_cons.1 hq with rfl | hq
    · omega
    · have := h2 q hq; omega
theorem raw_ok {t : Int} {r : Rul} {l : List UInt8} (hc : rcheck r = 0) (hf : r.Fits) (hl : l.length ≤ 400) (ht : 1 ≤ t ∧ t ≤ 9223372036854775807) : (Pt.raw t r l).Ok := by
  obtain ⟨h1, h2, h3, h4, h5⟩ := parse_spec l.length l (Nat.le_refl _)
  have hb := build_big (parse l).1
  rw [h2, List.length_take] at hb
  exact ⟨hc, hf, h1, fun r hr => by have := hb.2 r hr; omega, by show (parse l).1.length ≤ 400; omega, h5, Nat.zero_le _, Int.le_refl 0, by show (0 : Int) ≤ 3; omega, by show in64 t; unfold in64; omega⟩
theorem raws_len {t : Int} {rs : List Rul} {ls : List (List UInt8)} (h : ls.length = rs.length) : (raws t rs ls).length = rs.length := by
  unfold raws
  rw [List.length_zipWith]; omega
theorem raws_at {t : Int} {rs : List Rul} {ls : List (List UInt8)} (h : ls.length = rs.length) (i : Nat) (hi : i < rs.length) : pat (raws t rs ls) i = Pt.raw t rs[i] (ls[i]'(by omega)) := by
  rw [pat_lt (by rw [raws_len h]; exact hi)]
  unfold raws
  rw [List.getElem_zipWith]
theorem raws_ok {t : Int} {rs : List Rul} {ls : List (List UInt8)} (hc : ∀ r ∈ rs, rcheck r = 0 ∧ r.Fits) (hl : ∀ l ∈ ls, l.length ≤ 400) (ht : 1 ≤ t ∧ t ≤ 9223372036854775807) : ∀ p ∈ raws t rs ls, p.Ok := by
  intro p hp
  unfold raws at hp
  obtain ⟨i, hi, rfl⟩ := List.mem_iff_getElem.1 hp
  rw [List.getElem_zipWith]
  rw [List.length_zipWith] at hi
  have := hc _ (List.getElem_mem (show i < rs.length by omega))
  exact raw_ok this.1 this.2 (hl _ (List.getElem_mem (show i < ls.length by omega))) ht
theorem new_ok {t d : Int} {rs : List Rul} {ls : List (List UInt8)} (hn : ls.length = rs.length) (h8 : rs.length ≤ 8) (hc : ∀ r ∈ rs, rcheck r = 0 ∧ r.Fits) (hl : ∀ l ∈ ls, l.length ≤ 400) (ht : 1 ≤ t ∧ t ≤ 9223372036854775807) (hd : 0 ≤ d ∧ d ≤ 9223372036854775807) : (St.new t d rs ls).Ok := by
  have hr := raws_ok hc hl ht
  have h1 : ∀ p ∈ begun t rs ls, p.Ok := fun p hm => by
    obtain ⟨q, hq, rfl⟩ := List.mem_map.1 hm
    exact (hr q hq).settled
  refine ⟨h1, fun p hm => ?_, ?_, ht, hd, by show in64 0; unfold in64; omega, further_in h1 (by unfold in64; omega)⟩
  · obtain ⟨q, hq, rfl⟩ := List.mem_map.1 hm
    refine settled_set fun _ => ?_
    unfold raws at hq
    obtain ⟨i, hi, rfl⟩ := List.mem_iff_getElem.1 hq
    rw [List.getElem_zipWith]
    show (0 : Int) < 2; omega
  · show (begun t rs ls).length ≤ 8
    unfold begun
    rw [List.length_map, raws_len hn]; exact h8
end Go.Proofs.YtmimfkhkilijcaaGreat

/- Plain facts: somebody can always be read; what is refused changes nothing; whoever is first. -/
namespace Go.Proofs.YtmimfkhkilijcaaGreat
set_option maxRecDepth 4000
open Go.ChangeShapes Go.WideShapes Go.ChangeAt Go.RowKit
open PHist PRing PSat PClamp PBound PFrame PSign PTree PEv
set_option linter.unusedVariables false

/-- How far time has come is no less than the least mark. -/
def St.Far (s : St) : Prop := least s.ps ≤ s.now
theorem further_far (now : Int) (ps : List Pt) : least ps ≤ further now ps := by
  unfold further
  split <;> omega
theorem St.Far.do {s : St} (h : s.Far) (x : Bool × Int) : (s.doS x).Far := by
  unfold St.doS
  split
  · split
    · exact h
    · exact further_far _ _
  · split
    · exact h
    · exact further_far _ _
theorem new_far (t d : Int) (rs : List Rul) (ls : List (List UInt8)) : (St.new t d rs ls).Far := further_far _ _
theorem St.Far.run {s : St} (h : s.Far) : ∀ (l : List (Bool × Int)), (s.run l).Far := by
  intro l
  induction l generalizing s with
  | nil => exact h
  | cons x l ih => exact ih (h.do x)
/-- Whose mark it is. -/
theorem ml_who {K S : Nat → Int} {n i : Nat} (hi : i < n) (h0 : S i = 0 ∨ S i = 1) : ∃ p, p < n ∧ (S p = 0 ∨ S p = 1) ∧ ml K S n = K p := by
  unfold ml mlo
  cases hs : (scan K (oa S 0) n).2.2
  · rw [if_neg (by simp)]
    have hn := (scan_none K _ n hs).2
    have hi1 : S i = 1 := by
      rcases h0 with h0 | h0
      · have := hn i hi
        simp [oa, h0] at this
      · exact h0
    cases ht : (scan K (oa S 1) n).2.2
    · have := (scan_none K _ n ht).2 i hi
      simp [oa, hi1] at this
    · obtain ⟨p, e, hp, ho, hb⟩ := scan_some K _ n ht
      rw [if_pos rfl, e]
      simp [oa] at ho
      exact ⟨p, hp, .inr ho, rfl⟩
  · obtain ⟨p, e, hp, ho, hb⟩ := scan_some K _ n hs
    rw [if_pos rfl, e]
    simp [oa] at ho
    exact ⟨p, hp, .inl ho, rfl⟩
theorem add_ge {a d : Int} (ha : in64 a) (hd : 0 ≤ d) : a ≤ add a d := by
  unfold in64 at ha
  unfold add clampI
  split
  · omega
  · split <;> omega
/-- As long as one is not over, one that isn't over isn't refused. -/
theorem free_one {s : St} (h : s.Ok) (hf : s.Far) {i : Nat} (hi : i < s.ps.length) (h1 : ss s.ps i < 2) : ∃ p, p < s.ps.length ∧ s.refused p = false ∧ ss s.ps p < 2 := by
  have h0 := (h.pt _ (pat_mem hi)).lo
  obtain ⟨p, hp, hs, he⟩ := ml_who (K := kk s.ps) (S := ss s.ps) hi (by unfold ss at h1 ⊢; omega)
  refine ⟨p, hp, ?_, by omega⟩
  unfold St.refused
  simp only [Bool.or_eq_false_iff, decide_eq_false_iff_not, Decidable.not_not]
  have h2 : kk s.ps p ≤ s.now := by rw [← he]; exact hf
  have := add_ge h.nw h.dr.1
  rw [show ((p : Nat) : Int).toNat = p by omega]
  refine ⟨⟨by omega, by omega⟩, by omega⟩
/-- What changes nothing. -/
def St.vain (s : St) (x : Bool × Int) : Bool := (!x.1 && s.refused x.2) || (x.1 && decide (x.2 < 0))
theorem vain_same {s : St} {x : Bool × Int} (h : s.vain x = true) : s.doS x = s ∧ s.doE x = [] := by
  obtain ⟨t, n⟩ := x
  unfold St.vain at h
  unfold St.doS St.doE
  cases t
  · simp at h
    simp [h]
  · simp at h
    simp [h]

/- In the other order. -/
theorem scan_least {K S : Nat → Int} {q : Int} {n : Nat} (hs : (scan K (oa S q) n).2.2 = true) : ∃ i, i < n ∧ S i = q ∧ (scan K (oa S q) n).1 = K i ∧ ∀ m, m < n → S m = q → K i ≤ K m := by
  obtain ⟨p, e, hp, ho, hb⟩ := scan_some K _ n hs
  refine ⟨p, hp, by simpa [oa] using ho, by rw [e], fun m hm hq => ?_⟩
  have := hb m hm (by simp [oa, hq])
  unfold Beats at this
  omega
theorem scan_turn {K S : Nat → Int} {q : Int} {n : Nat} : (scan (fun j => K (n - 1 - j)) (oa (fun j => S (n - 1 - j)) q) n).2.2 = (scan K (oa S q) n).2.2 ∧ (scan (fun j => K (n - 1 - j)) (oa (fun j => S (n - 1 - j)) q) n).1 = (scan K (oa S q) n).1 := by
  cases h1 : (scan K (oa S q) n).2.2 <;> cases h2 : (scan (fun j => K (n - 1 - j)) (oa (fun j => S (n - 1 - j)) q) n).2.2
  · rw [(scan_none _ _ n h1).1, (scan_none _ _ n h2).1]
    exact ⟨rfl, rfl⟩
  · obtain ⟨i, hi, hs, _, _⟩ := scan_least h2
    have := (scan_none _ _ n h1).2 (n - 1 - i) (by omega)
    simp [oa, hs] at this
  · obtain ⟨i, hi, hs, _, _⟩ := scan_least h1
    have := (scan_none _ _ n h2).2 (n - 1 - i) (by omega)
    unfold oa at this
    rw [decide_eq_true_iff] at this
    have this : S (n - 1 - (n - 1 - i)) ≠ q := this
    rw [show n - 1 - (n - 1 - i) = i by omega] at this
    exact absurd hs this
  · obtain ⟨i, hi, hs, he, hl⟩ := scan_least h1
    obtain ⟨j, hj, hsj, hej, hlj⟩ := scan_least h2
    refine ⟨rfl, ?_⟩
    rw [he, hej]
    have a := hl (n - 1 - j) (by omega) hsj
    have b := hlj (n - 1 - i) (by omega) (by show S (n - 1 - (n - 1 - i)) = q; rw [show n - 1 - (n - 1 - i) = i by omega]; exact hs)
    rw [show n - 1 - (n - 1 - i) = i by omega] at b
    omega
theorem ml_turn {K S : Nat → Int} {n : Nat} : ml (fun j => K (n - 1 - j)) (fun j => S (n - 1 - j)) n = ml K S n := by
  unfold ml mlo
  rw [(scan_turn (q := 0)).1, (scan_turn (q := 0)).2, (scan_turn (q := 1)).1, (scan_turn (q := 1)).2]
theorem pat_rev {ps : List Pt} {i : Nat} (h : i < ps.length) : pat ps.reverse i = pat ps (ps.length - 1 - i) := by
  rw [pat_lt (by rw [List.length_reverse]; exact h), pat_lt (by omega), List.getElem_reverse]
theorem least_rev (ps : List Pt) : least ps.reverse = least ps := by
  unfold least
  rw [List.length_reverse, ← ml_turn (n := ps.length)]
  refine ml_congr (fun i hi => ?_) (fun i hi => ?_)
  · unfold kk; rw [pat_rev (by omega), show ps.length - 1 - (ps.length - 1 - i) = i by omega]
  · unfold ss; rw [pat_rev (by omega), show ps.length - 1 - (ps.length - 1 - i) = i by omega]
def St.rev (s : St) : St := { s with ps := s.ps.reverse }
theorem further_rev (now : Int) (ps : List Pt) : further now ps.reverse = further now ps := by unfold further; rw [least_rev]
theorem marksE_rev (now : Int) (ps : List Pt) : marksE now ps.reverse = marksE now ps := by unfold marksE; rw [least_rev]
/-- The choice of the partition at the same place from the other end. -/
def turnC (n : Nat) (x : Bool × Int) : Bool × Int := if x.1 then x else (false, if 0 ≤ x.2 ∧ x.2 < n then (n : Int) - 1 - x.2 else -1)
def turnE (n : Nat) : Ev → Ev
  | .el late p k t x => .el late ((n : Int) - 1 - p) k t x
  | .mark m => .mark m
  | .fault p e => .fault ((n : Int) - 1 - p) e
theorem refused_rev (s : St) (i : Int) (h : 0 ≤ i ∧ i < s.ps.length) : s.rev.refused ((s.ps.length : Int) - 1 - i) = s.refused i := by
  have e : ((s.ps.length : Int) - 1 - i).toNat = s.ps.length - 1 - i.toNat := by omega
  have e2 : ss s.rev.ps ((s.ps.length : Int) - 1 - i).toNat = ss s.ps i.toNat := by
    rw [e]; unfold ss; show (pat s.ps.reverse _).is = _
    rw [pat_rev (by omega), show s.ps.length - 1 - (s.ps.length - 1 - i.toNat) = i.toNat by omega]
  have e3 : kk s.rev.ps ((s.ps.length : Int) - 1 - i).toNat = kk s.ps i.toNat := by
    rw [e]; unfold kk; show (pat s.ps.reverse _).mark = _
    rw [pat_rev (by omega), show s.ps.length - 1 - (s.ps.length - 1 - i.toNat) = i.toNat by omega]
  unfold St.refused
  rw [e2, e3]
  have e4 : s.rev.ps.length = s.ps.length := List.length_reverse
  rw [e4]
  have a1 : decide (¬ (0 ≤ (s.ps.length : Int) - 1 - i ∧ (s.ps.length : Int) - 1 - i < s.ps.length)) = decide (¬ (0 ≤ i ∧ i < s.ps.length)) := by
    rw [decide_eq_false (by omega), decide_eq_false (by omega)]
  rw [a1]; rfl
theorem set_rev {ps : List Pt} {i : Nat} (h : i < ps.length) (p : Pt) : ps.reverse.set (ps.length - 1 - i) p = (ps.set i p).reverse := by
  apply List.ext_getElem
  · simp
  · intro j h1 h2
    simp only [List.length_set, List.length_reverse] at h1
    rw [List.getElem_set, List.getElem_reverse, List.getElem_reverse, List.getElem_set]
    simp only [List.length_set]
    by_cases e : ps.length - 1 - i = j
    · rw [if_pos e, if_pos (by omega)]
    · rw [if_neg e, if_neg (by omega)]
theorem faults_turn (p : Pt) (n i : Nat) (h : i < n) : faults p (n - 1 - i) = (faults p i).map (turnE n) := by
  unfold faults
  split
  · rfl
  · split
    · rfl
    · show [Ev.fault _ _] = [Ev.fault _ _]
      congr 2; omega
theorem marksE_turn (n : Nat) (now : Int) (ps : List Pt) : (marksE now ps).map (turnE n) = marksE now ps := by
  unfold marksE
  split <;> rfl
theorem poll_rev (s : St) (i : Nat) (h : i < s.ps.length) : s.rev.pollS (s.ps.length - 1 - i) = (s.pollS i).rev ∧ s.rev.pollE (s.ps.length - 1 - i) = (s.pollE i).map (turnE s.ps.length) := by
  have e1 : pat s.rev.ps (s.ps.length - 1 - i) = pat s.ps i := by
    show pat s.ps.reverse _ = _
    rw [pat_rev (by omega), show s.ps.length - 1 - (s.ps.length - 1 - i) = i by omega]
  have e2 : s.rev.polled (s.ps.length - 1 - i) = (s.polled i).reverse := by
    unfold St.polled
    rw [e1]
    show s.ps.reverse.set _ _ = _
    exact set_rev h _
  constructor
  · unfold St.pollS
    rw [e2, further_rev]; rfl
  · unfold St.pollE
    rw [e1, e2, marksE_rev, List.map_cons, List.map_append, marksE_turn, faults_turn _ _ _ h]
    show Ev.el _ _ _ _ _ :: _ = Ev.el _ _ _ _ _ :: _
    congr 2; omega
theorem tick_rev (s : St) (b : Int) : s.rev.tickS b = (s.tickS b).rev ∧ s.rev.tickE b = s.tickE b := by
  have e : ∀ c, s.rev.ticked c = (s.ticked c).reverse := fun c => by
    unfold St.ticked
    show s.ps.reverse.map _ = _
    rw [List.map_reverse]
  constructor
  · unfold St.tickS
    show St.mk (s.rev.ticked (add s.clock b)) _ _ _ (further s.now (s.rev.ticked (add s.clock b))) = _
    rw [e, further_rev]; rfl
  · unfold St.tickE
    show marksE s.now (s.rev.ticked (add s.clock b)) = _
    rw [e, marksE_rev]
theorem tickE_turn (s : St) (b : Int) (n : Nat) : (s.tickE b).map (turnE n) = s.tickE b := marksE_turn _ _ _
theorem do_rev (s : St) (x : Bool × Int) : s.rev.doS (turnC s.ps.length x) = (s.doS x).rev ∧ s.rev.doE (turnC s.ps.length x) = (s.doE x).map (turnE s.ps.length) := by
  obtain ⟨t, i⟩ := x
  cases t
  · unfold St.doS St.doE turnC
    simp only [Bool.false_eq_true, if_false]
    by_cases h : 0 ≤ i ∧ i < s.ps.length
    · rw [if_pos h, refused_rev s i h]
      cases hr : s.refused i
      · rw [if_neg (by simp), if_neg (by simp), if_neg (by simp), if_neg (by simp)]
        have := poll_rev s i.toNat (by omega)
        rw [show ((s.ps.length : Int) - 1 - i).toNat = s.ps.length - 1 - i.toNat by omega]
        exact this
      · rw [if_pos rfl, if_pos rfl, if_pos rfl, if_pos rfl]
        exact ⟨rfl, rfl⟩
    · rw [if_neg h]
      have h1 : s.refused i = true := by unfold St.refused; simp [h]
      have h2 : s.rev.refused (-1) = true := by unfold St.refused; simp
      rw [h1, h2, if_pos rfl, if_pos rfl, if_pos rfl, if_pos rfl]
      exact ⟨rfl, rfl⟩
  · unfold St.doS St.doE turnC
    simp only [if_true]
    by_cases h : i < 0
    · rw [if_pos h, if_pos h, if_pos h, if_pos h]; exact ⟨rfl, rfl⟩
    · rw [if_neg h, if_neg h, if_neg h, if_neg h, tickE_turn]
      exact tick_rev s i
theorem raws_rev {t : Int} {rs : List Rul} {ls : List (List UInt8)} (h : ls.length = rs.length) : raws t rs.reverse ls.reverse = (raws t rs ls).reverse := by
  unfold raws
  rw [List.reverse_zipWith (by omega)]
theorem new_rev {t d : Int} {rs : List Rul} {ls : List (List UInt8)} (h : ls.length = rs.length) : St.new t d rs.reverse ls.reverse = (St.new t d rs ls).rev := by
  have e : begun t rs.reverse ls.reverse = (begun t rs ls).reverse := by
    unfold begun
    rw [raws_rev h, List.map_reverse]
  unfold St.new St.rev
  rw [e, further_rev]
/-- How many faults there are at the beginning. -/
theorem faultsTo_eq (ps : List Pt) : ∀ k, k ≤ ps.length → (faultsTo ps k).length = ((ps.take k).map fun p => (faults p 0).length).sum
  | 0, _ => by simp [faultsTo]
  | k + 1, hk => by
    show (faultsTo ps k ++ faults (pat ps k) k).length = _
    rw [List.length_append, faultsTo_eq ps k (by omega), List.take_succ_eq_append_getElem (show k < ps.length by omega), List.map_append, List.sum_append, ← pat_lt (by omega)]
    congr 1
    rw [List.map_cons, List.map_nil, List.sum_cons, List.sum_nil, Nat.add_zero]
    unfold faults
    by_cases h1 : (pat ps k).read < (pat ps k).recs.length
    · rw [if_pos h1, if_pos h1]
    · rw [if_neg h1, if_neg h1]
      by_cases h2 : (pat ps k).err = 0
      · rw [if_pos h2, if_pos h2]
      · rw [if_neg h2, if_neg h2]; rfl
theorem sum_rev (l : List Nat) : l.reverse.sum = l.sum := by
  induction l with
  | nil => rfl
  | cons x l ih => rw [List.reverse_cons, List.sum_append, ih, List.sum_cons]; simp; omega
theorem newE_rev {t : Int} {rs : List Rul} {ls : List (List UInt8)} (h : ls.length = rs.length) : (St.newE t rs.reverse ls.reverse).length = (St.newE t rs ls).length := by
  have hl := raws_len (t := t) h
  unfold St.newE
  have e : begun t rs.reverse ls.reverse = (begun t rs ls).reverse := by
    unfold begun
    rw [raws_rev h, List.map_reverse]
  rw [e, marksE_rev, raws_rev h, List.length_append, List.length_append, List.length_reverse, faultsTo_eq _ _ (by rw [List.length_reverse]; omega), faultsTo_eq _ _ (by omega)]
  congr 1
  rw [List.take_of_length_le (by rw [List.length_reverse]; omega), List.take_of_length_le (by omega), List.map_reverse, sum_rev]
end Go.Proofs.YtmimfkhkilijcaaGreat

/- Plain facts: the marks of those partitions that are so, and the least of them. -/
namespace Go.Proofs.YtmimfkhkilijcaaGreat
set_option maxRecDepth 4000
open PHist PRing PSat PClamp PBound PFrame PSign PTree PEv
set_option linter.unusedVariables false

/-- The marks of the first k of those that are so. -/
def marksTo (ps : List Pt) (q : Int) : Nat → List Int
  | 0 => []
  | k + 1 => if ss ps k = q then marksTo ps q k ++ [kk ps k] else marksTo ps q k
def minOf : List Int → Int
  | [] => 0
  | x :: l => l.foldl min x
theorem minOf_snoc (l : List Int) (x : Int) : minOf (l ++ [x]) = if l = [] then x else min (minOf l) x := by
  cases l with
  | nil => rfl
  | cons y l =>
    rw [if_neg (by simp)]
    show (l ++ [x]).foldl min y = _
    rw [List.foldl_append]; rfl
theorem minOf_take (l : List Int) (k : Nat) (h0 : 0 < k) (hk : k < l.length) : minOf (l.take (k + 1)) = min (minOf (l.take k)) l[k] := by
  rw [List.take_succ_eq_append_getElem hk, minOf_snoc, if_neg]
  intro h
  have := congrArg List.length h
  rw [List.length_take, List.length_nil] at this
  omega
theorem minOf_one (l : List Int) (h : 0 < l.length) : minOf (l.take 1) = l[0] := by
  cases l with
  | nil => cases h
  | cons x l => rfl
theorem marksTo_len (ps : List Pt) (q : Int) : ∀ k, (marksTo ps q k).length ≤ k
  | 0 => Nat.le_refl _
  | k + 1 => by
    have := marksTo_len ps q k
    unfold marksTo
    split
    · rw [List.length_append]; simp; omega
    · omega
theorem scan_marks (ps : List Pt) (q : Int) : ∀ k, (scan (kk ps) (oa (ss ps) q) k).2.2 = decide (marksTo ps q k ≠ []) ∧ (marksTo ps q k ≠ [] → (scan (kk ps) (oa (ss ps) q) k).1 = minOf (marksTo ps q k))
  | 0 => ⟨rfl, fun h => absurd rfl h⟩
  | k + 1 => by
    obtain ⟨h1, h2⟩ := scan_marks ps q k
    unfold scan marksTo
    by_cases e : ss ps k = q
    · have eo : oa (ss ps) q k = false := by unfold oa; exact decide_eq_false (by simpa using e)
      rw [if_pos e, minOf_snoc]
      by_cases hm : marksTo ps q k = []
      · rw [if_pos hm]
        have h3 : (scan (kk ps) (oa (ss ps) q) k).2.2 = false := by rw [h1, hm]; rfl
        rw [if_pos ⟨eo, .inl h3⟩]
        exact ⟨by simp, fun _ => rfl⟩
      · rw [if_neg hm]
        have h3 : (scan (kk ps) (oa (ss ps) q) k).2.2 = true := by rw [h1]; exact decide_eq_true hm
        have h4 := h2 hm
        rw [h4]
        by_cases hl : kk ps k < minOf (marksTo ps q k)
        · rw [if_pos ⟨eo, .inr hl⟩]
          exact ⟨by simp, fun _ => by show kk ps k = _; omega⟩
        · rw [if_neg (by rintro ⟨-, h | h⟩; · rw [h3] at h; cases h
                         · exact hl h)]
          exact ⟨by rw [h3]; simp, fun _ => by rw [h4]; omega⟩
    · have eo : oa (ss ps) q k = true := by unfold oa; exact decide_eq_true (by simpa using e)
      rw [if_neg e, if_neg (by rintro ⟨h, -⟩; rw [eo] at h; cases h)]
      exact ⟨h1, h2⟩
/-- The least one. -/
theorem least_marks (ps : List Pt) : least ps = if marksTo ps 0 ps.length ≠ [] then minOf (marksTo ps 0 ps.length) else if marksTo ps 1 ps.length ≠ [] then minOf (marksTo ps 1 ps.length) else 9223372036854775807 := by
  unfold least ml mlo
  obtain ⟨a1, a2⟩ := scan_marks ps 0 ps.length
  obtain ⟨b1, b2⟩ := scan_marks ps 1 ps.length
  by_cases h0 : marksTo ps 0 ps.length = []
  · have d0 : decide (marksTo ps 0 ps.length ≠ []) = false := decide_eq_false (fun h => h h0)
    rw [a1, d0, if_neg Bool.false_ne_true, if_neg (fun h : marksTo ps 0 ps.length ≠ [] => h h0)]
    by_cases h1 : marksTo ps 1 ps.length = []
    · have d1 : decide (marksTo ps 1 ps.length ≠ []) = false := decide_eq_false (fun h => h h1)
      rw [b1, d1, if_neg Bool.false_ne_true, if_neg (fun h : marksTo ps 1 ps.length ≠ [] => h h1)]
    · have d1 : decide (marksTo ps 1 ps.length ≠ []) = true := decide_eq_true h1
      rw [b1, d1, if_pos rfl, if_pos h1]
      exact b2 h1
  · have d0 : decide (marksTo ps 0 ps.length ≠ []) = true := decide_eq_true h0
    rw [a1, d0, if_pos rfl, if_pos h0]
    exact a2 h0
/-- The first q of them went on. -/
def wq (f : Pt → Pt) : List Pt → Nat → List Pt
  | ps, 0 => ps
  | [], _ + 1 => []
  | p :: ps, q + 1 => f p :: wq f ps q
theorem wq_zero (f : Pt → Pt) : ∀ ps : List Pt, wq f ps 0 = ps
  | [] => rfl
  | _ :: _ => rfl
theorem wq_all (f : Pt → Pt) : ∀ ps : List Pt, wq f ps ps.length = ps.map f
  | [] => rfl
  | p :: ps => by
    show f p :: wq f ps ps.length = _
    rw [wq_all f ps]; rfl
theorem wq_len (f : Pt → Pt) : ∀ (ps : List Pt) (q : Nat), (wq f ps q).length = ps.length
  | [], 0 => rfl
  | [], _ + 1 => rfl
  | _ :: _, 0 => rfl
  | p :: ps, q + 1 => by
    show (f p :: wq f ps q).length = _
    rw [List.length_cons, wq_len f ps q, List.length_cons]
theorem wq_at (f : Pt → Pt) : ∀ (ps : List Pt) (q : Nat) (h : q < ps.length), (wq f ps q)[q]? = some ps[q]
  | p :: ps, 0, _ => rfl
  | p :: ps, q + 1, h => wq_at f ps q (by simpa using h)
theorem wq_set (f : Pt → Pt) : ∀ (ps : List Pt) (q : Nat) (h : q < ps.length), (wq f ps q).set q (f ps[q]) = wq f ps (q + 1)
  | p :: ps, 0, _ => by
    show f p :: ps = f p :: wq f ps 0
    rw [wq_zero]
  | p :: ps, q + 1, h => by
    have h' : q < ps.length := by simpa using h
    show f p :: (wq f ps q).set q (f (ps[q]'h')) = f p :: wq f ps (q + 1)
    rw [wq_set f ps q h']
theorem wq_same (f : Pt → Pt) : ∀ (ps : List Pt) (q : Nat) (h : q < ps.length), f ps[q] = ps[q] → wq f ps (q + 1) = wq f ps q
  | p :: ps, 0, _, hf => by
    show f p :: wq f ps 0 = p :: ps
    rw [wq_zero]
    have hf : f p = p := hf
    rw [hf]
  | p :: ps, q + 1, h, hf => by
    show f p :: wq f ps (q + 1) = f p :: wq f ps q
    rw [wq_same f ps q (by simpa using h) hf]
end Go.Proofs.YtmimfkhkilijcaaGreat
