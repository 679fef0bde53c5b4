/- KJuP: what is reached of them. -/
import Derived.Test.YtmimfkhkilijcaaGreatDoorWq26
import Derived.Test.YtmimfkhkilijcaaGreatDoorWq12
set_option linter.unusedVariables false
set_option linter.unusedSimpArgs false
set_option maxRecDepth 100000
set_option maxHeartbeats 8000000
namespace Go.Proofs.YtmimfkhkilijcaaGreatDoor
open Go.ChangeShapes Go.WideShapes Go.ChangeAt Go.RowKit
open PHist PRing PSat PClamp PBound PFrame PSign PTree PEv
def nvr : Int:=-9223372036854775808
def markOf (m : Int) : Ev→Int
  | .mark n=>n
  | .el _ _ _ _ _=>m
  | .fault _ _=>m
def lastFrom (m : Int) (l : List Ev) : Int:=l.foldl markOf m
theorem lastFrom_append (m : Int) (a b : List Ev) : lastFrom m (a++b)=lastFrom (lastFrom m a) b:=List.foldl_append ..
def risesAt : Int→List Ev→Bool
  | _,[]=>true
  | m,.mark n::l=>decide (m<n) && risesAt n l
  | m,.el _ _ _ _ _::l=>risesAt m l
  | m,.fault _ _::l=>risesAt m l
def lateT (m t : Int) : Bool:=decide (m≠-9223372036854775808∧t≤m)
def taggedAt : Int→List Ev→Bool
  | _,[]=>true
  | _,.mark n::l=>taggedAt n l
  | m,.el late _ _ t _::l=>(late == lateT m t) && taggedAt m l
  | m,.fault _ _::l=>taggedAt m l
theorem risesAt_append : ∀ (a b : List Ev) (m : Int),risesAt m (a++b)=(risesAt m a && risesAt (lastFrom m a) b)
  | [],b,m=>by simp [risesAt,lastFrom]
  | .mark n::a,b,m=>by
    show (decide (m<n) && risesAt n (a++b))=((decide (m<n) && risesAt n a) && risesAt (lastFrom n a) b)
    rw [risesAt_append a b n,Bool.and_assoc]
  | .el _ _ _ _ _::a,b,m=>risesAt_append a b m
  | .fault _ _::a,b,m=>risesAt_append a b m
theorem taggedAt_append : ∀ (a b : List Ev) (m : Int),taggedAt m (a++b)=(taggedAt m a && taggedAt (lastFrom m a) b)
  | [],b,m=>by simp [taggedAt,lastFrom]
  | .mark n::a,b,m=>taggedAt_append a b n
  | .el late p k t x::a,b,m=>by
    show ((late == lateT m t) && taggedAt m (a++b))=(((late == lateT m t) && taggedAt m a) && taggedAt (lastFrom m a) b)
    rw [taggedAt_append a b m,Bool.and_assoc]
  | .fault _ _::a,b,m=>taggedAt_append a b m
def Ev.lateB : Ev→Bool
  | .el late _ _ _ _=>late
  | .mark _=>false
  | .fault _ _=>false
def lates (l : List Ev) : Nat:=(l.filter Ev.lateB).length
theorem lates_append (a b : List Ev) : lates (a++b)=lates a+lates b:=by unfold lates;rw [List.filter_append,List.length_append]
theorem lates_le (l : List Ev) : lates l≤l.length:=List.length_filter_le _ _
theorem marksE_good (now : Int) (ps : List Pt) : risesAt now (marksE now ps)=true∧taggedAt now (marksE now ps)=true∧lastFrom now (marksE now ps)=further now ps:=by
  unfold marksE further
  by_cases h : least ps≤now
  · rw [if_pos h,if_pos h];exact ⟨rfl,rfl,rfl⟩
  · rw [if_neg h,if_neg h]
    refine ⟨?_,rfl,rfl⟩
    show (decide (now<least ps) && true)=true
    rw [decide_eq_true (by omega)];rfl
theorem faults_good (m : Int) (p : Pt) (i : Nat) : risesAt m (faults p i)=true∧taggedAt m (faults p i)=true∧lastFrom m (faults p i)=m:=by
  unfold faults
  split
  · exact ⟨rfl,rfl,rfl⟩
  · split
    · exact ⟨rfl,rfl,rfl⟩
    · exact ⟨rfl,rfl,rfl⟩
structure Good (m : Int) (l : List Ev) (m' : Int) : Prop where
  rises : risesAt m l=true
  tagged : taggedAt m l=true
  last : lastFrom m l=m'
theorem Good.append {m m' m2 : Int} {a b : List Ev} (h : Good m a m') (k : Good m' b m2) : Good m (a++b) m2 :=
  ⟨by rw [risesAt_append,h.rises,h.last,k.rises];rfl,by rw [taggedAt_append,h.tagged,h.last,k.tagged];rfl,by rw [lastFrom_append,h.last,k.last]⟩
theorem good_marks (now : Int) (ps : List Pt) : Good now (marksE now ps) (further now ps):=⟨(marksE_good now ps).1,(marksE_good now ps).2.1,(marksE_good now ps).2.2⟩
theorem good_faults (m : Int) (p : Pt) (i : Nat) : Good m (faults p i) m:=⟨(faults_good m p i).1,(faults_good m p i).2.1,(faults_good m p i).2.2⟩
theorem good_nil (m : Int) : Good m [] m:=⟨rfl,rfl,rfl⟩
theorem good_faultsTo (m : Int) (ps : List Pt) : ∀ k,Good m (faultsTo ps k) m
  | 0=>good_nil m
  | k+1=>(good_faultsTo m ps k).append (good_faults m _ k)
theorem good_do (s : St) (x : Bool×Int) : Good s.now (s.doE x) (s.doS x).now:=by
  unfold St.doE St.doS
  split
  · split
    · exact good_nil _
    · exact good_marks _ _
  · split
    · exact good_nil _
    · unfold St.pollE
      refine Good.append (m':=s.now) (a:=[_]) ⟨rfl,?_,rfl⟩ ((good_faults _ _ _).append (good_marks _ _))
      show ((lateOf _ _ == lateT _ _) && true)=true
      rw [Bool.and_true,beq_iff_eq]
      rfl
theorem good_run : ∀ (l : List (Bool×Int)) (s : St),Good s.now (s.runE l) (s.run l).now
  | [],s=>good_nil _
  | x::l,s=>(good_do s x).append (good_run l (s.doS x))
theorem good_new (t d : Int) (rs : List Rul) (ls : List (List UInt8)) : Good nvr (St.newE t rs ls) (St.new t d rs ls).now :=
  (good_faultsTo nvr _ _).append (good_marks _ _)
theorem good_all (t d : Int) (rs : List Rul) (ls : List (List UInt8)) (cs : List (Bool×Int)) : Good nvr (St.newE t rs ls++(St.new t d rs ls).runE cs) ((St.new t d rs ls).run cs).now :=
  (good_new t d rs ls).append (good_run cs _)
structure Crs where
  left : Nat→List R
  over : Int→Bool
def putI (f : Int→Bool) (i : Int) : Int→Bool:=fun j=>if j=i then true else f j
def Crs.goesOn (c : Crs) (n : Nat) (i : Int) : Bool:=decide (0≤i∧i<n) && !c.over i
def Crs.mayE (c : Crs) (n : Nat) (p : Int) (r : R) : Bool:=c.goesOn n p && decide ((c.left p.toNat).head? = some r)
def Crs.mayF (c : Crs) (n : Nat) (er : Nat→Nat) (p e : Int) : Bool:=c.goesOn n p && decide (er p.toNat≠0∧(er p.toNat : Int)=e∧c.left p.toNat=[])
def Crs.el (c : Crs) (p : Int) : Crs:=⟨put c.left p.toNat (c.left p.toNat).tail,c.over⟩
def Crs.fl (c : Crs) (p : Int) : Crs:=⟨c.left,putI c.over p⟩
def Crs.one (n : Nat) (er : Nat→Nat) (c : Crs) : Ev→Option Crs
  | .mark _=>some c
  | .el _ p k t x=>if c.mayE n p (k,t,x) then some (c.el p) else none
  | .fault p e=>if c.mayF n er p e then some (c.fl p) else none
def Crs.all (n : Nat) (er : Nat→Nat) : Crs→List Ev→Option Crs
  | c,[]=>some c
  | c,e::l=>match c.one n er e with
    | none=>none
    | some c'=>c'.all n er l
theorem all_cons (n : Nat) (er : Nat→Nat) (c : Crs) (e : Ev) (l : List Ev) : c.all n er (e::l)=(c.one n er e).bind fun c'=>c'.all n er l:=by
  show (match c.one n er e with|none=>none|some c'=>c'.all n er l)=_
  cases c.one n er e <;> rfl
theorem all_append (n : Nat) (er : Nat→Nat) : ∀ (a b : List Ev) (c : Crs),c.all n er (a++b)=(c.all n er a).bind fun c'=>c'.all n er b
  | [],b,c=>rfl
  | e::a,b,c=>by
    rw [List.cons_append,all_cons,all_cons]
    cases h : c.one n er e with
    | none=>rfl
    | some c'=>exact all_append n er a b c'
abbrev Lg:=List R×Nat
def lgAt (ls : List Lg) (i : Nat) : Lg:=ls.getD i ([],0)
def Crs.start (ls : List Lg) : Crs:=⟨fun i=>(lgAt ls i).1,fun _=>false⟩
def erOf (ls : List Lg) (i : Nat) : Nat:=(lgAt ls i).2
def keptB (ls : List Lg) (l : List Ev) : Bool:=((Crs.start ls).all ls.length (erOf ls) l).isSome
def lgOf (s : List UInt8) : Lg:=((parse s).1,(parse s).2.2)
def Pt.Fin (p : Pt) : Prop:=2≤p.is→p.is=if p.err=0 then 2 else 3
theorem settled_fin (p : Pt) (h : p.is<2) : (settled p).Fin:=by
  unfold settled Pt.Fin
  split
  · intro h2;omega
  · intro _;rfl
theorem wait_fin {p : Pt} (h : p.Fin) (c : Int) : (p.wait c).Fin:=by
  unfold Pt.wait
  split
  · intro h2
    have h2' : (2 : Int)≤1:=h2
    omega
  · exact h
structure Goes (s : St) (c : Crs) : Prop where
  left : ∀ i,i<s.ps.length→c.left i=(pat s.ps i).recs.drop (pat s.ps i).read
  over : ∀ i,i<s.ps.length→c.over (i : Int)=decide ((pat s.ps i).is=3)
  fin : ∀ i,i<s.ps.length→(pat s.ps i).Fin
def errs (ps : List Pt) (i : Nat) : Nat:=(pat ps i).err
theorem all_marks (n : Nat) (er : Nat→Nat) (c : Crs) (now : Int) (ps : List Pt) : c.all n er (marksE now ps)=some c:=by
  unfold marksE
  split <;> rfl
theorem drop_head {l : List R} {k : Nat} (h : k<l.length) : (l.drop k).head? = some (l.getD k zr)∧(l.drop k).tail=l.drop (k+1):=by
  rw [List.drop_eq_getElem_cons h]
  refine ⟨?_,rfl⟩
  rw [List.getD_eq_getElem?_getD,List.getElem?_eq_getElem h]
  rfl
theorem goes_poll {s : St} (h : s.Ok) {c : Crs} (hg : Goes s c) {er : Nat→Nat} (he : ∀ i,i<s.ps.length→er i=errs s.ps i) {i : Nat} (hi : i<s.ps.length) (hr : (pat s.ps i).read<(pat s.ps i).recs.length) (his : ss s.ps i<2) :
    ∃ c',c.all s.ps.length er (s.pollE i)=some c'∧Goes (s.pollS i) c':=by
  have hq : recAt (pat s.ps i)=(pat s.ps i).recs.getD (pat s.ps i).read zr:=rfl
  obtain ⟨d1,d2⟩:=drop_head hr
  have his' : (pat s.ps i).is<2:=his
  have hov : c.over (i : Int)=false:=by rw [hg.over i hi];exact decide_eq_false (by omega)
  have hgo : c.goesOn s.ps.length (i : Int)=true:=by
    unfold Crs.goesOn
    rw [hov,decide_eq_true ⟨by omega,by omega⟩];rfl
  have hmay : c.mayE s.ps.length (i : Int) ((recAt (pat s.ps i)).1,(recAt (pat s.ps i)).2.1,(recAt (pat s.ps i)).2.2)=true:=by
    unfold Crs.mayE
    rw [hgo,Int.toNat_natCast,hg.left i hi,d1]
    simp [hq]
  have hone : c.one s.ps.length er (Ev.el (lateOf s.now (recAt (pat s.ps i))) i (recAt (pat s.ps i)).1 (recAt (pat s.ps i)).2.1 (recAt (pat s.ps i)).2.2)=some (c.el i):=by
    show (if _ then _ else _)=_
    rw [if_pos hmay]
  have hpl : (s.pollS i).ps=s.ps.set i (settled ((pat s.ps i).gone (add s.clock s.timeout))):=rfl
  have hlen : (s.pollS i).ps.length=s.ps.length:=by rw [hpl,List.length_set]
  have hpat : pat (s.pollS i).ps=put (pat s.ps) i (settled ((pat s.ps i).gone (add s.clock s.timeout))):=by rw [hpl,pat_set hi]
  generalize hq2 : (pat s.ps i).gone (add s.clock s.timeout)=q at *
  have q1 : q.recs=(pat s.ps i).recs:=by rw [← hq2];rfl
  have q2 : q.read=(pat s.ps i).read+1:=by rw [← hq2];rfl
  have q3 : q.is=0:=by rw [← hq2];rfl
  have q4 : q.err=(pat s.ps i).err:=by rw [← hq2];rfl
  have s1 : (settled q).recs=q.recs∧(settled q).read=q.read∧(settled q).err=q.err:=by unfold settled;split <;> exact ⟨rfl,rfl,rfl⟩
  have hleft : ∀ j,j<s.ps.length→(c.el i).left j=(pat (s.pollS i).ps j).recs.drop (pat (s.pollS i).ps j).read:=by
    intro j hj
    rw [hpat]
    show put c.left _ _ j=_
    rw [Int.toNat_natCast]
    unfold put
    by_cases e : j=i
    · subst e
      rw [if_pos rfl,if_pos rfl,s1.1,s1.2.1,q1,q2,hg.left j hj,d2]
    · rw [if_neg e,if_neg e]
      exact hg.left j hj
  have hfin : ∀ j,j<s.ps.length→(pat (s.pollS i).ps j).Fin:=by
    intro j hj
    rw [hpat]
    unfold put
    by_cases e : j=i
    · rw [if_pos e];exact settled_fin q (by omega)
    · rw [if_neg e];exact hg.fin j hj
  unfold St.pollE
  rw [hq2,all_cons,hone]
  show ∃ c',(c.el i).all s.ps.length er (faults q i++marksE s.now (s.polled i))=some c'∧_
  rw [all_append]
  have hisj : ∀ j,j<s.ps.length→j≠i→(pat (s.pollS i).ps j)=pat s.ps j:=fun j hj e=>by rw [hpat];unfold put;rw [if_neg e]
  have hisi : pat (s.pollS i).ps i=settled q:=by rw [hpat];unfold put;rw [if_pos rfl]
  by_cases hrd : q.read<q.recs.length
  · have hf : faults q i=[]:=by unfold faults;rw [if_pos hrd]
    have hs : settled q=q:=by unfold settled;rw [if_pos hrd]
    refine ⟨c.el i,?_,⟨fun j hj=>hleft j (by omega),fun j hj=>?_,fun j hj=>hfin j (by omega)⟩⟩
    · rw [hf]
      exact all_marks _ _ _ _ _
    · rw [hlen] at hj
      show c.over j=_
      by_cases e : j=i
      · subst e
        rw [hisi,hs,q3,hov];rfl
      · rw [hisj j hj e];exact hg.over j hj
  · by_cases her : q.err=0
    · have hf : faults q i=[]:=by unfold faults;rw [if_neg hrd,if_pos her]
      have hs : (settled q).is=2:=by unfold settled;rw [if_neg hrd,if_pos her]
      refine ⟨c.el i,?_,⟨fun j hj=>hleft j (by omega),fun j hj=>?_,fun j hj=>hfin j (by omega)⟩⟩
      · rw [hf]
        exact all_marks _ _ _ _ _
      · rw [hlen] at hj
        show c.over j=_
        by_cases e : j=i
        · subst e
          rw [hisi,hs,hov];rfl
        · rw [hisj j hj e];exact hg.over j hj
    · have hf : faults q i=[.fault i q.err]:=by unfold faults;rw [if_neg hrd,if_neg her]
      have hs : (settled q).is=3:=by unfold settled;rw [if_neg hrd,if_neg her]
      have hlq : (c.el i).left i=[]:=by
        rw [hleft i hi,hisi,s1.1,s1.2.1]
        exact List.drop_of_length_le (by omega)
      have hone2 : (c.el i).one s.ps.length er (.fault i q.err)=some ((c.el i).fl i):=by
        show (if _ then _ else _)=_
        rw [if_pos]
        unfold Crs.mayF
        have g2 : (c.el i).goesOn s.ps.length (i : Int)=true:=hgo
        rw [g2,Int.toNat_natCast,hlq,he i hi]
        unfold errs
        rw [← q4]
        simp [her]
      refine ⟨(c.el i).fl i,?_,⟨fun j hj=>hleft j (by omega),fun j hj=>?_,fun j hj=>hfin j (by omega)⟩⟩
      · rw [hf,all_cons,hone2]
        exact all_marks _ _ _ _ _
      · rw [hlen] at hj
        show (if (j : Int)=i then true else c.over j)=_
        by_cases e : j=i
        · subst e
          rw [if_pos rfl,hisi,hs];rfl
        · rw [if_neg (by omega),hisj j hj e];exact hg.over j hj
theorem goes_tick {s : St} {c : Crs} (hg : Goes s c) (by_ : Int) : Goes (s.tickS by_) c:=by
  have e : ∀ i,i<s.ps.length→pat (s.tickS by_).ps i=(pat s.ps i).wait (add s.clock by_):=fun i hi=>pat_map hi
  have w1 : ∀ (p : Pt) (cl : Int),(p.wait cl).recs=p.recs∧(p.wait cl).read=p.read∧decide ((p.wait cl).is=3)=decide (p.is=3):=by
    intro p cl
    unfold Pt.wait
    split
    · next h=>exact ⟨rfl,rfl,by show decide ((1 : Int)=3)=_;rw [h.1];rfl⟩
    · exact ⟨rfl,rfl,rfl⟩
  have hl : (s.tickS by_).ps.length=s.ps.length:=by show (s.ps.map _).length=_;rw [List.length_map]
  refine ⟨fun i hi=>?_,fun i hi=>?_,fun i hi=>?_⟩
  · rw [hl] at hi
    rw [e i hi,(w1 _ _).1,(w1 _ _).2.1];exact hg.left i hi
  · rw [hl] at hi
    rw [e i hi,(w1 _ _).2.2];exact hg.over i hi
  · rw [hl] at hi
    rw [e i hi];exact wait_fin (hg.fin i hi) _
theorem errs_do (s : St) (x : Bool×Int) (i : Nat) (hi : i<s.ps.length) : errs (s.doS x).ps i=errs s.ps i:=by
  unfold St.doS
  split
  · split
    · rfl
    · show (pat (s.ps.map _) i).err=_
      rw [pat_map hi]
      show ((pat s.ps i).wait _).err=_
      unfold Pt.wait
      split <;> rfl
  · split
    · rfl
    · next hr =>
      rw [Bool.not_eq_true] at hr
      have hx:=(refused_not hr).2.1
      show (pat (s.ps.set _ _) i).err=_
      rw [pat_set hx]
      unfold put
      split
      · next e =>
        subst e
        unfold settled errs
        split <;> rfl
      · rfl
theorem goes_do {s : St} (h : s.Ok) {c : Crs} (hg : Goes s c) {er : Nat→Nat} (he : ∀ i,i<s.ps.length→er i=errs s.ps i) (x : Bool×Int) :
    ∃ c',c.all s.ps.length er (s.doE x)=some c'∧Goes (s.doS x) c':=by
  unfold St.doE St.doS
  split
  · split
    · exact ⟨c,rfl,hg⟩
    · exact ⟨c,all_marks _ _ _ _ _,goes_tick hg _⟩
  · split
    · exact ⟨c,rfl,hg⟩
    · next hr =>
      rw [Bool.not_eq_true] at hr
      have h1:=refused_not hr
      exact goes_poll h hg he h1.2.1 (refused_read h hr) (by omega)
theorem goes_run : ∀ (l : List (Bool×Int)) {s : St} (h : s.Ok) {c : Crs} (hg : Goes s c) {er : Nat→Nat} (he : ∀ i,i<s.ps.length→er i=errs s.ps i),
    ∃ c',c.all s.ps.length er (s.runE l)=some c'∧Goes (s.run l) c'
  | [],s,h,c,hg,er,he=>⟨c,rfl,hg⟩
  | x::l,s,h,c,hg,er,he=>by
    obtain ⟨c1,h1,g1⟩:=goes_do h hg he x
    obtain ⟨c2,h2,g2⟩:=goes_run l (h.do x) g1 (er:=er) (fun i hi=>by rw [doS_len] at hi;rw [errs_do s x i hi];exact he i hi)
    rw [doS_len] at h2
    refine ⟨c2,?_,g2⟩
    show c.all s.ps.length er (s.doE x++(s.doS x).runE l)=_
    rw [all_append,h1]
    exact h2
theorem goes_faults (ps : List Pt) (hraw : ∀ i,i<ps.length→(pat ps i).read=0∧(pat ps i).is=0) {er : Nat→Nat} (he : ∀ i,i<ps.length→er i=errs ps i) (c : Crs) (hl : ∀ i,i<ps.length→c.left i=(pat ps i).recs) (ho : ∀ i,c.over i=false) :
    ∀ k,k≤ps.length→∃ c',c.all ps.length er (faultsTo ps k)=some c'∧c'.left=c.left∧(∀ i,i<ps.length→c'.over (i : Int)=(decide (i<k) && decide ((settled (pat ps i)).is=3)))
  | 0,_=>⟨c,rfl,rfl,fun i hi=>by rw [ho,decide_eq_false (by omega)];rfl⟩
  | k + 1, hk => by
    obtain ⟨c1,h1,h2,h3⟩:=goes_faults ps hraw he c hl ho k (by omega)
    have hkl : k<ps.length:=by omega
    obtain ⟨r0,r1⟩:=hraw k hkl
    show ∃ c',c.all ps.length er (faultsTo ps k++faults (pat ps k) k)=some c'∧_
    rw [all_append,h1]
    show ∃ c',c1.all ps.length er (faults (pat ps k) k)=some c'∧_
    have hstep : ∀ (b : Bool),decide ((settled (pat ps k)).is=3)=b→∀ i,i<ps.length→i≠k→(decide (i<k) && decide ((settled (pat ps i)).is=3))=(decide (i<k+1) && decide ((settled (pat ps i)).is=3)):=by
      intro b hb i hi e
      have he2 : decide (i<k)=decide (i<k+1):=decide_eq_decide.2 (by omega)
      rw [he2]
    by_cases hf : faults (pat ps k) k=[]
    · rw [hf]
      refine ⟨c1,rfl,h2,fun i hi=>?_⟩
      rw [h3 i hi]
      by_cases e : i=k
      · subst e
        have hs : ¬ (settled (pat ps i)).is=3:=by
          unfold faults at hf
          unfold settled
          by_cases hr : (pat ps i).read<(pat ps i).recs.length
          · rw [if_pos hr];omega
          · rw [if_neg hr] at hf ⊢
            by_cases hz : (pat ps i).err=0
            · rw [if_pos hz]
              show ¬ (2 : Int)=3;omega
            · rw [if_neg hz] at hf;cases hf
        rw [decide_eq_false hs,Bool.and_false,Bool.and_false]
      · exact hstep _ rfl i hi e
    · have hr : ¬ (pat ps k).read<(pat ps k).recs.length:=fun hr=>hf (by unfold faults;rw [if_pos hr])
      have hz : ¬ (pat ps k).err=0:=fun hz=>hf (by unfold faults;rw [if_neg hr,if_pos hz])
      have hfe : faults (pat ps k) k=[.fault k (pat ps k).err]:=by unfold faults;rw [if_neg hr,if_neg hz]
      have hs : (settled (pat ps k)).is=3:=by unfold settled;rw [if_neg hr,if_neg hz]
      have hlk : c1.left k=[]:=by
        rw [h2,hl k hkl]
        exact List.eq_nil_of_length_eq_zero (by omega)
      have hok : c1.over (k : Int)=false:=by rw [h3 k hkl,decide_eq_false (by omega)];rfl
      have hone : c1.one ps.length er (.fault k (pat ps k).err)=some (c1.fl k):=by
        show (if _ then _ else _)=_
        rw [if_pos]
        unfold Crs.mayF Crs.goesOn
        rw [hok,decide_eq_true ⟨by omega,by omega⟩,Int.toNat_natCast,hlk,he k hkl]
        unfold errs
        simp [hz]
      refine ⟨c1.fl k,by rw [hfe,all_cons,hone];rfl,h2,fun i hi=>?_⟩
      show (if (i : Int)=k then true else c1.over i)=_
      by_cases e : i=k
      · subst e
        rw [if_pos rfl,hs,decide_eq_true (show i<i+1 by omega)];rfl
      · rw [if_neg (by omega),h3 i hi]
        exact hstep _ rfl i hi e
theorem lgAt_map {ls : List (List UInt8)} {i : Nat} (h : i<ls.length) : lgAt (ls.map lgOf) i=lgOf ls[i]:=by
  unfold lgAt
  rw [List.getD_eq_getElem?_getD,List.getElem?_map,List.getElem?_eq_getElem h]
  rfl
theorem raw_at {t : Int} {rs : List Rul} {ls : List (List UInt8)} (hn : ls.length=rs.length) (i : Nat) (hi : i<rs.length) : (pat (raws t rs ls) i).read=0∧(pat (raws t rs ls) i).is=0∧(pat (raws t rs ls) i).recs=(lgAt (ls.map lgOf) i).1∧(pat (raws t rs ls) i).err=(lgAt (ls.map lgOf) i).2∧(pat (raws t rs ls) i).rule=rs[i]:=by
  rw [raws_at hn i hi,lgAt_map (by omega)]
  exact ⟨rfl,rfl,rfl,rfl,rfl⟩
theorem begun_at {t d : Int} {rs : List Rul} {ls : List (List UInt8)} (hn : ls.length=rs.length) (i : Nat) (hi : i<rs.length) : pat (St.new t d rs ls).ps i=settled (pat (raws t rs ls) i):=by
  show pat ((raws t rs ls).map settled) i=_
  exact pat_map (by rw [raws_len hn];exact hi)
theorem settled_same (p : Pt) : (settled p).recs=p.recs∧(settled p).read=p.read∧(settled p).err=p.err∧(settled p).rule=p.rule:=by unfold settled;split <;> exact ⟨rfl,rfl,rfl,rfl⟩
theorem new_len {t d : Int} {rs : List Rul} {ls : List (List UInt8)} (hn : ls.length=rs.length) : (St.new t d rs ls).ps.length=rs.length:=by
  show ((raws t rs ls).map settled).length=_
  rw [List.length_map,raws_len hn]
theorem errs_new {t d : Int} {rs : List Rul} {ls : List (List UInt8)} (hn : ls.length=rs.length) (i : Nat) (hi : i<rs.length) : erOf (ls.map lgOf) i=errs (St.new t d rs ls).ps i:=by
  unfold erOf errs
  rw [begun_at hn i hi,(settled_same _).2.2.1,(raw_at hn i hi).2.2.2.1]
theorem goes_new {t d : Int} {rs : List Rul} {ls : List (List UInt8)} (hn : ls.length=rs.length) :
    ∃ c,(Crs.start (ls.map lgOf)).all rs.length (erOf (ls.map lgOf)) (St.newE t rs ls)=some c∧Goes (St.new t d rs ls) c:=by
  have hl : (raws t rs ls).length=rs.length:=raws_len hn
  obtain ⟨c,h1,h2,h3⟩:=goes_faults (raws t rs ls) (fun i hi=>⟨(raw_at hn i (by omega)).1,(raw_at hn i (by omega)).2.1⟩) (er:=erOf (ls.map lgOf)) (fun i hi=>(raw_at hn i (by omega)).2.2.2.1.symm) (Crs.start (ls.map lgOf)) (fun i hi=>(raw_at hn i (by omega)).2.2.1.symm) (fun _=>rfl) rs.length (by omega)
  rw [hl] at h1 h3
  have hnl:=new_len (t:=t) (d:=d) hn
  refine ⟨c,?_,⟨fun i hi=>?_,fun i hi=>?_,fun i hi=>?_⟩⟩
  · unfold St.newE
    rw [all_append,h1]
    exact all_marks _ _ _ _ _
  · rw [hnl] at hi
    rw [h2,begun_at hn i hi,(settled_same _).1,(settled_same _).2.1,(raw_at hn i hi).1,(raw_at hn i hi).2.2.1]
    rfl
  · rw [hnl] at hi
    rw [h3 i hi,begun_at hn i hi,decide_eq_true hi];rfl
  · rw [hnl] at hi
    rw [begun_at hn i hi]
    exact settled_fin _ (by rw [(raw_at hn i hi).2.1];omega)
theorem goes_all {t d : Int} {rs : List Rul} {ls : List (List UInt8)} (hn : ls.length=rs.length) (hok : (St.new t d rs ls).Ok) (cs : List (Bool×Int)) :
    ∃ c,(Crs.start (ls.map lgOf)).all (ls.map lgOf).length (erOf (ls.map lgOf)) (St.newE t rs ls++(St.new t d rs ls).runE cs)=some c∧Goes ((St.new t d rs ls).run cs) c:=by
  obtain ⟨c1,h1,g1⟩:=goes_new (t:=t) (d:=d) hn
  have hl:=new_len (t:=t) (d:=d) hn
  obtain ⟨c2,h2,g2⟩:=goes_run cs hok g1 (er:=erOf (ls.map lgOf)) (fun i hi=>errs_new hn i (by omega))
  rw [hl] at h2
  refine ⟨c2,?_,g2⟩
  rw [all_append,List.length_map,hn,h1]
  exact h2
theorem kept_true {t d : Int} {rs : List Rul} {ls : List (List UInt8)} (hn : ls.length=rs.length) (hok : (St.new t d rs ls).Ok) (cs : List (Bool×Int)) :
    keptB (ls.map lgOf) (St.newE t rs ls++(St.new t d rs ls).runE cs)=true:=by
  obtain ⟨c,h,_⟩:=goes_all hn hok cs
  unfold keptB
  rw [h];rfl
def rulAt (rs : List Rul) (i : Nat) : Rul:=rs.getD i ⟨0,0,0,0,0⟩
theorem rulAt_lt {rs : List Rul} {i : Nat} (h : i<rs.length) : rulAt rs i=rs[i]:=by
  unfold rulAt
  rw [List.getD_eq_getElem?_getD,List.getElem?_eq_getElem h];rfl
def seenE (f : Nat→List R) : Ev→Nat→List R
  | .el _ p k t x=>put f p.toNat (f p.toNat++[(k,t,x)])
  | .mark _=>f
  | .fault _ _=>f
def seenBy (f : Nat→List R) (l : List Ev) : Nat→List R:=l.foldl seenE f
def driftAt (rs : List Rul) (d : Int) : (Nat→List R)→Int→List Ev→Bool
  | _,_,[]=>true
  | f,_,.mark n::l=>driftAt rs d f n l
  | f,m,.fault _ _::l=>driftAt rs d f m l
  | f,m,.el _ p k t x::l=>decide (0≤p∧p<rs.length) && (decide (gnow (rulAt rs p.toNat) (f p.toNat)≤add m d) && driftAt rs d (put f p.toNat (f p.toNat++[(k,t,x)])) m l)
def rulesB (rs : List Rul) : Bool:=rs.all fun r=>decide (rcheck r=0)
def driftB (rs : List Rul) (d : Int) (l : List Ev) : Bool:=rulesB rs && driftAt rs d (fun _=>[]) (-9223372036854775808) l
theorem driftAt_append (rs : List Rul) (d : Int) : ∀ (a b : List Ev) (f : Nat→List R) (m : Int),driftAt rs d f m (a++b)=(driftAt rs d f m a && driftAt rs d (seenBy f a) (lastFrom m a) b)
  | [],b,f,m=>by simp [driftAt,lastFrom,seenBy]
  | .mark n::a,b,f,m=>driftAt_append rs d a b f n
  | .fault _ _::a,b,f,m=>driftAt_append rs d a b f m
  | .el late p k t x::a,b,f,m=>by
    show (_ && (_ && driftAt rs d _ m (a++b)))=((_ && (_ && driftAt rs d _ m a)) && _)
    rw [driftAt_append rs d a b _ m,Bool.and_assoc,Bool.and_assoc];rfl
theorem seenBy_append (f : Nat→List R) (a b : List Ev) : seenBy f (a++b)=seenBy (seenBy f a) b:=List.foldl_append ..
structure Sees (rs : List Rul) (d : Int) (s : St) (f : Nat→List R) : Prop where
  n : s.ps.length=rs.length
  d : s.drift=d
  rule : ∀ i,i<s.ps.length→(pat s.ps i).rule=rulAt rs i
  got : ∀ i,i<s.ps.length→f i=(pat s.ps i).got
theorem drift_faults (rs : List Rul) (d : Int) (f : Nat→List R) (m : Int) (p : Pt) (i : Nat) : driftAt rs d f m (faults p i)=true∧seenBy f (faults p i)=f:=by
  unfold faults
  split
  · exact ⟨rfl,rfl⟩
  · split <;> exact ⟨rfl,rfl⟩
theorem drift_marks (rs : List Rul) (d : Int) (f : Nat→List R) (m now : Int) (ps : List Pt) : driftAt rs d f m (marksE now ps)=true∧seenBy f (marksE now ps)=f:=by
  unfold marksE
  split <;> exact ⟨rfl,rfl⟩
theorem drift_faultsTo (rs : List Rul) (d : Int) (f : Nat→List R) (m : Int) (ps : List Pt) : ∀ k,driftAt rs d f m (faultsTo ps k)=true∧seenBy f (faultsTo ps k)=f
  | 0=>⟨rfl,rfl⟩
  | k+1=>by
    obtain ⟨h1,h2⟩:=drift_faultsTo rs d f m ps k
    show driftAt rs d f m (faultsTo ps k++faults (pat ps k) k)=true∧seenBy f (faultsTo ps k++faults (pat ps k) k)=f
    rw [driftAt_append,seenBy_append,h1,h2,(drift_faults rs d f _ _ _).1,(drift_faults rs d f m _ _).2]
    exact ⟨rfl,rfl⟩
theorem got_gone25 {p : Pt} (h : p.read<p.recs.length) (t : Int) : (settled (p.gone t)).got=p.got++[recAt p]:=by
  unfold Pt.got
  rw [(settled_same _).1,(settled_same _).2.1]
  show p.recs.take (p.read+1)=_
  rw [List.take_succ_eq_append_getElem h]
  congr 2
  unfold recAt
  rw [List.getD_eq_getElem?_getD,List.getElem?_eq_getElem h];rfl
theorem wait_same (p : Pt) (c : Int) : (p.wait c).recs=p.recs∧(p.wait c).read=p.read∧(p.wait c).rule=p.rule:=by
  unfold Pt.wait
  split <;> exact ⟨rfl,rfl,rfl⟩
theorem drift_do {rs : List Rul} {d : Int} {s : St} (h : s.Ok) {f : Nat→List R} (hs : Sees rs d s f) (x : Bool×Int) :
    driftAt rs d f s.now (s.doE x)=true∧Sees rs d (s.doS x) (seenBy f (s.doE x)):=by
  unfold St.doE St.doS
  split
  · split
    · exact ⟨rfl,hs⟩
    · unfold St.tickE
      obtain ⟨h1,h2⟩:=drift_marks rs d f s.now s.now (s.ticked (add s.clock x.2))
      rw [h1,h2]
      have hl : (s.tickS x.2).ps.length=s.ps.length:=by show (s.ps.map _).length=_;rw [List.length_map]
      refine ⟨rfl,⟨by rw [hl];exact hs.n,hs.d,fun i hi=>?_,fun i hi=>?_⟩⟩
      · rw [hl] at hi
        show (pat (s.ps.map _) i).rule=_
        rw [pat_map hi,(wait_same _ _).2.2];exact hs.rule i hi
      · rw [hl] at hi
        show f i=(pat (s.ps.map _) i).got
        rw [pat_map hi]
        unfold Pt.got
        rw [(wait_same _ _).1,(wait_same _ _).2.1];exact hs.got i hi
  · split
    · exact ⟨rfl,hs⟩
    · next hr =>
      rw [Bool.not_eq_true] at hr
      have hrd:=refused_read h hr
      obtain ⟨r1,r2,r3,r4⟩:=refused_not hr
      generalize x.2.toNat=i at *
      unfold St.pollE
      have hgot : f i=(pat s.ps i).got:=hs.got i r2
      have hrl : rulAt rs i=(pat s.ps i).rule:=(hs.rule i r2).symm
      have hmk : gnow (rulAt rs i) (f i)=kk s.ps i:=by rw [hgot,hrl];rfl
      have hin : (i : Nat)<rs.length:=by rw [← hs.n];exact r2
      have hse : seenBy f (Ev.el (lateOf s.now (recAt (pat s.ps i))) i (recAt (pat s.ps i)).1 (recAt (pat s.ps i)).2.1 (recAt (pat s.ps i)).2.2::(faults ((pat s.ps i).gone (add s.clock s.timeout)) i++marksE s.now (s.polled i)))=put f i (f i++[recAt (pat s.ps i)]):=by
        show seenBy (put f (i : Int).toNat (f (i : Int).toNat++[_])) (_++_)=_
        rw [Int.toNat_natCast,seenBy_append,(drift_faults rs d _ s.now _ _).2,(drift_marks rs d _ s.now _ _).2]
      refine ⟨?_,?_⟩
      · show (decide (0≤(i : Int)∧(i : Int)<rs.length) && (decide (gnow (rulAt rs (i : Int).toNat) (f (i : Int).toNat)≤add s.now d) && driftAt rs d _ s.now (_++_)))=true
        rw [Int.toNat_natCast,decide_eq_true ⟨by omega,by omega⟩,hmk,← hs.d,decide_eq_true r4,driftAt_append,(drift_faults rs _ _ s.now _ _).1,(drift_marks rs _ _ _ _ _).1]
        rfl
      · rw [hse]
        have hpl : (s.pollS i).ps=s.ps.set i (settled ((pat s.ps i).gone (add s.clock s.timeout))):=rfl
        have hl : (s.pollS i).ps.length=s.ps.length:=by rw [hpl,List.length_set]
        refine ⟨by rw [hl];exact hs.n,hs.d,fun j hj=>?_,fun j hj=>?_⟩
        · rw [hl] at hj
          rw [hpl,pat_set r2]
          unfold put
          by_cases e : j=i
          · subst e
            rw [if_pos rfl,(settled_same _).2.2.2];exact hs.rule j hj
          · rw [if_neg e];exact hs.rule j hj
        · rw [hl] at hj
          rw [hpl,pat_set r2]
          unfold put
          by_cases e : j=i
          · subst e
            rw [if_pos rfl,if_pos rfl,got_gone25 hrd,hgot]
          · rw [if_neg e,if_neg e];exact hs.got j hj
theorem drift_run {rs : List Rul} {d : Int} : ∀ (l : List (Bool×Int)) {s : St} (h : s.Ok) {f : Nat→List R} (hs : Sees rs d s f),driftAt rs d f s.now (s.runE l)=true
  | [],s,h,f,hs=>rfl
  | x::l,s,h,f,hs=>by
    obtain ⟨h1,h2⟩:=drift_do h hs x
    show driftAt rs d f s.now (s.doE x++(s.doS x).runE l)=true
    rw [driftAt_append,h1,(good_do s x).last,drift_run l (h.do x) h2];rfl
theorem drift_true {t d : Int} {rs : List Rul} {ls : List (List UInt8)} (hn : ls.length=rs.length) (hok : (St.new t d rs ls).Ok) (hr : ∀ r∈rs,rcheck r=0) (cs : List (Bool×Int)) :
    driftB rs d (St.newE t rs ls++(St.new t d rs ls).runE cs)=true:=by
  have hl:=new_len (t:=t) (d:=d) hn
  have hsees : Sees rs d (St.new t d rs ls) (fun _=>[]):=⟨hl,rfl,fun i hi=>by rw [hl] at hi;rw [begun_at hn i hi,(settled_same _).2.2.2,(raw_at hn i hi).2.2.2.2,rulAt_lt hi],fun i hi=>by
    rw [hl] at hi
    rw [begun_at hn i hi]
    unfold Pt.got
    rw [(settled_same _).2.1,(raw_at hn i hi).1];rfl⟩
  unfold driftB
  have h1 : driftAt rs d (fun _=>[]) (-9223372036854775808) (St.newE t rs ls)=true∧seenBy (fun _=>[]) (St.newE t rs ls)=fun _=>[]:=by
    unfold St.newE
    rw [driftAt_append,seenBy_append,(drift_faultsTo rs d _ _ _ _).1,(drift_faultsTo rs d _ nvr _ _).2,(drift_marks rs d _ _ _ _).1,(drift_marks rs d _ nvr _ _).2]
    exact ⟨rfl,rfl⟩
  rw [driftAt_append,h1.1,h1.2,show lastFrom (-9223372036854775808) (St.newE t rs ls)=(St.new t d rs ls).now from (good_new t d rs ls).last,drift_run cs hok hsees]
  rw [show rulesB rs=true from List.all_eq_true.2 fun r h=>decide_eq_true (hr r h)];rfl
def Fine (e : Ev) : Prop:=Ev.ok e∧(etext e).length≤400
theorem fine_marks {now : Int} {ps : List Pt} (h : ∀ p∈ps,p.Ok) : ∀ e∈marksE now ps,Fine e:=by
  intro e he
  unfold marksE at he
  split at he
  · cases he
  · rw [List.mem_singleton.1 he]
    exact ⟨least_in h,Nat.zero_le _⟩
theorem fine_faults {p : Pt} (h : p.Ok) (i : Nat) (hi : i<1000) : ∀ e∈faults p i,Fine e:=by
  intro e he
  unfold faults at he
  split at he
  · cases he
  · split at he
    · cases he
    · rw [List.mem_singleton.1 he]
      have:=h.er
      exact ⟨⟨by unfold in64;omega,by unfold in64;omega⟩,Nat.zero_le _⟩
theorem fine_do {s : St} (h : s.Ok) (x : Bool×Int) : ∀ e∈s.doE x,Fine e:=by
  have hd:=h.do x
  unfold St.doE
  unfold St.doS at hd
  split
  · split
    · intro e he;cases he
    · next hx hn =>
      rw [if_pos hx,if_neg hn] at hd
      exact fine_marks hd.pt
  · next hx =>
    rw [if_neg hx] at hd
    split
    · intro e he;cases he
    · next hr =>
      rw [if_neg hr] at hd
      rw [Bool.not_eq_true] at hr
      have hi:=(refused_not hr).2.1
      have hrd:=refused_read h hr
      have hp:=h.pt _ (pat_mem hi)
      have h8:=h.n
      have hmem : recAt (pat s.ps x.2.toNat)∈(pat s.ps x.2.toNat).recs:=by
        unfold recAt
        rw [List.getD_eq_getElem?_getD,List.getElem?_eq_getElem hrd]
        exact List.getElem_mem hrd
      intro e he
      unfold St.pollE at he
      rcases List.mem_cons.1 he with rfl|he
      · have:=okR_in (hp.okr _ hmem)
        refine ⟨⟨by unfold in64;omega,this.1,this.2⟩,?_⟩
        exact hp.short _ hmem
      · rcases List.mem_append.1 he with he|he
        · exact fine_faults (hp.gone (add_in _ _) hrd) _ (by omega) e he
        · exact fine_marks hd.pt e he
theorem fine_run : ∀ (l : List (Bool×Int)) {s : St} (h : s.Ok),∀ e∈s.runE l,Fine e
  | [],s,h,e,he=>by cases he
  | x::l,s,h,e,he=>by
    rcases List.mem_append.1 he with he|he
    · exact fine_do h x e he
    · exact fine_run l (h.do x) e he
theorem fine_faultsTo {ps : List Pt} (h : ∀ p∈ps,p.Ok) : ∀ k,k≤ps.length→k≤1000→∀ e∈faultsTo ps k,Fine e
  | 0,_,_,e,he=>by cases he
  | k+1,hk,h1,e,he=>by
    rcases List.mem_append.1 he with he|he
    · exact fine_faultsTo h k (by omega) (by omega) e he
    · exact fine_faults (h _ (pat_mem (by omega))) k (by omega) e he
theorem fine_new {t : Int} {rs : List Rul} {ls : List (List UInt8)} (hn : ls.length=rs.length) (h8 : rs.length≤8) (hc : ∀ r∈rs,rcheck r=0∧r.Fits) (hl : ∀ l∈ls,l.length≤400) (ht : 1≤t∧t≤9223372036854775807) : ∀ e∈St.newE t rs ls,Fine e:=by
  have hr:=raws_ok hc hl ht
  intro e he
  unfold St.newE at he
  rcases List.mem_append.1 he with he|he
  · exact fine_faultsTo hr rs.length (by rw [raws_len hn];omega) (by omega) e he
  · refine fine_marks (fun p hp=>?_) e he
    obtain ⟨q,hq,rfl⟩:=List.mem_map.1 hp
    exact (hr q hq).settled
open PVar PCrc
def r5 : R:=(1,5,[])
def b5 : List UInt8:=enc 1 5 []
end Go.Proofs.YtmimfkhkilijcaaGreatDoor
