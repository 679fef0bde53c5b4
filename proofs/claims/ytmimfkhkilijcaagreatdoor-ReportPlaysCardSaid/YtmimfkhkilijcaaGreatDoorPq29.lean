/- KSt: what is reached of them. -/
import Derived.Test.YtmimfkhkilijcaaGreatDoorPq19
import Derived.Test.YtmimfkhkilijcaaGreatDoorPq21
import Derived.Test.YtmimfkhkilijcaaGreatDoorPq10
set_option linter.unusedVariables false
set_option linter.unusedSimpArgs false
set_option maxRecDepth 100000
set_option maxHeartbeats 8000000
namespace Go.Proofs.YtmimfkhkilijcaaGreatDoor
open Go.ChangeShapes Go.WideShapes Go.ChangeAt Go.RowKit
open PHist PRing PSat PClamp PBound PFrame PSign PTree PEv
structure Pt where
  rule : Rul
  recs : List R
  err : Nat
  read : Nat
  is : Int
  til : Int
def Pt.got (p : Pt) : List R:=p.recs.take p.read
def Pt.mark (p : Pt) : Int:=gnow p.rule p.got
def zp : Pt:=⟨⟨0,0,0,0,0⟩,[],0,0,0,0⟩
def pat (ps : List Pt) (i : Nat) : Pt:=ps.getD i zp
theorem pat_lt {ps : List Pt} {i : Nat} (h : i<ps.length) : pat ps i=ps[i]:=by
  unfold pat
  rw [List.getD_eq_getElem?_getD,List.getElem?_eq_getElem h];rfl
theorem pat_set {ps : List Pt} {i : Nat} (h : i<ps.length) (p : Pt) : pat (ps.set i p)=put (pat ps) i p:=by
  funext j
  show (ps.set i p).getD j zp=if j=i then p else ps.getD j zp
  rw [List.getD_eq_getElem?_getD,List.getD_eq_getElem?_getD,List.getElem?_set]
  by_cases e : j=i
  · subst e
    rw [if_pos rfl,if_pos rfl,if_pos h];rfl
  · rw [if_neg (fun h=>e h.symm),if_neg e]
theorem pat_map {ps : List Pt} {f : Pt→Pt} {i : Nat} (h : i<ps.length) : pat (ps.map f) i=f (pat ps i):=by
  rw [pat_lt h,pat_lt (by rw [List.length_map];exact h),List.getElem_map]
theorem pat_mem {ps : List Pt} {i : Nat} (h : i<ps.length) : pat ps i∈ps:=by
  rw [pat_lt h];exact List.getElem_mem h
def kk (ps : List Pt) (i : Nat) : Int:=(pat ps i).mark
def ss (ps : List Pt) (i : Nat) : Int:=(pat ps i).is
structure St where
  ps : List Pt
  timeout : Int
  drift : Int
  clock : Int
  now : Int
def settled (p : Pt) : Pt:=if p.read<p.recs.length then p else { p with is:=if p.err=0 then 2 else 3 }
def faults (p : Pt) (i : Nat) : List Ev:=if p.read<p.recs.length then [] else if p.err=0 then [] else [.fault i p.err]
def least (ps : List Pt) : Int:=ml (kk ps) (ss ps) ps.length
def further (now : Int) (ps : List Pt) : Int:=if least ps≤now then now else least ps
def marksE (now : Int) (ps : List Pt) : List Ev:=if least ps≤now then [] else [.mark (least ps)]
def lateOf (now : Int) (r : R) : Bool:=decide (now≠-9223372036854775808∧r.2.1≤now)
def recAt (p : Pt) : R:=p.recs.getD p.read zr
def Pt.gone (p : Pt) (til : Int) : Pt:={ p with read:=p.read+1,is:=0,til:=til }
def Pt.wait (p : Pt) (clock : Int) : Pt:=if p.is=0∧p.til≤clock then { p with is:=1 } else p
def St.refused (s : St) (i : Int) : Bool :=
  decide (¬ (0≤i∧i<s.ps.length)) || decide (1<ss s.ps i.toNat) || decide (add s.now s.drift<kk s.ps i.toNat)
def St.polled (s : St) (i : Nat) : List Pt:=s.ps.set i (settled ((pat s.ps i).gone (add s.clock s.timeout)))
def St.ticked (s : St) (c : Int) : List Pt:=s.ps.map fun p=>p.wait c
def St.pollS (s : St) (i : Nat) : St:={ s with ps:=s.polled i,now:=further s.now (s.polled i) }
def St.pollE (s : St) (i : Nat) : List Ev :=
  Ev.el (lateOf s.now (recAt (pat s.ps i))) i (recAt (pat s.ps i)).1 (recAt (pat s.ps i)).2.1 (recAt (pat s.ps i)).2.2::(faults ((pat s.ps i).gone (add s.clock s.timeout)) i++marksE s.now (s.polled i))
def St.tickS (s : St) (by_ : Int) : St:={ s with clock:=add s.clock by_,ps:=s.ticked (add s.clock by_),now:=further s.now (s.ticked (add s.clock by_)) }
def St.tickE (s : St) (by_ : Int) : List Ev:=marksE s.now (s.ticked (add s.clock by_))
def St.doS (s : St) (x : Bool×Int) : St :=
  if x.1 then (if x.2<0 then s else s.tickS x.2) else if s.refused x.2 then s else s.pollS x.2.toNat
def St.doE (s : St) (x : Bool×Int) : List Ev :=
  if x.1 then (if x.2<0 then [] else s.tickE x.2) else if s.refused x.2 then [] else s.pollE x.2.toNat
def St.run (s : St) (l : List (Bool×Int)) : St:=l.foldl St.doS s
def St.runE : St→List (Bool×Int)→List Ev
  | _,[]=>[]
  | s,x::l=>s.doE x++(s.doS x).runE l
theorem run_snoc (s : St) (l : List (Bool×Int)) (x : Bool×Int) : s.run (l++[x])=(s.run l).doS x:=by simp [St.run]
theorem runE_append : ∀ (l m : List (Bool×Int)) (s : St),s.runE (l++m)=s.runE l++(s.run l).runE m
  | [],_,_=>rfl
  | x::l,m,s=>by
    show s.doE x++(s.doS x).runE (l++m)=(s.doE x++(s.doS x).runE l)++_
    rw [runE_append l m,List.append_assoc];rfl
theorem runE_snoc (s : St) (l : List (Bool×Int)) (x : Bool×Int) : s.runE (l++[x])=s.runE l++(s.run l).doE x:=by
  rw [runE_append]
  show _++(_++[])=_
  rw [List.append_nil]
theorem run_take (s : St) (l : List (Bool×Int)) (k : Nat) (hk : k<l.length) : s.run (l.take (k+1))=(s.run (l.take k)).doS l[k]:=by
  rw [List.take_succ_eq_append_getElem hk,run_snoc]
theorem runE_take (s : St) (l : List (Bool×Int)) (k : Nat) (hk : k<l.length) : s.runE (l.take (k+1))=s.runE (l.take k)++(s.run (l.take k)).doE l[k]:=by
  rw [List.take_succ_eq_append_getElem hk,runE_snoc]
def Pt.raw (timeout : Int) (r : Rul) (l : List UInt8) : Pt:=⟨r,(parse l).1,(parse l).2.2,0,0,timeout⟩
def raws (timeout : Int) (rs : List Rul) (ls : List (List UInt8)) : List Pt:=List.zipWith (Pt.raw timeout) rs ls
def begun (timeout : Int) (rs : List Rul) (ls : List (List UInt8)) : List Pt:=(raws timeout rs ls).map settled
def faultsTo (ps : List Pt) : Nat→List Ev
  | 0=>[]
  | k+1=>faultsTo ps k++faults (pat ps k) k
def St.new (timeout drift : Int) (rs : List Rul) (ls : List (List UInt8)) : St :=
  ⟨begun timeout rs ls,timeout,drift,0,further (-9223372036854775808) (begun timeout rs ls)⟩
def St.newE (timeout : Int) (rs : List Rul) (ls : List (List UInt8)) : List Ev :=
  faultsTo (raws timeout rs ls) rs.length++marksE (-9223372036854775808) (begun timeout rs ls)
structure Pt.Ok (p : Pt) : Prop where
  chk : rcheck p.rule=0
  fit : p.rule.Fits
  okr : ∀ r∈p.recs,okR r
  short : ∀ r∈p.recs,r.2.2.length≤400
  few : p.recs.length≤400
  er : p.err≤5
  rd : p.read≤p.recs.length
  lo : 0≤p.is
  hi : p.is≤3
  tl : in64 p.til
def Pt.Set (p : Pt) : Prop:=p.is<2↔p.read<p.recs.length
structure St.Ok (s : St) : Prop where
  pt : ∀ p∈s.ps,p.Ok
  set : ∀ p∈s.ps,p.Set
  n : s.ps.length≤8
  tm : 1≤s.timeout∧s.timeout≤9223372036854775807
  dr : 0≤s.drift∧s.drift≤9223372036854775807
  ck : in64 s.clock
  nw : in64 s.now
theorem okR_in {r : R} (h : okR r) : in64 r.1∧in64 r.2.1:=by
  obtain ⟨h1,h2,h3⟩:=h
  have:=err_kind h1
  unfold in64
  refine ⟨?_,h2,h3⟩
  rcases this with h|h <;> rw [h] <;> omega
theorem Pt.Ok.inr {p : Pt} (h : p.Ok) : InR p.recs:=fun r hr=>okR_in (h.okr r hr)
theorem mark_in {p : Pt} (h : p.Ok) : in64 p.mark:=gnow_in (h.inr.take _)
theorem Pt.Ok.gone {p : Pt} (h : p.Ok) {t : Int} (ht : in64 t) (hr : p.read<p.recs.length) : (p.gone t).Ok :=
  ⟨h.chk,h.fit,h.okr,h.short,h.few,h.er,hr,Int.le_refl 0,by show (0 : Int)≤3;omega,ht⟩
theorem Pt.Ok.settled {p : Pt} (h : p.Ok) : (settled p).Ok:=by
  unfold Go.Proofs.YtmimfkhkilijcaaGreatDoor.settled
  split
  · exact h
  · exact ⟨h.chk,h.fit,h.okr,h.short,h.few,h.er,h.rd,by show 0≤(if _ then (2 : Int) else 3);split <;> omega,by show (if _ then (2 : Int) else 3)≤3;split <;> omega,h.tl⟩
theorem Pt.Ok.wait {p : Pt} (h : p.Ok) (c : Int) : (p.wait c).Ok:=by
  unfold Pt.wait
  split
  · exact ⟨h.chk,h.fit,h.okr,h.short,h.few,h.er,h.rd,by show (0 : Int)≤1;omega,by show (1 : Int)≤3;omega,h.tl⟩
  · exact h
theorem settled_set {p : Pt} (h : p.read<p.recs.length→p.is<2) : (settled p).Set:=by
  unfold settled Pt.Set
  by_cases hr : p.read<p.recs.length
  · rw [if_pos hr];exact ⟨fun _=>hr,h⟩
  · rw [if_neg hr]
    refine ⟨fun h=>?_,fun h=>absurd h hr⟩
    exfalso
    have h' : (if p.err=0 then (2 : Int) else 3)<2:=h
    split at h' <;> omega
theorem wait_set {p : Pt} (h : p.Set) (c : Int) : (p.wait c).Set:=by
  unfold Pt.wait
  split
  · next e=>exact ⟨fun _=>h.1 (by rw [e.1];omega),fun _=>by show (1 : Int)<2;omega⟩
  · exact h
theorem settled_mark (p : Pt) : (settled p).mark=p.mark:=by
  unfold settled
  split <;> rfl
theorem wait_mark (p : Pt) (c : Int) : (p.wait c).mark=p.mark:=by
  unfold Pt.wait
  split <;> rfl
theorem least_in {ps : List Pt} (h : ∀ p∈ps,p.Ok) : in64 (least ps) :=
  ml_in fun i hi=>mark_in (h _ (pat_mem hi))
theorem further_in {ps : List Pt} (h : ∀ p∈ps,p.Ok) {now : Int} (hn : in64 now) : in64 (further now ps):=by
  unfold further
  split
  · exact hn
  · exact least_in h
theorem St.Ok.poll {s : St} (h : s.Ok) {i : Nat} (hi : i<s.ps.length) (hr : (pat s.ps i).read<(pat s.ps i).recs.length) : (s.pollS i).Ok:=by
  have hp:=h.pt _ (pat_mem hi)
  have hg : (settled ((pat s.ps i).gone (add s.clock s.timeout))).Ok:=(hp.gone (add_in _ _) hr).settled
  have hs : (settled ((pat s.ps i).gone (add s.clock s.timeout))).Set:=settled_set fun _=>by show (0 : Int)<2;omega
  have h1 : ∀ p∈s.polled i,p.Ok:=fun p hm=>by
    rcases List.mem_or_eq_of_mem_set hm with hm|rfl
    · exact h.pt p hm
    · exact hg
  exact ⟨h1,fun p hm=>by
    rcases List.mem_or_eq_of_mem_set hm with hm|rfl
    · exact h.set p hm
    · exact hs,by show (s.ps.set _ _).length≤8;rw [List.length_set];exact h.n,h.tm,h.dr,h.ck,further_in h1 h.nw⟩
theorem St.Ok.tick {s : St} (h : s.Ok) (x : Int) : (s.tickS x).Ok:=by
  have h1 : ∀ p∈s.ticked (add s.clock x),p.Ok:=fun p hm=>by
    obtain ⟨q,hq,rfl⟩:=List.mem_map.1 hm
    exact (h.pt q hq).wait _
  exact ⟨h1,fun p hm=>by
    obtain ⟨q,hq,rfl⟩:=List.mem_map.1 hm
    exact wait_set (h.set q hq) _,by show (s.ps.map _).length≤8;rw [List.length_map];exact h.n,h.tm,h.dr,add_in _ _,further_in h1 h.nw⟩
theorem refused_not {s : St} {i : Int} (h : s.refused i=false) : 0≤i∧i.toNat<s.ps.length∧ss s.ps i.toNat≤1∧kk s.ps i.toNat≤add s.now s.drift:=by
  unfold St.refused at h
  simp only [Bool.or_eq_false_iff,decide_eq_false_iff_not,Decidable.not_not] at h
  omega
theorem refused_read {s : St} (h : s.Ok) {i : Int} (hr : s.refused i=false) : (pat s.ps i.toNat).read<(pat s.ps i.toNat).recs.length:=by
  obtain ⟨h1,h2,h3,h4⟩:=refused_not hr
  exact (h.set _ (pat_mem h2)).1 (by unfold ss at h3;omega)
theorem St.Ok.do {s : St} (h : s.Ok) (x : Bool×Int) : (s.doS x).Ok:=by
  unfold St.doS
  split
  · split
    · exact h
    · exact h.tick _
  · split
    · exact h
    · next hr =>
      rw [Bool.not_eq_true] at hr
      exact h.poll (refused_not hr).2.1 (refused_read h hr)
theorem St.Ok.run {s : St} (h : s.Ok) : ∀ (l : List (Bool×Int)),(s.run l).Ok:=by
  intro l
  induction l generalizing s with
  | nil=>exact h
  | cons x l ih=>exact ih (h.do x)
theorem doS_len (s : St) (x : Bool×Int) : (s.doS x).ps.length=s.ps.length:=by
  unfold St.doS
  split
  · split
    · rfl
    · show (s.ps.map _).length=_;rw [List.length_map]
  · split
    · rfl
    · show (s.ps.set _ _).length=_;rw [List.length_set]
theorem run_len (l : List (Bool×Int)) : ∀ s : St,(s.run l).ps.length=s.ps.length:=by
  induction l with
  | nil=>intro s;rfl
  | cons x l ih=>intro s;show ((s.doS x).run l).ps.length=_;rw [ih,doS_len]
theorem marksE_len (now : Int) (ps : List Pt) : (marksE now ps).length≤1:=by unfold marksE;split <;> simp
theorem faults_len (p : Pt) (i : Nat) : (faults p i).length≤1:=by
  unfold faults
  split
  · simp
  · split <;> simp
theorem doE_len (s : St) (x : Bool×Int) : (s.doE x).length≤3:=by
  have m:=fun now ps=>marksE_len now ps
  have f:=fun p i=>faults_len p i
  unfold St.doE
  split
  · split
    · simp
    · unfold St.tickE;have:=m s.now (s.ticked (add s.clock x.2));omega
  · split
    · simp
    · unfold St.pollE
      rw [List.length_cons,List.length_append]
      have:=m s.now (s.polled x.2.toNat)
      have:=f ((pat s.ps x.2.toNat).gone (add s.clock s.timeout)) x.2.toNat
      omega
theorem runE_len : ∀ (l : List (Bool×Int)) (s : St),(s.runE l).length≤3*l.length
  | [],_=>by simp [St.runE]
  | x::l,s=>by
    show (s.doE x++(s.doS x).runE l).length≤_
    rw [List.length_append,List.length_cons]
    have:=doE_len s x
    have:=runE_len l (s.doS x)
    omega
theorem faultsTo_len (ps : List Pt) : ∀ k,(faultsTo ps k).length≤k
  | 0=>by simp [faultsTo]
  | k+1=>by
    show (faultsTo ps k++_).length≤_
    rw [List.length_append]
    have:=faultsTo_len ps k
    have:=faults_len (pat ps k) k
    omega
theorem newE_len (t : Int) (rs : List Rul) (ls : List (List UInt8)) : (St.newE t rs ls).length≤rs.length+1:=by
  unfold St.newE
  rw [List.length_append]
  have:=faultsTo_len (raws t rs ls) rs.length
  have:=marksE_len (-9223372036854775808) (begun t rs ls)
  omega
theorem build_big : ∀ (rs : List R),7*rs.length≤(build rs).length∧∀ r∈rs,r.2.2.length≤(build rs).length
  | []=>⟨by simp [build],fun r h=>by cases h⟩
  | r::rs=>by
    obtain ⟨h1,h2⟩:=build_big rs
    have h3:=encR_pos r
    have h4 : r.2.2.length≤(encR r).length:=by
      show _≤(enc _ _ _).length
      rw [enc_len,body_len];omega
    show _≤(encR r++build rs).length∧∀ q∈r::rs,_≤(encR r++build rs).length
    rw [List.length_append,List.length_cons]
    refine ⟨by omega,fun q hq=>?_⟩
    rcases List.mem_cons.1 hq with rfl|hq
    · omega
    · have:=h2 q hq;omega
theorem raw_ok {t : Int} {r : Rul} {l : List UInt8} (hc : rcheck r=0) (hf : r.Fits) (hl : l.length≤400) (ht : 1≤t∧t≤9223372036854775807) : (Pt.raw t r l).Ok:=by
  obtain ⟨h1,h2,h3,h4,h5⟩:=parse_spec l.length l (Nat.le_refl _)
  have hb:=build_big (parse l).1
  rw [h2,List.length_take] at hb
  exact ⟨hc,hf,h1,fun r hr=>by have:=hb.2 r hr;omega,by show (parse l).1.length≤400;omega,h5,Nat.zero_le _,Int.le_refl 0,by show (0 : Int)≤3;omega,by show in64 t;unfold in64;omega⟩
theorem raws_len {t : Int} {rs : List Rul} {ls : List (List UInt8)} (h : ls.length=rs.length) : (raws t rs ls).length=rs.length:=by
  unfold raws
  rw [List.length_zipWith];omega
theorem raws_at {t : Int} {rs : List Rul} {ls : List (List UInt8)} (h : ls.length=rs.length) (i : Nat) (hi : i<rs.length) : pat (raws t rs ls) i=Pt.raw t rs[i] (ls[i]'(by omega)):=by
  rw [pat_lt (by rw [raws_len h];exact hi)]
  unfold raws
  rw [List.getElem_zipWith]
theorem raws_ok {t : Int} {rs : List Rul} {ls : List (List UInt8)} (hc : ∀ r∈rs,rcheck r=0∧r.Fits) (hl : ∀ l∈ls,l.length≤400) (ht : 1≤t∧t≤9223372036854775807) : ∀ p∈raws t rs ls,p.Ok:=by
  intro p hp
  unfold raws at hp
  obtain ⟨i,hi,rfl⟩:=List.mem_iff_getElem.1 hp
  rw [List.getElem_zipWith]
  rw [List.length_zipWith] at hi
  have:=hc _ (List.getElem_mem (show i<rs.length by omega))
  exact raw_ok this.1 this.2 (hl _ (List.getElem_mem (show i<ls.length by omega))) ht
theorem new_ok {t d : Int} {rs : List Rul} {ls : List (List UInt8)} (hn : ls.length=rs.length) (h8 : rs.length≤8) (hc : ∀ r∈rs,rcheck r=0∧r.Fits) (hl : ∀ l∈ls,l.length≤400) (ht : 1≤t∧t≤9223372036854775807) (hd : 0≤d∧d≤9223372036854775807) : (St.new t d rs ls).Ok:=by
  have hr:=raws_ok hc hl ht
  have h1 : ∀ p∈begun t rs ls,p.Ok:=fun p hm=>by
    obtain ⟨q,hq,rfl⟩:=List.mem_map.1 hm
    exact (hr q hq).settled
  refine ⟨h1,fun p hm=>?_,?_,ht,hd,by show in64 0;unfold in64;omega,further_in h1 (by unfold in64;omega)⟩
  · obtain ⟨q,hq,rfl⟩:=List.mem_map.1 hm
    refine settled_set fun _=>?_
    unfold raws at hq
    obtain ⟨i,hi,rfl⟩:=List.mem_iff_getElem.1 hq
    rw [List.getElem_zipWith]
    show (0 : Int)<2;omega
  · show (begun t rs ls).length≤8
    unfold begun
    rw [List.length_map,raws_len hn];exact h8
end Go.Proofs.YtmimfkhkilijcaaGreatDoor
namespace Go.Proofs.YtmimfkhkilijcaaGreatDoor
open PHist PRing PSat PClamp PBound PFrame PSign PTree PEv
def wq (f : Pt→Pt) : List Pt→Nat→List Pt
  | ps,0=>ps
  | [],_+1=>[]
  | p::ps,q+1=>f p::wq f ps q
theorem wq_zero (f : Pt→Pt) : ∀ ps : List Pt,wq f ps 0=ps
  | []=>rfl
  | _::_=>rfl
theorem wq_all (f : Pt→Pt) : ∀ ps : List Pt,wq f ps ps.length=ps.map f
  | []=>rfl
  | p::ps=>by
    show f p::wq f ps ps.length=_
    rw [wq_all f ps];rfl
theorem wq_len (f : Pt→Pt) : ∀ (ps : List Pt) (q : Nat),(wq f ps q).length=ps.length
  | [],0=>rfl
  | [],_+1=>rfl
  | _::_,0=>rfl
  | p::ps,q+1=>by
    show (f p::wq f ps q).length=_
    rw [List.length_cons,wq_len f ps q,List.length_cons]
theorem wq_at (f : Pt→Pt) : ∀ (ps : List Pt) (q : Nat) (h : q<ps.length),(wq f ps q)[q]? = some ps[q]
  | p::ps,0,_=>rfl
  | p::ps,q+1,h=>wq_at f ps q (by simpa using h)
theorem wq_set (f : Pt→Pt) : ∀ (ps : List Pt) (q : Nat) (h : q<ps.length),(wq f ps q).set q (f ps[q])=wq f ps (q+1)
  | p::ps,0,_=>by
    show f p::ps=f p::wq f ps 0
    rw [wq_zero]
  | p::ps,q+1,h=>by
    have h' : q<ps.length:=by simpa using h
    show f p::(wq f ps q).set q (f (ps[q]'h'))=f p::wq f ps (q+1)
    rw [wq_set f ps q h']
theorem wq_same (f : Pt→Pt) : ∀ (ps : List Pt) (q : Nat) (h : q<ps.length),f ps[q]=ps[q]→wq f ps (q+1)=wq f ps q
  | p::ps,0,_,hf=>by
    show f p::wq f ps 0=p::ps
    rw [wq_zero]
    have hf : f p=p:=hf
    rw [hf]
  | p::ps,q+1,h,hf=>by
    show f p::wq f ps (q+1)=f p::wq f ps q
    rw [wq_same f ps q (by simpa using h) hf]
end Go.Proofs.YtmimfkhkilijcaaGreatDoor
