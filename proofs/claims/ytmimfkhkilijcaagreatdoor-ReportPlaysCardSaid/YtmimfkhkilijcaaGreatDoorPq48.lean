/- KRefT: what is reached of them. -/
import Derived.Test.YtmimfkhkilijcaaGreatDoorPq46
import Derived.Test.YtmimfkhkilijcaaGreatDoorPq27
import Derived.Test.YtmimfkhkilijcaaGreatDoorPq30
import Derived.Deep.RegionLaw
import Derived.Test.YtmimfkhkilijcaaGreatDoorPq32
import Derived.Test.YtmimfkhkilijcaaGreatDoorPq43
import Derived.Test.YtmimfkhkilijcaaGreatDoorPq01
import Derived.Deep.MidRow
import Derived.Deep.WholeRow
import Derived.Deep.RegionHeld3
import Derived.Test.YtmimfkhkilijcaaGreatDoorPq47
set_option linter.unusedVariables false
set_option linter.unusedSimpArgs false
set_option maxRecDepth 100000
set_option maxHeartbeats 8000000
namespace Go.Proofs.YtmimfkhkilijcaaGreatDoor
open Go.ChangeShapes Go.WideShapes Go.ChangeAt Go.RowKit
open PHist PRing PSat PClamp PBound PFrame PSign PTree PEv
def DoR (K : Option Addr→Nat→List R→Prop) (a0 : Option Addr) (s : St) (es : List Ev) (w : World) (e : Ending) (w' : World) : Prop :=
  ∃ (a : Option Addr) (c : Nat) (l : List Pv) (r : Value),e = .returned (.tuple #[.agg #[.slice a s.ps.length c,.int .i64 s.timeout,.int .i64 s.drift,.int .i64 s.clock,.int .i64 s.now],r])∧RowG w' 10 Pv.cells a l∧(∀ v∈l,K v.a v.c v.p.recs)∧l.map (·.p)=s.ps∧Sl w.heap.size w' 8 r es.length (evcs es)∧Below w.heap.size w w'∧(a=a0∨∀ p,a=some p→w.heap.size≤p.block)
theorem ref_poll_no (K : Option Addr→Nat→List R→Prop) (a : Option Addr) (n c : Nat) (l : List Pv) (s : St) (i : Int) (w : World) (hr : RowP w a l) (hn : n=l.length) (hl : l.map (·.p)=s.ps) (h0 : ∀ v∈l,K v.a v.c v.p.recs) (hok : s.Ok) (ho : s.refused i=true) :
    Calls Tryz.prog 53 #[.agg #[.slice a n c,.int .i64 s.timeout,.int .i64 s.drift,.int .i64 s.clock,.int .i64 s.now],.int .i64 i] w (DoR K a s [] w):=by
  have hA0:=At.alloc w [.slice a n c,.int .i64 s.timeout,.int .i64 s.drift,.int .i64 s.clock,.int .i64 s.now] 45
  have hA1:=At.alloc (w.alloc (.cells #[.slice a n c,.int .i64 s.timeout,.int .i64 s.drift,.int .i64 s.clock,.int .i64 s.now] 45)) [.slice none 0 0,.int .i64 0,.int .i64 0,.int .i64 0,.int .i64 0] 45
  rw [World.size_alloc] at hA1
  have e:=fun (w : World) (o : Obj)=>(Below.refl w.heap.size w).alloc (Nat.le_refl _) o
  have hA0':=hA0.on (e _ (.cells #[.slice none 0 0,.int .i64 0,.int .i64 0,.int .i64 0,.int .i64 0] 45))
  have hB0 : Below w.heap.size w ((w.alloc (.cells #[.slice a n c,.int .i64 s.timeout,.int .i64 s.drift,.int .i64 s.clock,.int .i64 s.now] 45)).alloc (.cells #[.slice none 0 0,.int .i64 0,.int .i64 0,.int .i64 0,.int .i64 0] 45)):=on_below (e _ _) (e _ _)
  have hlen : n=s.ps.length:=by rw [hn,← hl,List.length_map]
  have HR:=Lib.hid (ref_refused a n c l s i _ (hr.on hB0) hn hl hok true ho)
  have HRO:=Lib.hid hr
  have HL:=Lib.hid hl
  have H0:=Lib.hid h0
  have HLE:=Lib.hid hlen
  clear hA0 e hr hn hl hok ho hlen h0
  go_enter Tryz.func53,Tryz.ntmps53
  go_wp2_with fail
  generalize (w.alloc (.cells #[.slice a n c,.int .i64 s.timeout,.int .i64 s.drift,.int .i64 s.clock,.int .i64 s.now] 45)).alloc (.cells #[.slice none 0 0,.int .i64 0,.int .i64 0,.int .i64 0,.int .i64 0] 45)=w2 at *
  go_wp2_with (go_at_call 98;(with_reducible refine HR.out.mono ?_);rintro e w3 ⟨rfl,hb3⟩;obtain ⟨-,b0,y0,b1,y1,b2,y2,b3,y3,b4,y4⟩:=(hA0'.on hb3).five;have hAz:=hA1.on hb3;obtain ⟨-,z0,u0,z1,u1,z2,u2,z3,u3,z4,u4⟩:=hAz.five;have hT:=Lib.hid (fun x0 x1 x2 x3 x4=>At.all5 hAz x0 x1 x2 x3 x4);have hBo:=Lib.hid (fun x0 x1 x2 x3 x4=>Below.all5 (on_below hB0 hb3) (g:=w.heap.size+1) (by omega) x0 x1 x2 x3 x4);clear hAz)
  refine bodyPost_ret (results_at2 (fn:=Tryz.f53) rfl _ rfl (hT.out _ _ _ _ _) Tryz.underlying45 rfl (by kernel_rfl)) rfl ?_
  rw [HLE.out]
  exact ⟨a,c,l,.slice none 0 0,rfl,HRO.out.row.below (hBo.out _ _ _ _ _),H0.out,HL.out,Sl.nil _ _ _,hBo.out _ _ _ _ _,.inl rfl⟩
theorem upd_all10 (w : World) (g : Nat) (x0 x1 x2 x3 x4 x5 x6 x7 x8 x9 : Value) : Upd (fun k=>k=g) w ((((((((((w.setCell ⟨g,0,none⟩ x0).setCell ⟨g,1,none⟩ x1).setCell ⟨g,2,none⟩ x2).setCell ⟨g,3,none⟩ x3).setCell ⟨g,4,none⟩ x4).setCell ⟨g,5,none⟩ x5).setCell ⟨g,6,none⟩ x6).setCell ⟨g,7,none⟩ x7).setCell ⟨g,8,none⟩ x8).setCell ⟨g,9,none⟩ x9):=(((((((((((Upd.refl (fun k=>k=g) w).setCell (p:=⟨g,0,none⟩) (fun _=>rfl) x0).setCell (p:=⟨g,1,none⟩) (fun _=>rfl) x1).setCell (p:=⟨g,2,none⟩) (fun _=>rfl) x2).setCell (p:=⟨g,3,none⟩) (fun _=>rfl) x3).setCell (p:=⟨g,4,none⟩) (fun _=>rfl) x4).setCell (p:=⟨g,5,none⟩) (fun _=>rfl) x5).setCell (p:=⟨g,6,none⟩) (fun _=>rfl) x6).setCell (p:=⟨g,7,none⟩) (fun _=>rfl) x7).setCell (p:=⟨g,8,none⟩) (fun _=>rfl) x8).setCell (p:=⟨g,9,none⟩) (fun _=>rfl) x9)
theorem upd_all5 (w : World) (g : Nat) (x0 x1 x2 x3 x4 : Value) : Upd (fun k=>k=g) w (((((w.setCell ⟨g,0,none⟩ x0).setCell ⟨g,1,none⟩ x1).setCell ⟨g,2,none⟩ x2).setCell ⟨g,3,none⟩ x3).setCell ⟨g,4,none⟩ x4):=((((((Upd.refl (fun k=>k=g) w).setCell (p:=⟨g,0,none⟩) (fun _=>rfl) x0).setCell (p:=⟨g,1,none⟩) (fun _=>rfl) x1).setCell (p:=⟨g,2,none⟩) (fun _=>rfl) x2).setCell (p:=⟨g,3,none⟩) (fun _=>rfl) x3).setCell (p:=⟨g,4,none⟩) (fun _=>rfl) x4)
theorem evcs_one (l : List Ev) : ∀ u∈evcs l,u.oneCell'=true:=by
  intro u hu
  obtain ⟨v,_,hv⟩:=List.mem_flatMap.1 hu
  exact evc_one v u hv
theorem settled_is (p : Pt) : settled p = { p with is:=(settled p).is }:=by
  unfold settled
  split <;> rfl
theorem pair_set {l : List Pv} {ps : List Pt} (h : l.map (·.p)=ps) (i : Nat) (v : Pv) : (l.set i v).map (·.p)=ps.set i v.p:=by rw [List.map_set,h]
theorem poll_done {K : Option Addr→Nat→List R→Prop} {w w8 w12 w' : World} {a0 a8 a12 : Option Addr} {n c8 m c12 i B7 g1 BB : Nat} {l2 : List Pv} {ps : List Pt} {tm dr ck fu : Int} {es : List Ev} {xs : List Value}
    (hi : i<l2.length) (hR : RowG w8 10 Pv.cells a8 l2) (hn8 : ∀ p,a8=some p→B7≤p.block)
    (hX : Upd (fun k=>w8.heap.size≤k∨k=w.heap.size∨k=g1) w8 w12) (hU : Upd (fun k=>k=w.heap.size+1) w12 w') (h0 : w.heap.size+1<B7) (h1 : g1<B7)
    (hok : ∀ v∈l2,K v.a v.c v.p.recs) (hps : l2.map (·.p)=ps) (hn : n=ps.length) (hw : Below w.heap.size w w12) (hsl : Sl BB w12 8 (.slice a12 m c12) m xs) (hBB : w.heap.size+1<BB) (hm : m=es.length) (hes : xs=evcs es) :
    DoR K a0 ⟨ps,tm,dr,ck,fu⟩ es w (.returned (.tuple #[.agg #[.slice a8 n c8,.int .i64 tm,.int .i64 dr,.int .i64 ck,.int .i64 fu],.slice a12 m c12])) w':=by
  obtain ⟨b,off,rfl,hb,-⟩:=hR.at_ i hi
  have h8 : B7≤b:=hn8 _ rfl
  subst hn hm hes
  have hwb : Below w.heap.size w w':=hw.upd hU hw.size (fun k _ h=>by have h' : k=w.heap.size+1:=h;omega)
  refine ⟨_,c8,l2,_,rfl,(hR.upd hX (fun p hp h=>?_)).upd hU (fun p hp h=>?_),hok,hps,(hsl.base (by omega)).upd hU (fun k hk h=>?_),hwb,.inr fun p hp=>?_⟩
  · cases hp
    have h : w8.heap.size≤b∨b=w.heap.size∨b=g1:=h
    omega
  · cases hp
    have h : b=w.heap.size+1:=h
    omega
  · have h' : k=w.heap.size+1:=h
    have:=(hsl.lt k hk).1
    omega
  · cases hp
    show _≤b
    omega
theorem ref_poll (K : Option Addr→Nat→List R→Prop) (a : Option Addr) (n c : Nat) (l : List Pv) (s : St) (i : Nat) (w : World) (hr : RowP w a l) (hn : n=l.length) (hl : l.map (·.p)=s.ps) (h0 : ∀ v∈l,K v.a v.c v.p.recs) (hok : s.Ok) (ho : s.refused i=false) :
    Calls Tryz.prog 53 #[.agg #[.slice a n c,.int .i64 s.timeout,.int .i64 s.drift,.int .i64 s.clock,.int .i64 s.now],.int .i64 i] w (DoR K a (s.pollS i) (s.pollE i) w):=by
  have hA0:=At.alloc w [.slice a n c,.int .i64 s.timeout,.int .i64 s.drift,.int .i64 s.clock,.int .i64 s.now] 45
  have hA1:=At.alloc (w.alloc (.cells #[.slice a n c,.int .i64 s.timeout,.int .i64 s.drift,.int .i64 s.clock,.int .i64 s.now] 45)) [.slice none 0 0,.int .i64 0,.int .i64 0,.int .i64 0,.int .i64 0] 45
  rw [World.size_alloc] at hA1
  have e:=fun (w : World) (o : Obj)=>(Below.refl w.heap.size w).alloc (Nat.le_refl _) o
  have hA0':=hA0.on (e _ (.cells #[.slice none 0 0,.int .i64 0,.int .i64 0,.int .i64 0,.int .i64 0] 45))
  have hB0 : Below w.heap.size w ((w.alloc (.cells #[.slice a n c,.int .i64 s.timeout,.int .i64 s.drift,.int .i64 s.clock,.int .i64 s.now] 45)).alloc (.cells #[.slice none 0 0,.int .i64 0,.int .i64 0,.int .i64 0,.int .i64 0] 45)):=on_below (e _ _) (e _ _)
  have hlen : l.length=s.ps.length:=by rw [← hl,List.length_map]
  have HR:=Lib.hid (ref_refused a n c l s i _ (hr.on hB0) hn hl hok false ho)
  obtain ⟨-,h2,h3,h4⟩:=refused_not ho
  have hrd:=refused_read hok ho
  rw [Int.toNat_natCast] at h2 h3 h4 hrd
  have hil : i<l.length:=by omega
  have hp : pat s.ps i=l[i].p:=by
    rw [pat_lt h2]
    simp only [← hl,List.getElem_map]
  have hpo:=hok.pt _ (pat_mem h2)
  have hrow:=hr.on hB0
  have hpv:=hr.ok _ (List.getElem_mem hil)
  have hps : s.polled i=s.ps.set i (settled (l[i].p.gone (add s.clock s.timeout))):=by unfold St.polled;rw [hp]
  have hE : s.pollE i=Ev.el (lateOf s.now (recAt l[i].p)) i (recAt l[i].p).1 (recAt l[i].p).2.1 (recAt l[i].p).2.2::(faults (l[i].p.gone (add s.clock s.timeout)) i++marksE s.now (s.ps.set i (settled (l[i].p.gone (add s.clock s.timeout))))):=by unfold St.pollE;rw [hps,hp]
  rw [hp] at hrd hpo
  have hin:=okR_in (hpo.okr _ (List.getElem_mem hrd))
  have hra : recAt l[i].p=l[i].p.recs[l[i].p.read]:=by
    unfold recAt
    rw [List.getD_eq_getElem?_getD,List.getElem?_eq_getElem hrd];rfl
  rw [hra] at hE
  obtain ⟨b,off,hab,hbl,-⟩:=hrow.row.at_ i hil
  subst hab
  have hcell:=fun (wx : World) (h : RowP wx (some ⟨b,off,none⟩) l)=>h.cell i hil
  have hres:=hpv.row.at_ _ hrd
  have HPV:=Lib.hid (h0 _ (List.getElem_mem hil))
  have HSET:=fun (l2 : List Pv) (h : l2=l.set i { l[i] with p:=settled (l[i].p.gone (add s.clock s.timeout)) })=>(show l2.map (·.p)=s.ps.set i (settled (l[i].p.gone (add s.clock s.timeout))) by rw [h,pair_set hl])
  have hfe:=hpo.few
  have hrr : ((l[i].p.read : Nat) : Int)<((l[i].p.recs.length : Nat) : Int):=by omega
  have hii : (i : Int)<(n : Int):=by omega
  have hV:=fun wx (h : RowP wx (some ⟨b,off,none⟩) l)=>h.ok _ (List.getElem_mem hil)
  have hsl:=settled_is (l[i].p.gone (add s.clock s.timeout))
  have HPO : Hid (∀ q∈s.polled i,q.Ok):=(hok.poll h2 (by rw [hp];exact hrd)).pt
  rw [hps] at HPO
  have hck:=hok.ck
  have htm:=hok.tm
  have hnw:=hok.nw
  have hn8:=hok.n
  have HADD:=fun wx=>Lib.hid (ref_add s.clock s.timeout wx hck ⟨by omega,htm.2⟩)
  have hdo : (St.polled s i).length=s.ps.length:=by rw [hps,List.length_set]
  have HDO : Hid (∀ (e : Ending) (w' : World),DoR K (some ⟨b,off,none⟩) ⟨s.ps.set i (settled (l[i].p.gone (add s.clock s.timeout))),s.timeout,s.drift,s.clock,further s.now (s.ps.set i (settled (l[i].p.gone (add s.clock s.timeout))))⟩ (Ev.el (lateOf s.now l[i].p.recs[l[i].p.read]) i l[i].p.recs[l[i].p.read].1 l[i].p.recs[l[i].p.read].2.1 l[i].p.recs[l[i].p.read].2.2::(faults (l[i].p.gone (add s.clock s.timeout)) i++marksE s.now (s.ps.set i (settled (l[i].p.gone (add s.clock s.timeout)))))) w e w'→DoR K (some ⟨b,off,none⟩) (s.pollS i) (s.pollE i) w e w'):=fun e w' h=>by
    unfold St.pollS
    rw [hE,hps];exact h
  refine Calls.mono ?_ (fun e w' h=>HDO.out e w' h)
  clear HDO hE hdo hps hp hra
  obtain ⟨ps,tm,dr,ck,nw⟩:=s
  simp only at *
  generalize hv0 : l[i]=v at *
  obtain ⟨⟨⟨kd,bd,pc,wn,sg⟩,recs,er,rd,is,tl⟩,av,cv⟩:=v
  simp only [Pt.gone] at *
  obtain ⟨rb,ro,rfl,hrb,-⟩:=hres
  have hrc:=fun (wx : World) (h : RowP wx (some ⟨b,off,none⟩) l)=>(hV wx h).row.cell rd hrd
  simp only at hrc
  have HRD:=Lib.hid hrd
  generalize hr0 : recs[rd]=r0 at *
  obtain ⟨rt,rk,rx⟩:=r0
  simp only at *
  have hla:=Lib.hid (rfl : lateOf nw (rt,rk,rx)=lateOf nw (rt,rk,rx))
  have HSE:=fun w=>Lib.hid (ref_settle ⟨⟨⟨kd,bd,pc,wn,sg⟩,recs,er,rd+1,0,add ck tm⟩,some ⟨rb,ro,none⟩,cv⟩ i w)
  unfold SetPost at HSE
  rw [hsl] at HSE HPO HSET ⊢
  simp only [Pv.val] at HSE hcell
  rw [show ((rd+1 : Nat) : Int)=(rd : Int)+1 by omega] at HSE
  generalize (settled ⟨⟨kd,bd,pc,wn,sg⟩,recs,er,rd+1,0,add ck tm⟩).is=is2 at *
  have HFL : Hid ((faults ⟨⟨kd,bd,pc,wn,sg⟩,recs,er,rd+1,0,add ck tm⟩ i).length≤1):=faults_len _ _
  generalize faults ⟨⟨kd,bd,pc,wn,sg⟩,recs,er,rd+1,0,add ck tm⟩ i=fs at *
  generalize add ck tm=til at *
  have HN:=Lib.hid hn
  have HL:=Lib.hid hl
  have HLE:=Lib.hid hlen
  have HVOK : Hid (∀ v'∈l,K v'.a v'.c v'.p.recs):=h0
  clear h0 hn hl hlen hok ho h2 h3 h4 hrd hr0 hpo hsl hr hpv hV
  have hsz:=hA1.1
  go_enter Tryz.func53,Tryz.ntmps53
  go_wp2_with fail
  generalize (w.alloc (.cells #[.slice (some ⟨b,off,none⟩) n c,.int .i64 tm,.int .i64 dr,.int .i64 ck,.int .i64 nw] 45)).alloc (.cells #[.slice none 0 0,.int .i64 0,.int .i64 0,.int .i64 0,.int .i64 0] 45)=w2 at *
  by_cases hne : nw = -9223372036854775808
  · have HLT : Hid (lateOf nw (rt,rk,rx)=false):=decide_eq_false (fun h=>h.1 hne)
    have hne2 : (nw != -9223372036854775808)=false:=by rw [hne];rfl
    clear hla hne
    go_upto_region 7 with (first|(go_at_call 98;(with_reducible refine HR.out.mono ?_);rintro e w3 ⟨rfl,hb3⟩;obtain ⟨hw3,b0,y0,b1,y1,b2,y2,b3,y3,b4,y4⟩:=(hA0'.on hb3).five;obtain ⟨hbb,p0,p1,p2,p3,p4,p5,p6,p7,p8,p9⟩:=hcell _ (hrow.on hb3);obtain ⟨hrb3,q0,q1,q2⟩:=hrc _ (hrow.on hb3)))
    clear b0 y0 b1 y1 b2 y2 b3 y3 b4 y4 p0 p1 p2 p3 p4 p5 p6 p7 p8 p9 q0 q1 q2
    have hP : At (((w3.alloc (.cells #[.int .i64 kd,.int .i64 bd,.int .i64 pc,.int .i64 wn,.int .i64 sg,.slice (some ⟨rb,ro,none⟩) recs.length cv,.int .i64 er,.int .i64 (rd+1),.int .i64 is,.int .i64 tl] 62)).alloc (.cells #[.int .i64 rt,.int .i64 rk,.string (bstr rx)] 54)).alloc (.cells #[.int .i64 0,.int .i64 i,.int .i64 rt,.int .i64 rk,.string (bstr rx),.bool false,.int .i64 0,.int .i64 0] 56)) w3.heap.size [.int .i64 kd,.int .i64 bd,.int .i64 pc,.int .i64 wn,.int .i64 sg,.slice (some ⟨rb,ro,none⟩) recs.length cv,.int .i64 er,.int .i64 (rd+1),.int .i64 is,.int .i64 tl]:=((At.alloc w3 _ _).on (e _ _)).on (e _ _)
    have hEv : Sl w3.heap.size (((w3.alloc (.cells #[.int .i64 kd,.int .i64 bd,.int .i64 pc,.int .i64 wn,.int .i64 sg,.slice (some ⟨rb,ro,none⟩) recs.length cv,.int .i64 er,.int .i64 (rd+1),.int .i64 is,.int .i64 tl] 62)).alloc (.cells #[.int .i64 rt,.int .i64 rk,.string (bstr rx)] 54)).alloc (.cells #[.int .i64 0,.int .i64 i,.int .i64 rt,.int .i64 rk,.string (bstr rx),.bool false,.int .i64 0,.int .i64 0] 56)) 8 (.slice (some ⟨w3.heap.size+1+1,0,none⟩) 1 1) 1 (evcs [.el false i rt rk rx]):=ev_row (.el false i rt rk rx) (by simp) (by simp;omega)
    have hB4 : Below w3.heap.size w3 (((w3.alloc (.cells #[.int .i64 kd,.int .i64 bd,.int .i64 pc,.int .i64 wn,.int .i64 sg,.slice (some ⟨rb,ro,none⟩) recs.length cv,.int .i64 er,.int .i64 (rd+1),.int .i64 is,.int .i64 tl] 62)).alloc (.cells #[.int .i64 rt,.int .i64 rk,.string (bstr rx)] 54)).alloc (.cells #[.int .i64 0,.int .i64 i,.int .i64 rt,.int .i64 rk,.string (bstr rx),.bool false,.int .i64 0,.int .i64 0] 56)):=on_below (on_below (e _ _) (e _ _)) (e _ _)
    generalize (((w3.alloc (.cells #[.int .i64 kd,.int .i64 bd,.int .i64 pc,.int .i64 wn,.int .i64 sg,.slice (some ⟨rb,ro,none⟩) recs.length cv,.int .i64 er,.int .i64 (rd+1),.int .i64 is,.int .i64 tl] 62)).alloc (.cells #[.int .i64 rt,.int .i64 rk,.string (bstr rx)] 54)).alloc (.cells #[.int .i64 0,.int .i64 i,.int .i64 rt,.int .i64 rk,.string (bstr rx),.bool false,.int .i64 0,.int .i64 0] 56))=w4 at *
    have hP5:=(hP.set 8 (by simp) (.int .i64 0)).set 9 (by simp) (.int .i64 til)
    simp only [List.set] at hP5
    have hB5:=(hB4.setCell (p:=⟨w3.heap.size,8,none⟩) (Nat.le_refl _) (.int .i64 0)).setCell (p:=⟨w3.heap.size,9,none⟩) (Nat.le_refl _) (.int .i64 til)
    have hu5 : Upd (fun k=>k=w3.heap.size) w4 ((w4.setCell ⟨w3.heap.size,8,none⟩ (.int .i64 0)).setCell ⟨w3.heap.size,9,none⟩ (.int .i64 til)):=((Upd.refl (fun k=>k=w3.heap.size) w4).setCell (p:=⟨w3.heap.size,8,none⟩) (fun _=>rfl) (.int .i64 0)).setCell (p:=⟨w3.heap.size,9,none⟩) (fun _=>rfl) (.int .i64 til)
    have hEv5:=hEv.upd hu5 (fun k hk h=>by cases hk;have h' : w3.heap.size+1+1=w3.heap.size:=h;omega)
    have hA4:=(hA0'.on hb3).on hB4
    have hAz4:=(hA1.on hb3).on hB4
    have hA5:=hA4.upd hu5 (fun h=>by have h' : w.heap.size=w3.heap.size:=h;omega)
    have hAz5:=hAz4.upd hu5 (fun h=>by have h' : w.heap.size+1=w3.heap.size:=h;have:=(hA1.on hb3).1;omega)
    have hnz : w.heap.size+1<w3.heap.size:=(hA1.on hb3).1
    obtain ⟨hw4,b0,y0,b1,y1,b2,y2,b3,y3,b4,y4⟩:=hA4.five
    obtain ⟨hn3,p0,x0,p1,x1,p2,x2,p3,x3,p4,x4,p5,x5,p6,x6,p7,x7,p8,x8,p9,x9⟩:=hP.ten
    have hNN : w.heap.size<w3.heap.size:=hw3
    go_upto_region 9 with (first|(go_at_call 54;(with_reducible refine (HADD _).out.mono ?_);rintro e w3 ⟨rfl,rfl⟩))
    clear b0 y0 b1 y1 b2 y2 b3 y3 b4 y4 p0 x0 p1 x1 p2 x2 p3 x3 p4 x4 p5 x5 p6 x6 p7 x7 p8 x8 p9 x9 hw4 hn3 hA4 hAz4 hEv hP hu5 hB4
    generalize (w4.setCell ⟨w3.heap.size,8,none⟩ (.int .i64 0)).setCell ⟨w3.heap.size,9,none⟩ (.int .i64 til)=w5 at *
    have hW5:=on_below (on_below hB0 hb3) hB5
    have hR5:=(hrow.on hb3).on hB5
    obtain ⟨hn3,p0,x0,p1,x1,p2,x2,p3,x3,p4,x4,p5,x5,p6,x6,p7,x7,p8,x8,p9,x9⟩:=hP5.ten
    go_upto_region 10 with (first|(go_at_call 51;(with_reducible refine (HSE _).out.mono ?_);intro e w6 hF;obtain ⟨r,rfl,hf,hb6⟩:=hF;obtain ⟨-,p0,x0,p1,x1,p2,x2,p3,x3,p4,x4,p5,x5,p6,x6,p7,x7,p8,x8,p9,x9⟩:=(hP5.on hb6).ten))
    clear p0 x0 p1 x1 p2 x2 p3 x3 p4 x4 p5 x5 p6 x6 p7 x7 p8 x8 p9 x9
    have hu7:=upd_all10 w6 w3.heap.size (.int .i64 kd) (.int .i64 bd) (.int .i64 pc) (.int .i64 wn) (.int .i64 sg) (.slice (some ⟨rb,ro,none⟩) recs.length cv) (.int .i64 er) (.int .i64 (rd+1)) (.int .i64 is2) (.int .i64 til)
    have hP7:=At.all10 (hP5.on hb6) (.int .i64 kd) (.int .i64 bd) (.int .i64 pc) (.int .i64 wn) (.int .i64 sg) (.slice (some ⟨rb,ro,none⟩) recs.length cv) (.int .i64 er) (.int .i64 (rd+1)) (.int .i64 is2) (.int .i64 til)
    have hA7:=(hA5.on hb6).upd hu7 (fun h=>by have h' : w.heap.size=w3.heap.size:=h;omega)
    have hAz7:=(hAz5.on hb6).upd hu7 (fun h=>by have h' : w.heap.size+1=w3.heap.size:=h;omega)
    have hEv7:=(hEv5.on hb6).upd hu7 (fun k hk h=>by cases hk;have h' : w3.heap.size+1+1=w3.heap.size:=h;omega)
    have hf7:=hf.upd hu7 (fun k hk h=>by have:=(hf.lt k hk).1;have h' : k=w3.heap.size:=h;omega)
    have hW7:=(on_below hW5 hb6).upd hu7 (on_below hW5 hb6).size (fun k _ h=>by have h' : k=w3.heap.size:=h;omega)
    have hR7:=hrow.on (((on_below (on_below hb3 hB5) hb6).upd hu7 (on_below (on_below hb3 hB5) hb6).size (fun k _ h=>by have h' : k=w3.heap.size:=h;have:=hb3.size;omega)))
    generalize ((((((((((w6.setCell ⟨w3.heap.size,0,none⟩ (.int .i64 kd)).setCell ⟨w3.heap.size,1,none⟩ (.int .i64 bd)).setCell ⟨w3.heap.size,2,none⟩ (.int .i64 pc)).setCell ⟨w3.heap.size,3,none⟩ (.int .i64 wn)).setCell ⟨w3.heap.size,4,none⟩ (.int .i64 sg)).setCell ⟨w3.heap.size,5,none⟩ (.slice (some ⟨rb,ro,none⟩) recs.length cv)).setCell ⟨w3.heap.size,6,none⟩ (.int .i64 er)).setCell ⟨w3.heap.size,7,none⟩ (.int .i64 (rd+1))).setCell ⟨w3.heap.size,8,none⟩ (.int .i64 is2)).setCell ⟨w3.heap.size,9,none⟩ (.int .i64 til))=w7 at *
    obtain ⟨-,b0,y0,b1,y1,b2,y2,b3,y3,b4,y4⟩:=hA7.five
    obtain ⟨-,p0,x0,p1,x1,p2,x2,p3,x3,p4,x4,p5,x5,p6,x6,p7,x7,p8,x8,p9,x9⟩:=hP7.ten
    have hw7 : w.heap.size<w7.heap.size:=hA7.1
    have hz7 : w.heap.size+1<w7.heap.size:=hAz7.1
    have hV7 : PvOk w7 ⟨⟨⟨kd,bd,pc,wn,sg⟩,recs,er,rd+1,is2,til⟩,some ⟨rb,ro,none⟩,cv⟩:=by
      have h:=hR7.ok _ (List.getElem_mem hil)
      rw [hv0] at h
      exact ⟨h.row,h.le,h.cap⟩
    have HW:=Lib.hid (ref_with (some ⟨b,off,none⟩) n c l tm dr ck nw i ⟨⟨⟨kd,bd,pc,wn,sg⟩,recs,er,rd+1,is2,til⟩,some ⟨rb,ro,none⟩,cv⟩ w7 hR7 HN.out hil hV7 (by have:=HLE.out;omega))
    simp only [Pv.val] at HW
    rw [show ((rd+1 : Nat) : Int)=(rd : Int)+1 by omega] at HW
    have HADV:=fun (a' : Option Addr) (c' : Nat) (wx : World) (h : RowP wx a' (l.set i ⟨⟨⟨kd,bd,pc,wn,sg⟩,recs,er,rd+1,is2,til⟩,some ⟨rb,ro,none⟩,cv⟩))=>Lib.hid (ref_advance a' n c' (l.set i ⟨⟨⟨kd,bd,pc,wn,sg⟩,recs,er,rd+1,is2,til⟩,some ⟨rb,ro,none⟩,cv⟩) (ps.set i ⟨⟨kd,bd,pc,wn,sg⟩,recs,er,rd+1,is2,til⟩) tm dr ck nw wx h (by rw [List.length_set];exact HN.out) (HSET _ rfl) HPO.out (by have:=HLE.out;have:=HN.out;omega))
    have hu7s:=hu7.size
    clear hP7 hV7 hu7
    go_upto_region 11 with (first|(go_at_call 55;(with_reducible refine HW.out.mono ?_);intro e w8 hY;obtain ⟨a8,c8,rfl,hR8,hb8,hG8⟩:=hY;have HAD:=HADV a8 c8 _ hR8)|(go_at_call 52;(with_reducible refine HAD.out.mono ?_);intro e w9 hY;obtain ⟨r9,rfl,hm9,hb9⟩:=hY;obtain ⟨-,d0,g0,d1,g1,d2,g2,d3,g3,d4,g4⟩:=((hA7.on hb8).on hb9).five))
    clear b0 y0 b1 y1 b2 y2 b3 y3 b4 y4 p0 x0 p1 x1 p2 x2 p3 x3 p4 x4 p5 x5 p6 x6 p7 x7 p8 x8 p9 x9 d0 g0 d1 g1 d2 g2 d3 g3 d4 g4
    have hu10:=upd_all5 w9 w.heap.size (.slice a8 n c8) (.int .i64 tm) (.int .i64 dr) (.int .i64 ck) (.int .i64 (further nw (ps.set i ⟨⟨kd,bd,pc,wn,sg⟩,recs,er,rd+1,is2,til⟩)))
    have hA10:=At.all5 ((hA7.on hb8).on hb9) (.slice a8 n c8) (.int .i64 tm) (.int .i64 dr) (.int .i64 ck) (.int .i64 (further nw (ps.set i ⟨⟨kd,bd,pc,wn,sg⟩,recs,er,rd+1,is2,til⟩)))
    have hAz10:=((hAz7.on hb8).on hb9).upd hu10 (fun h=>by have h' : w.heap.size+1=w.heap.size:=h;omega)
    have hEv10:=((hEv7.on hb8).on hb9).upd hu10 (fun k hk h=>by cases hk;have h' : w3.heap.size+1+1=w.heap.size:=h;omega)
    have hf10:=((hf7.on hb8).on hb9).upd hu10 (fun k hk h=>by have:=(hf.lt k hk).1;have h' : k=w.heap.size:=h;have:=hB5.size;omega)
    have hm10:=hm9.upd hu10 (fun k hk h=>by have:=(hm9.lt k hk).1;have h' : k=w.heap.size:=h;have:=hb8.size;omega)
    have hW10:=(on_below (on_below hW7 hb8) hb9).upd hu10 (on_below (on_below hW7 hb8) hb9).size (fun k _ h=>by have h' : k=w.heap.size:=h;omega)
    have hlf : fs.length≤1:=HFL.out
    have hlm : (marksE nw (ps.set i ⟨⟨kd,bd,pc,wn,sg⟩,recs,er,rd+1,is2,til⟩)).length≤1:=marksE_len _ _
    have hs5:=hB5.size
    have hs6:=hb6.size
    have hs8:=hb8.size
    have hs58 : w5.heap.size≤w8.heap.size:=Nat.le_trans hb6.size (Nat.le_trans hu7s hb8.size)
    generalize (((((w9.setCell ⟨w.heap.size,0,none⟩ (.slice a8 n c8)).setCell ⟨w.heap.size,1,none⟩ (.int .i64 tm)).setCell ⟨w.heap.size,2,none⟩ (.int .i64 dr)).setCell ⟨w.heap.size,3,none⟩ (.int .i64 ck)).setCell ⟨w.heap.size,4,none⟩ (.int .i64 (further nw (ps.set i ⟨⟨kd,bd,pc,wn,sg⟩,recs,er,rd+1,is2,til⟩))))=w10 at *
    generalize further nw (ps.set i ⟨⟨kd,bd,pc,wn,sg⟩,recs,er,rd+1,is2,til⟩)=fu at *
    generalize marksE nw (ps.set i ⟨⟨kd,bd,pc,wn,sg⟩,recs,er,rd+1,is2,til⟩)=ms at *
    obtain ⟨ar,cr,hre⟩:=hf10.shape
    subst hre
    obtain ⟨a9,c9,hre⟩:=hm10.shape
    subst hre
    obtain ⟨i0,hi0,hz0,hz1,hz2⟩:=info_parts info_evr
    obtain ⟨hgA,d0,g0,d1,g1,d2,g2,d3,g3,d4,g4⟩:=hA10.five
    obtain ⟨hgZ,u0,z0,u1,z1,u2,z2,u3,z3,u4,z4⟩:=hAz10.five
    have hHW:=hW10.size
    have hs9:=hb9.size
    have hNE : w3.heap.size+1+1<w7.heap.size:=(hEv7.lt _ rfl).2
    have hs10:=hu10.size
    have h310 : w3.heap.size≤w10.heap.size:=by omega
    have hX10 : Upd (fun k=>w8.heap.size≤k∨k=w.heap.size∨k=w3.heap.size+1+1) w8 w10:=Upd.trans (Upd.of_below hb9 (fun k _ h=>.inl h)) hu10 (fun k _ h=>.inr (.inl h))
    have HPK : Hid (∀ v'∈l.set i ⟨⟨⟨kd,bd,pc,wn,sg⟩,recs,er,rd+1,is2,til⟩,some ⟨rb,ro,none⟩,cv⟩,K v'.a v'.c v'.p.recs):=fun v' h=>by
      rcases List.mem_or_eq_of_mem_set h with h|rfl
      · exact HVOK.out _ h
      · exact HPV.out
    have HNL : Hid (n=(ps.set i ⟨⟨kd,bd,pc,wn,sg⟩,recs,er,rd+1,is2,til⟩).length):=by
      show n=_
      rw [List.length_set,HN.out,HLE.out]
    have HIL : Hid (i<(l.set i ⟨⟨⟨kd,bd,pc,wn,sg⟩,recs,er,rd+1,is2,til⟩,some ⟨rb,ro,none⟩,cv⟩).length):=by
      show i<_
      rw [List.length_set];exact hil
    have HSM : Hid ((l.set i ⟨⟨⟨kd,bd,pc,wn,sg⟩,recs,er,rd+1,is2,til⟩,some ⟨rb,ro,none⟩,cv⟩).map (·.p)=ps.set i ⟨⟨kd,bd,pc,wn,sg⟩,recs,er,rd+1,is2,til⟩):=HSET _ rfl
    have HLM : Hid (1+fs.length+ms.length=(Ev.el false i rt rk rx::(fs++ms)).length):=by
      show _=_
      simp only [List.length_cons,List.length_append];omega
    have HCS : Hid (evcs [Ev.el false i rt rk rx]++evcs fs++evcs ms=evcs (Ev.el false i rt rk rx::(fs++ms))):=by
      show _=_
      simp [evcs]
    have HR8:=Lib.hid hR8.row
    have HX10:=Lib.hid hX10
    have HW10:=Lib.hid hW10
    have hd7 : w3.heap.size+1+1≠w.heap.size:=by omega
    have hd8 : w3.heap.size+1+1≠w.heap.size+1:=by omega
    have hd9 : w.heap.size<w10.heap.size:=by omega
    have hda : w.heap.size+1<w10.heap.size:=by omega
    have hdm : ∀ q,(Value.slice a9 ms.length c9).ownBlock=some q→w3.heap.size+1+1≠q:=fun q hq e=>by have:=(hm10.lt _ hq).1;omega
    have hs810 : w8.heap.size≤w10.heap.size:=hX10.size
    clear hX10 hW10 hR8 hA7 hAz7 hEv7 hf7 hR7 hW7 hm9 hu10 hb9
    clear HADV HAD HW HSE HSET HPO HN HL HLE HR HADD HVOK HPV
    go_region_law (first|(refine step_append_mine rfl (.tmp 66) (.tmp 67) 46 46 rfl 56 i0 _ 72 Tryz.underlying46 hi0 hz0 hz1 hz2 rfl (.slice (some ⟨w3.heap.size+1+1,0,none⟩) 1 1) (.slice ar fs.length cr) fs.length (evcs fs) rfl rfl hEv10.drew (src_sl hf10.drew Tryz.underlying46 (evcs_one _)) (by unfold maxLen;omega) (by omega) h310 ?_;intro a11 c11 w11 k1 k2 k3;have hX11:=Upd.trans HX10.out.drew k2 (fun k _ h=>.inr (.inr (Option.some.inj h).symm));have hA11:=hA10.drew.upd k2 (fun h=>hd7 (Option.some.inj h));have hAz11:=hAz10.drew.upd k2 (fun h=>hd8 (Option.some.inj h));have hm11:=hm10.drew.upd k2 (fun q hq h=>hdm q hq (Option.some.inj h));have hW11:=HW10.out.drew.upd k2 HW10.out.size (fun q _ h=>by have h2 : w3.heap.size+1+1=q:=Option.some.inj h;omega);have hs11 : w10.heap.size≤w11.heap.size:=k2.size;clear hgA d0 g0 d1 g1 d2 g2 d3 g3 d4 g4 hgZ u0 z0 u1 z1 u2 z2 u3 z3 u4 z4;obtain ⟨hgA,d0,g0,d1,g1,d2,g2,d3,g3,d4,g4⟩:=hA11.five;obtain ⟨hgZ,u0,z0,u1,z1,u2,z2,u3,z3,u4,z4⟩:=hAz11.five)|(refine step_append_mine rfl (.tmp 68) (.tmp 69) 46 46 rfl 56 i0 _ 72 Tryz.underlying46 hi0 hz0 hz1 hz2 rfl (.slice a11 (1+fs.length) c11) (.slice a9 ms.length c9) ms.length (evcs ms) rfl rfl k1 (src_sl hm11 Tryz.underlying46 (evcs_one _)) (by unfold maxLen;omega) (by omega) (Nat.le_trans h310 hs11) ?_;intro a12 c12 w12 l1 l2 l3;have hX12:=Upd.trans hX11 l2 (fun k _ h=>(k3 _ h).elim (fun h'=>.inr (.inr (Option.some.inj h').symm)) (fun h'=>.inl (Nat.le_trans hs810 h')));have hA12:=hA11.upd l2 (fun h=>(k3 _ h).elim (fun h'=>hd7 (Option.some.inj h')) (fun h'=>Nat.not_le_of_lt hd9 h'));have hAz12:=hAz11.upd l2 (fun h=>(k3 _ h).elim (fun h'=>hd8 (Option.some.inj h')) (fun h'=>Nat.not_le_of_lt hda h'));have hW12:=hW11.upd l2 hW11.size (fun q _ h=>by have:=(k1.lt q h).1;omega);clear hgA d0 g0 d1 g1 d2 g2 d3 g3 d4 g4 hgZ u0 z0 u1 z1 u2 z2 u3 z3 u4 z4;obtain ⟨hgA,d0,g0,d1,g1,d2,g2,d3,g3,d4,g4⟩:=hA12.five;obtain ⟨hgZ,u0,z0,u1,z1,u2,z2,u3,z3,u4,z4⟩:=hAz12.five)|fail)
    all_goals
      have HDN:=Lib.hid (fun (wf : World) (hu : Upd (fun k=>k=w.heap.size+1) w12 wf)=>poll_done (a0:=some ⟨b,off,none⟩) (c8:=c8) (tm:=tm) (dr:=dr) (ck:=ck) (fu:=fu) HIL.out HR8.out hG8 hX12 hu (by omega) hNE HPK.out HSM.out HNL.out hW12 l1 (by omega) HLM.out HCS.out)
      have hT:=Lib.hid (fun x0 x1 x2 x3 x4=>At.all5 hAz12 x0 x1 x2 x3 x4)
      have hBo:=Lib.hid (fun x0 x1 x2 x3 x4=>Upd.all5 (g:=w.heap.size+1) (Upd.refl (fun k=>k=w.heap.size+1) w12) (fun _=>rfl) x0 x1 x2 x3 x4)
      clear HIL HR8 hG8 hX12 HPK HSM HNL hW12 l1 l2 l3 k1 k2 k3 HLM HCS hAz12 hA12 hA11 hAz11 hm11 hW11 hX11 hA10 hAz10 hEv10 hf10 hm10
      clear e hil hii hA0 hck htm hnw hn8 hfe hrr hv0 hcell hrb HRD hin hrc HFL hA1 hA0' hB0 hrow hbl hsz hne2 hb3 hw3 hbb hrb3 hnz hNN hP5 hB5 hEv5 hA5 hAz5 hW5 hR5 hn3 p0 x0 p1 x1 p2 x2 p3 x3 p4 x4 p5 x5 p6 x6 p7 x7 p8 x8 p9 x9 hb6 hw7 hz7 hu7s hb8 hlf hs5 hs6 hs8 hs58 hlm hf hi0 hz0 hz1 hz2 hHW hs9 hNE hs10 h310 HX10 HW10 hd7 hd8 hd9 hda hdm hs810 hs11
      (try clear hle)
      (try clear hle2)
      (try clear hle3)
      generalize w.heap.size+1=N1 at *
      refine (‹∀ (ax : Act) (wx : World),Code.wp Tryz.prog Code.ret _ ax wx→_›) _ _ ?_
      refine wp_ret ?_
      refine bodyPost_ret (results_at2 (fn:=Tryz.f53) rfl _ rfl (hT.out _ _ _ _ _) Tryz.underlying45 rfl (by kernel_rfl)) rfl ?_
      rw [HLT.out]
      exact HDN.out _ (hBo.out _ _ _ _ _)
  · have hne2 : (nw != -9223372036854775808)=true:=by rw [bne_iff_ne];exact hne
    by_cases hle : rk≤nw
    · have HLT : Hid (lateOf nw (rt,rk,rx)=true):=decide_eq_true ⟨hne,hle⟩
      clear hla hne
      go_upto_region 7 with (first|(go_at_call 98;(with_reducible refine HR.out.mono ?_);rintro e w3 ⟨rfl,hb3⟩;obtain ⟨hw3,b0,y0,b1,y1,b2,y2,b3,y3,b4,y4⟩:=(hA0'.on hb3).five;obtain ⟨hbb,p0,p1,p2,p3,p4,p5,p6,p7,p8,p9⟩:=hcell _ (hrow.on hb3);obtain ⟨hrb3,q0,q1,q2⟩:=hrc _ (hrow.on hb3)))
      clear b0 y0 b1 y1 b2 y2 b3 y3 b4 y4 p0 p1 p2 p3 p4 p5 p6 p7 p8 p9 q0 q1 q2
      have hP : At (((w3.alloc (.cells #[.int .i64 kd,.int .i64 bd,.int .i64 pc,.int .i64 wn,.int .i64 sg,.slice (some ⟨rb,ro,none⟩) recs.length cv,.int .i64 er,.int .i64 (rd+1),.int .i64 is,.int .i64 tl] 62)).alloc (.cells #[.int .i64 rt,.int .i64 rk,.string (bstr rx)] 54)).alloc (.cells #[.int .i64 0,.int .i64 i,.int .i64 rt,.int .i64 rk,.string (bstr rx),.bool true,.int .i64 0,.int .i64 0] 56)) w3.heap.size [.int .i64 kd,.int .i64 bd,.int .i64 pc,.int .i64 wn,.int .i64 sg,.slice (some ⟨rb,ro,none⟩) recs.length cv,.int .i64 er,.int .i64 (rd+1),.int .i64 is,.int .i64 tl]:=((At.alloc w3 _ _).on (e _ _)).on (e _ _)
      have hEv : Sl w3.heap.size (((w3.alloc (.cells #[.int .i64 kd,.int .i64 bd,.int .i64 pc,.int .i64 wn,.int .i64 sg,.slice (some ⟨rb,ro,none⟩) recs.length cv,.int .i64 er,.int .i64 (rd+1),.int .i64 is,.int .i64 tl] 62)).alloc (.cells #[.int .i64 rt,.int .i64 rk,.string (bstr rx)] 54)).alloc (.cells #[.int .i64 0,.int .i64 i,.int .i64 rt,.int .i64 rk,.string (bstr rx),.bool true,.int .i64 0,.int .i64 0] 56)) 8 (.slice (some ⟨w3.heap.size+1+1,0,none⟩) 1 1) 1 (evcs [.el true i rt rk rx]):=ev_row (.el true i rt rk rx) (by simp) (by simp;omega)
      have hB4 : Below w3.heap.size w3 (((w3.alloc (.cells #[.int .i64 kd,.int .i64 bd,.int .i64 pc,.int .i64 wn,.int .i64 sg,.slice (some ⟨rb,ro,none⟩) recs.length cv,.int .i64 er,.int .i64 (rd+1),.int .i64 is,.int .i64 tl] 62)).alloc (.cells #[.int .i64 rt,.int .i64 rk,.string (bstr rx)] 54)).alloc (.cells #[.int .i64 0,.int .i64 i,.int .i64 rt,.int .i64 rk,.string (bstr rx),.bool true,.int .i64 0,.int .i64 0] 56)):=on_below (on_below (e _ _) (e _ _)) (e _ _)
      generalize (((w3.alloc (.cells #[.int .i64 kd,.int .i64 bd,.int .i64 pc,.int .i64 wn,.int .i64 sg,.slice (some ⟨rb,ro,none⟩) recs.length cv,.int .i64 er,.int .i64 (rd+1),.int .i64 is,.int .i64 tl] 62)).alloc (.cells #[.int .i64 rt,.int .i64 rk,.string (bstr rx)] 54)).alloc (.cells #[.int .i64 0,.int .i64 i,.int .i64 rt,.int .i64 rk,.string (bstr rx),.bool true,.int .i64 0,.int .i64 0] 56))=w4 at *
      have hP5:=(hP.set 8 (by simp) (.int .i64 0)).set 9 (by simp) (.int .i64 til)
      simp only [List.set] at hP5
      have hB5:=(hB4.setCell (p:=⟨w3.heap.size,8,none⟩) (Nat.le_refl _) (.int .i64 0)).setCell (p:=⟨w3.heap.size,9,none⟩) (Nat.le_refl _) (.int .i64 til)
      have hu5 : Upd (fun k=>k=w3.heap.size) w4 ((w4.setCell ⟨w3.heap.size,8,none⟩ (.int .i64 0)).setCell ⟨w3.heap.size,9,none⟩ (.int .i64 til)):=((Upd.refl (fun k=>k=w3.heap.size) w4).setCell (p:=⟨w3.heap.size,8,none⟩) (fun _=>rfl) (.int .i64 0)).setCell (p:=⟨w3.heap.size,9,none⟩) (fun _=>rfl) (.int .i64 til)
      have hEv5:=hEv.upd hu5 (fun k hk h=>by cases hk;have h' : w3.heap.size+1+1=w3.heap.size:=h;omega)
      have hA4:=(hA0'.on hb3).on hB4
      have hAz4:=(hA1.on hb3).on hB4
      have hA5:=hA4.upd hu5 (fun h=>by have h' : w.heap.size=w3.heap.size:=h;omega)
      have hAz5:=hAz4.upd hu5 (fun h=>by have h' : w.heap.size+1=w3.heap.size:=h;have:=(hA1.on hb3).1;omega)
      have hnz : w.heap.size+1<w3.heap.size:=(hA1.on hb3).1
      obtain ⟨hw4,b0,y0,b1,y1,b2,y2,b3,y3,b4,y4⟩:=hA4.five
      obtain ⟨hn3,p0,x0,p1,x1,p2,x2,p3,x3,p4,x4,p5,x5,p6,x6,p7,x7,p8,x8,p9,x9⟩:=hP.ten
      have hNN : w.heap.size<w3.heap.size:=hw3
      go_upto_region 9 with (first|(go_at_call 54;(with_reducible refine (HADD _).out.mono ?_);rintro e w3 ⟨rfl,rfl⟩))
      clear b0 y0 b1 y1 b2 y2 b3 y3 b4 y4 p0 x0 p1 x1 p2 x2 p3 x3 p4 x4 p5 x5 p6 x6 p7 x7 p8 x8 p9 x9 hw4 hn3 hA4 hAz4 hEv hP hu5 hB4
      generalize (w4.setCell ⟨w3.heap.size,8,none⟩ (.int .i64 0)).setCell ⟨w3.heap.size,9,none⟩ (.int .i64 til)=w5 at *
      have hW5:=on_below (on_below hB0 hb3) hB5
      have hR5:=(hrow.on hb3).on hB5
      obtain ⟨hn3,p0,x0,p1,x1,p2,x2,p3,x3,p4,x4,p5,x5,p6,x6,p7,x7,p8,x8,p9,x9⟩:=hP5.ten
      go_upto_region 10 with (first|(go_at_call 51;(with_reducible refine (HSE _).out.mono ?_);intro e w6 hF;obtain ⟨r,rfl,hf,hb6⟩:=hF;obtain ⟨-,p0,x0,p1,x1,p2,x2,p3,x3,p4,x4,p5,x5,p6,x6,p7,x7,p8,x8,p9,x9⟩:=(hP5.on hb6).ten))
      clear p0 x0 p1 x1 p2 x2 p3 x3 p4 x4 p5 x5 p6 x6 p7 x7 p8 x8 p9 x9
      have hu7:=upd_all10 w6 w3.heap.size (.int .i64 kd) (.int .i64 bd) (.int .i64 pc) (.int .i64 wn) (.int .i64 sg) (.slice (some ⟨rb,ro,none⟩) recs.length cv) (.int .i64 er) (.int .i64 (rd+1)) (.int .i64 is2) (.int .i64 til)
      have hP7:=At.all10 (hP5.on hb6) (.int .i64 kd) (.int .i64 bd) (.int .i64 pc) (.int .i64 wn) (.int .i64 sg) (.slice (some ⟨rb,ro,none⟩) recs.length cv) (.int .i64 er) (.int .i64 (rd+1)) (.int .i64 is2) (.int .i64 til)
      have hA7:=(hA5.on hb6).upd hu7 (fun h=>by have h' : w.heap.size=w3.heap.size:=h;omega)
      have hAz7:=(hAz5.on hb6).upd hu7 (fun h=>by have h' : w.heap.size+1=w3.heap.size:=h;omega)
      have hEv7:=(hEv5.on hb6).upd hu7 (fun k hk h=>by cases hk;have h' : w3.heap.size+1+1=w3.heap.size:=h;omega)
      have hf7:=hf.upd hu7 (fun k hk h=>by have:=(hf.lt k hk).1;have h' : k=w3.heap.size:=h;omega)
      have hW7:=(on_below hW5 hb6).upd hu7 (on_below hW5 hb6).size (fun k _ h=>by have h' : k=w3.heap.size:=h;omega)
      have hR7:=hrow.on (((on_below (on_below hb3 hB5) hb6).upd hu7 (on_below (on_below hb3 hB5) hb6).size (fun k _ h=>by have h' : k=w3.heap.size:=h;have:=hb3.size;omega)))
      generalize ((((((((((w6.setCell ⟨w3.heap.size,0,none⟩ (.int .i64 kd)).setCell ⟨w3.heap.size,1,none⟩ (.int .i64 bd)).setCell ⟨w3.heap.size,2,none⟩ (.int .i64 pc)).setCell ⟨w3.heap.size,3,none⟩ (.int .i64 wn)).setCell ⟨w3.heap.size,4,none⟩ (.int .i64 sg)).setCell ⟨w3.heap.size,5,none⟩ (.slice (some ⟨rb,ro,none⟩) recs.length cv)).setCell ⟨w3.heap.size,6,none⟩ (.int .i64 er)).setCell ⟨w3.heap.size,7,none⟩ (.int .i64 (rd+1))).setCell ⟨w3.heap.size,8,none⟩ (.int .i64 is2)).setCell ⟨w3.heap.size,9,none⟩ (.int .i64 til))=w7 at *
      obtain ⟨-,b0,y0,b1,y1,b2,y2,b3,y3,b4,y4⟩:=hA7.five
      obtain ⟨-,p0,x0,p1,x1,p2,x2,p3,x3,p4,x4,p5,x5,p6,x6,p7,x7,p8,x8,p9,x9⟩:=hP7.ten
      have hw7 : w.heap.size<w7.heap.size:=hA7.1
      have hz7 : w.heap.size+1<w7.heap.size:=hAz7.1
      have hV7 : PvOk w7 ⟨⟨⟨kd,bd,pc,wn,sg⟩,recs,er,rd+1,is2,til⟩,some ⟨rb,ro,none⟩,cv⟩:=by
        have h:=hR7.ok _ (List.getElem_mem hil)
        rw [hv0] at h
        exact ⟨h.row,h.le,h.cap⟩
      have HW:=Lib.hid (ref_with (some ⟨b,off,none⟩) n c l tm dr ck nw i ⟨⟨⟨kd,bd,pc,wn,sg⟩,recs,er,rd+1,is2,til⟩,some ⟨rb,ro,none⟩,cv⟩ w7 hR7 HN.out hil hV7 (by have:=HLE.out;omega))
      simp only [Pv.val] at HW
      rw [show ((rd+1 : Nat) : Int)=(rd : Int)+1 by omega] at HW
      have HADV:=fun (a' : Option Addr) (c' : Nat) (wx : World) (h : RowP wx a' (l.set i ⟨⟨⟨kd,bd,pc,wn,sg⟩,recs,er,rd+1,is2,til⟩,some ⟨rb,ro,none⟩,cv⟩))=>Lib.hid (ref_advance a' n c' (l.set i ⟨⟨⟨kd,bd,pc,wn,sg⟩,recs,er,rd+1,is2,til⟩,some ⟨rb,ro,none⟩,cv⟩) (ps.set i ⟨⟨kd,bd,pc,wn,sg⟩,recs,er,rd+1,is2,til⟩) tm dr ck nw wx h (by rw [List.length_set];exact HN.out) (HSET _ rfl) HPO.out (by have:=HLE.out;have:=HN.out;omega))
      have hu7s:=hu7.size
      clear hP7 hV7 hu7
      go_upto_region 11 with (first|(go_at_call 55;(with_reducible refine HW.out.mono ?_);intro e w8 hY;obtain ⟨a8,c8,rfl,hR8,hb8,hG8⟩:=hY;have HAD:=HADV a8 c8 _ hR8)|(go_at_call 52;(with_reducible refine HAD.out.mono ?_);intro e w9 hY;obtain ⟨r9,rfl,hm9,hb9⟩:=hY;obtain ⟨-,d0,g0,d1,g1,d2,g2,d3,g3,d4,g4⟩:=((hA7.on hb8).on hb9).five))
      clear b0 y0 b1 y1 b2 y2 b3 y3 b4 y4 p0 x0 p1 x1 p2 x2 p3 x3 p4 x4 p5 x5 p6 x6 p7 x7 p8 x8 p9 x9 d0 g0 d1 g1 d2 g2 d3 g3 d4 g4
      have hu10:=upd_all5 w9 w.heap.size (.slice a8 n c8) (.int .i64 tm) (.int .i64 dr) (.int .i64 ck) (.int .i64 (further nw (ps.set i ⟨⟨kd,bd,pc,wn,sg⟩,recs,er,rd+1,is2,til⟩)))
      have hA10:=At.all5 ((hA7.on hb8).on hb9) (.slice a8 n c8) (.int .i64 tm) (.int .i64 dr) (.int .i64 ck) (.int .i64 (further nw (ps.set i ⟨⟨kd,bd,pc,wn,sg⟩,recs,er,rd+1,is2,til⟩)))
      have hAz10:=((hAz7.on hb8).on hb9).upd hu10 (fun h=>by have h' : w.heap.size+1=w.heap.size:=h;omega)
      have hEv10:=((hEv7.on hb8).on hb9).upd hu10 (fun k hk h=>by cases hk;have h' : w3.heap.size+1+1=w.heap.size:=h;omega)
      have hf10:=((hf7.on hb8).on hb9).upd hu10 (fun k hk h=>by have:=(hf.lt k hk).1;have h' : k=w.heap.size:=h;have:=hB5.size;omega)
      have hm10:=hm9.upd hu10 (fun k hk h=>by have:=(hm9.lt k hk).1;have h' : k=w.heap.size:=h;have:=hb8.size;omega)
      have hW10:=(on_below (on_below hW7 hb8) hb9).upd hu10 (on_below (on_below hW7 hb8) hb9).size (fun k _ h=>by have h' : k=w.heap.size:=h;omega)
      have hlf : fs.length≤1:=HFL.out
      have hlm : (marksE nw (ps.set i ⟨⟨kd,bd,pc,wn,sg⟩,recs,er,rd+1,is2,til⟩)).length≤1:=marksE_len _ _
      have hs5:=hB5.size
      have hs6:=hb6.size
      have hs8:=hb8.size
      have hs58 : w5.heap.size≤w8.heap.size:=Nat.le_trans hb6.size (Nat.le_trans hu7s hb8.size)
      generalize (((((w9.setCell ⟨w.heap.size,0,none⟩ (.slice a8 n c8)).setCell ⟨w.heap.size,1,none⟩ (.int .i64 tm)).setCell ⟨w.heap.size,2,none⟩ (.int .i64 dr)).setCell ⟨w.heap.size,3,none⟩ (.int .i64 ck)).setCell ⟨w.heap.size,4,none⟩ (.int .i64 (further nw (ps.set i ⟨⟨kd,bd,pc,wn,sg⟩,recs,er,rd+1,is2,til⟩))))=w10 at *
      generalize further nw (ps.set i ⟨⟨kd,bd,pc,wn,sg⟩,recs,er,rd+1,is2,til⟩)=fu at *
      generalize marksE nw (ps.set i ⟨⟨kd,bd,pc,wn,sg⟩,recs,er,rd+1,is2,til⟩)=ms at *
      obtain ⟨ar,cr,hre⟩:=hf10.shape
      subst hre
      obtain ⟨a9,c9,hre⟩:=hm10.shape
      subst hre
      obtain ⟨i0,hi0,hz0,hz1,hz2⟩:=info_parts info_evr
      obtain ⟨hgA,d0,g0,d1,g1,d2,g2,d3,g3,d4,g4⟩:=hA10.five
      obtain ⟨hgZ,u0,z0,u1,z1,u2,z2,u3,z3,u4,z4⟩:=hAz10.five
      have hHW:=hW10.size
      have hs9:=hb9.size
      have hNE : w3.heap.size+1+1<w7.heap.size:=(hEv7.lt _ rfl).2
      have hs10:=hu10.size
      have h310 : w3.heap.size≤w10.heap.size:=by omega
      have hX10 : Upd (fun k=>w8.heap.size≤k∨k=w.heap.size∨k=w3.heap.size+1+1) w8 w10:=Upd.trans (Upd.of_below hb9 (fun k _ h=>.inl h)) hu10 (fun k _ h=>.inr (.inl h))
      have HPK : Hid (∀ v'∈l.set i ⟨⟨⟨kd,bd,pc,wn,sg⟩,recs,er,rd+1,is2,til⟩,some ⟨rb,ro,none⟩,cv⟩,K v'.a v'.c v'.p.recs):=fun v' h=>by
        rcases List.mem_or_eq_of_mem_set h with h|rfl
        · exact HVOK.out _ h
        · exact HPV.out
      have HNL : Hid (n=(ps.set i ⟨⟨kd,bd,pc,wn,sg⟩,recs,er,rd+1,is2,til⟩).length):=by
        show n=_
        rw [List.length_set,HN.out,HLE.out]
      have HIL : Hid (i<(l.set i ⟨⟨⟨kd,bd,pc,wn,sg⟩,recs,er,rd+1,is2,til⟩,some ⟨rb,ro,none⟩,cv⟩).length):=by
        show i<_
        rw [List.length_set];exact hil
      have HSM : Hid ((l.set i ⟨⟨⟨kd,bd,pc,wn,sg⟩,recs,er,rd+1,is2,til⟩,some ⟨rb,ro,none⟩,cv⟩).map (·.p)=ps.set i ⟨⟨kd,bd,pc,wn,sg⟩,recs,er,rd+1,is2,til⟩):=HSET _ rfl
      have HLM : Hid (1+fs.length+ms.length=(Ev.el true i rt rk rx::(fs++ms)).length):=by
        show _=_
        simp only [List.length_cons,List.length_append];omega
      have HCS : Hid (evcs [Ev.el true i rt rk rx]++evcs fs++evcs ms=evcs (Ev.el true i rt rk rx::(fs++ms))):=by
        show _=_
        simp [evcs]
      have HR8:=Lib.hid hR8.row
      have HX10:=Lib.hid hX10
      have HW10:=Lib.hid hW10
      have hd7 : w3.heap.size+1+1≠w.heap.size:=by omega
      have hd8 : w3.heap.size+1+1≠w.heap.size+1:=by omega
      have hd9 : w.heap.size<w10.heap.size:=by omega
      have hda : w.heap.size+1<w10.heap.size:=by omega
      have hdm : ∀ q,(Value.slice a9 ms.length c9).ownBlock=some q→w3.heap.size+1+1≠q:=fun q hq e=>by have:=(hm10.lt _ hq).1;omega
      have hs810 : w8.heap.size≤w10.heap.size:=hX10.size
      clear hX10 hW10 hR8 hA7 hAz7 hEv7 hf7 hR7 hW7 hm9 hu10 hb9
      clear HADV HAD HW HSE HSET HPO HN HL HLE HR HADD HVOK HPV
      go_region_law (first|(refine step_append_mine rfl (.tmp 66) (.tmp 67) 46 46 rfl 56 i0 _ 72 Tryz.underlying46 hi0 hz0 hz1 hz2 rfl (.slice (some ⟨w3.heap.size+1+1,0,none⟩) 1 1) (.slice ar fs.length cr) fs.length (evcs fs) rfl rfl hEv10.drew (src_sl hf10.drew Tryz.underlying46 (evcs_one _)) (by unfold maxLen;omega) (by omega) h310 ?_;intro a11 c11 w11 k1 k2 k3;have hX11:=Upd.trans HX10.out.drew k2 (fun k _ h=>.inr (.inr (Option.some.inj h).symm));have hA11:=hA10.drew.upd k2 (fun h=>hd7 (Option.some.inj h));have hAz11:=hAz10.drew.upd k2 (fun h=>hd8 (Option.some.inj h));have hm11:=hm10.drew.upd k2 (fun q hq h=>hdm q hq (Option.some.inj h));have hW11:=HW10.out.drew.upd k2 HW10.out.size (fun q _ h=>by have h2 : w3.heap.size+1+1=q:=Option.some.inj h;omega);have hs11 : w10.heap.size≤w11.heap.size:=k2.size;clear hgA d0 g0 d1 g1 d2 g2 d3 g3 d4 g4 hgZ u0 z0 u1 z1 u2 z2 u3 z3 u4 z4;obtain ⟨hgA,d0,g0,d1,g1,d2,g2,d3,g3,d4,g4⟩:=hA11.five;obtain ⟨hgZ,u0,z0,u1,z1,u2,z2,u3,z3,u4,z4⟩:=hAz11.five)|(refine step_append_mine rfl (.tmp 68) (.tmp 69) 46 46 rfl 56 i0 _ 72 Tryz.underlying46 hi0 hz0 hz1 hz2 rfl (.slice a11 (1+fs.length) c11) (.slice a9 ms.length c9) ms.length (evcs ms) rfl rfl k1 (src_sl hm11 Tryz.underlying46 (evcs_one _)) (by unfold maxLen;omega) (by omega) (Nat.le_trans h310 hs11) ?_;intro a12 c12 w12 l1 l2 l3;have hX12:=Upd.trans hX11 l2 (fun k _ h=>(k3 _ h).elim (fun h'=>.inr (.inr (Option.some.inj h').symm)) (fun h'=>.inl (Nat.le_trans hs810 h')));have hA12:=hA11.upd l2 (fun h=>(k3 _ h).elim (fun h'=>hd7 (Option.some.inj h')) (fun h'=>Nat.not_le_of_lt hd9 h'));have hAz12:=hAz11.upd l2 (fun h=>(k3 _ h).elim (fun h'=>hd8 (Option.some.inj h')) (fun h'=>Nat.not_le_of_lt hda h'));have hW12:=hW11.upd l2 hW11.size (fun q _ h=>by have:=(k1.lt q h).1;omega);clear hgA d0 g0 d1 g1 d2 g2 d3 g3 d4 g4 hgZ u0 z0 u1 z1 u2 z2 u3 z3 u4 z4;obtain ⟨hgA,d0,g0,d1,g1,d2,g2,d3,g3,d4,g4⟩:=hA12.five;obtain ⟨hgZ,u0,z0,u1,z1,u2,z2,u3,z3,u4,z4⟩:=hAz12.five)|fail)
      all_goals
        have HDN:=Lib.hid (fun (wf : World) (hu : Upd (fun k=>k=w.heap.size+1) w12 wf)=>poll_done (a0:=some ⟨b,off,none⟩) (c8:=c8) (tm:=tm) (dr:=dr) (ck:=ck) (fu:=fu) HIL.out HR8.out hG8 hX12 hu (by omega) hNE HPK.out HSM.out HNL.out hW12 l1 (by omega) HLM.out HCS.out)
        have hT:=Lib.hid (fun x0 x1 x2 x3 x4=>At.all5 hAz12 x0 x1 x2 x3 x4)
        have hBo:=Lib.hid (fun x0 x1 x2 x3 x4=>Upd.all5 (g:=w.heap.size+1) (Upd.refl (fun k=>k=w.heap.size+1) w12) (fun _=>rfl) x0 x1 x2 x3 x4)
        clear HIL HR8 hG8 hX12 HPK HSM HNL hW12 l1 l2 l3 k1 k2 k3 HLM HCS hAz12 hA12 hA11 hAz11 hm11 hW11 hX11 hA10 hAz10 hEv10 hf10 hm10
        clear e hil hii hA0 hck htm hnw hn8 hfe hrr hv0 hcell hrb HRD hin hrc HFL hA1 hA0' hB0 hrow hbl hsz hne2 hb3 hw3 hbb hrb3 hnz hNN hP5 hB5 hEv5 hA5 hAz5 hW5 hR5 hn3 p0 x0 p1 x1 p2 x2 p3 x3 p4 x4 p5 x5 p6 x6 p7 x7 p8 x8 p9 x9 hb6 hw7 hz7 hu7s hb8 hlf hs5 hs6 hs8 hs58 hlm hf hi0 hz0 hz1 hz2 hHW hs9 hNE hs10 h310 HX10 HW10 hd7 hd8 hd9 hda hdm hs810 hs11
        (try clear hle)
        (try clear hle2)
        (try clear hle3)
        generalize w.heap.size+1=N1 at *
        refine (‹∀ (ax : Act) (wx : World),Code.wp Tryz.prog Code.ret _ ax wx→_›) _ _ ?_
        refine wp_ret ?_
        refine bodyPost_ret (results_at2 (fn:=Tryz.f53) rfl _ rfl (hT.out _ _ _ _ _) Tryz.underlying45 rfl (by kernel_rfl)) rfl ?_
        rw [HLT.out]
        exact HDN.out _ (hBo.out _ _ _ _ _)
    · have HLT : Hid (lateOf nw (rt,rk,rx)=false):=decide_eq_false (fun h=>hle h.2)
      have hle2 : nw<rk:=by omega
      have hle3 : (decide (rk≤nw))=false:=decide_eq_false hle
      clear hla hne
      go_upto_region 7 with (first|(go_at_call 98;(with_reducible refine HR.out.mono ?_);rintro e w3 ⟨rfl,hb3⟩;obtain ⟨hw3,b0,y0,b1,y1,b2,y2,b3,y3,b4,y4⟩:=(hA0'.on hb3).five;obtain ⟨hbb,p0,p1,p2,p3,p4,p5,p6,p7,p8,p9⟩:=hcell _ (hrow.on hb3);obtain ⟨hrb3,q0,q1,q2⟩:=hrc _ (hrow.on hb3)))
      clear b0 y0 b1 y1 b2 y2 b3 y3 b4 y4 p0 p1 p2 p3 p4 p5 p6 p7 p8 p9 q0 q1 q2
      have hP : At (((w3.alloc (.cells #[.int .i64 kd,.int .i64 bd,.int .i64 pc,.int .i64 wn,.int .i64 sg,.slice (some ⟨rb,ro,none⟩) recs.length cv,.int .i64 er,.int .i64 (rd+1),.int .i64 is,.int .i64 tl] 62)).alloc (.cells #[.int .i64 rt,.int .i64 rk,.string (bstr rx)] 54)).alloc (.cells #[.int .i64 0,.int .i64 i,.int .i64 rt,.int .i64 rk,.string (bstr rx),.bool false,.int .i64 0,.int .i64 0] 56)) w3.heap.size [.int .i64 kd,.int .i64 bd,.int .i64 pc,.int .i64 wn,.int .i64 sg,.slice (some ⟨rb,ro,none⟩) recs.length cv,.int .i64 er,.int .i64 (rd+1),.int .i64 is,.int .i64 tl]:=((At.alloc w3 _ _).on (e _ _)).on (e _ _)
      have hEv : Sl w3.heap.size (((w3.alloc (.cells #[.int .i64 kd,.int .i64 bd,.int .i64 pc,.int .i64 wn,.int .i64 sg,.slice (some ⟨rb,ro,none⟩) recs.length cv,.int .i64 er,.int .i64 (rd+1),.int .i64 is,.int .i64 tl] 62)).alloc (.cells #[.int .i64 rt,.int .i64 rk,.string (bstr rx)] 54)).alloc (.cells #[.int .i64 0,.int .i64 i,.int .i64 rt,.int .i64 rk,.string (bstr rx),.bool false,.int .i64 0,.int .i64 0] 56)) 8 (.slice (some ⟨w3.heap.size+1+1,0,none⟩) 1 1) 1 (evcs [.el false i rt rk rx]):=ev_row (.el false i rt rk rx) (by simp) (by simp;omega)
      have hB4 : Below w3.heap.size w3 (((w3.alloc (.cells #[.int .i64 kd,.int .i64 bd,.int .i64 pc,.int .i64 wn,.int .i64 sg,.slice (some ⟨rb,ro,none⟩) recs.length cv,.int .i64 er,.int .i64 (rd+1),.int .i64 is,.int .i64 tl] 62)).alloc (.cells #[.int .i64 rt,.int .i64 rk,.string (bstr rx)] 54)).alloc (.cells #[.int .i64 0,.int .i64 i,.int .i64 rt,.int .i64 rk,.string (bstr rx),.bool false,.int .i64 0,.int .i64 0] 56)):=on_below (on_below (e _ _) (e _ _)) (e _ _)
      generalize (((w3.alloc (.cells #[.int .i64 kd,.int .i64 bd,.int .i64 pc,.int .i64 wn,.int .i64 sg,.slice (some ⟨rb,ro,none⟩) recs.length cv,.int .i64 er,.int .i64 (rd+1),.int .i64 is,.int .i64 tl] 62)).alloc (.cells #[.int .i64 rt,.int .i64 rk,.string (bstr rx)] 54)).alloc (.cells #[.int .i64 0,.int .i64 i,.int .i64 rt,.int .i64 rk,.string (bstr rx),.bool false,.int .i64 0,.int .i64 0] 56))=w4 at *
      have hP5:=(hP.set 8 (by simp) (.int .i64 0)).set 9 (by simp) (.int .i64 til)
      simp only [List.set] at hP5
      have hB5:=(hB4.setCell (p:=⟨w3.heap.size,8,none⟩) (Nat.le_refl _) (.int .i64 0)).setCell (p:=⟨w3.heap.size,9,none⟩) (Nat.le_refl _) (.int .i64 til)
      have hu5 : Upd (fun k=>k=w3.heap.size) w4 ((w4.setCell ⟨w3.heap.size,8,none⟩ (.int .i64 0)).setCell ⟨w3.heap.size,9,none⟩ (.int .i64 til)):=((Upd.refl (fun k=>k=w3.heap.size) w4).setCell (p:=⟨w3.heap.size,8,none⟩) (fun _=>rfl) (.int .i64 0)).setCell (p:=⟨w3.heap.size,9,none⟩) (fun _=>rfl) (.int .i64 til)
      have hEv5:=hEv.upd hu5 (fun k hk h=>by cases hk;have h' : w3.heap.size+1+1=w3.heap.size:=h;omega)
      have hA4:=(hA0'.on hb3).on hB4
      have hAz4:=(hA1.on hb3).on hB4
      have hA5:=hA4.upd hu5 (fun h=>by have h' : w.heap.size=w3.heap.size:=h;omega)
      have hAz5:=hAz4.upd hu5 (fun h=>by have h' : w.heap.size+1=w3.heap.size:=h;have:=(hA1.on hb3).1;omega)
      have hnz : w.heap.size+1<w3.heap.size:=(hA1.on hb3).1
      obtain ⟨hw4,b0,y0,b1,y1,b2,y2,b3,y3,b4,y4⟩:=hA4.five
      obtain ⟨hn3,p0,x0,p1,x1,p2,x2,p3,x3,p4,x4,p5,x5,p6,x6,p7,x7,p8,x8,p9,x9⟩:=hP.ten
      have hNN : w.heap.size<w3.heap.size:=hw3
      go_upto_region 9 with (first|(go_at_call 54;(with_reducible refine (HADD _).out.mono ?_);rintro e w3 ⟨rfl,rfl⟩))
      clear b0 y0 b1 y1 b2 y2 b3 y3 b4 y4 p0 x0 p1 x1 p2 x2 p3 x3 p4 x4 p5 x5 p6 x6 p7 x7 p8 x8 p9 x9 hw4 hn3 hA4 hAz4 hEv hP hu5 hB4
      generalize (w4.setCell ⟨w3.heap.size,8,none⟩ (.int .i64 0)).setCell ⟨w3.heap.size,9,none⟩ (.int .i64 til)=w5 at *
      have hW5:=on_below (on_below hB0 hb3) hB5
      have hR5:=(hrow.on hb3).on hB5
      obtain ⟨hn3,p0,x0,p1,x1,p2,x2,p3,x3,p4,x4,p5,x5,p6,x6,p7,x7,p8,x8,p9,x9⟩:=hP5.ten
      go_upto_region 10 with (first|(go_at_call 51;(with_reducible refine (HSE _).out.mono ?_);intro e w6 hF;obtain ⟨r,rfl,hf,hb6⟩:=hF;obtain ⟨-,p0,x0,p1,x1,p2,x2,p3,x3,p4,x4,p5,x5,p6,x6,p7,x7,p8,x8,p9,x9⟩:=(hP5.on hb6).ten))
      clear p0 x0 p1 x1 p2 x2 p3 x3 p4 x4 p5 x5 p6 x6 p7 x7 p8 x8 p9 x9
      have hu7:=upd_all10 w6 w3.heap.size (.int .i64 kd) (.int .i64 bd) (.int .i64 pc) (.int .i64 wn) (.int .i64 sg) (.slice (some ⟨rb,ro,none⟩) recs.length cv) (.int .i64 er) (.int .i64 (rd+1)) (.int .i64 is2) (.int .i64 til)
      have hP7:=At.all10 (hP5.on hb6) (.int .i64 kd) (.int .i64 bd) (.int .i64 pc) (.int .i64 wn) (.int .i64 sg) (.slice (some ⟨rb,ro,none⟩) recs.length cv) (.int .i64 er) (.int .i64 (rd+1)) (.int .i64 is2) (.int .i64 til)
      have hA7:=(hA5.on hb6).upd hu7 (fun h=>by have h' : w.heap.size=w3.heap.size:=h;omega)
      have hAz7:=(hAz5.on hb6).upd hu7 (fun h=>by have h' : w.heap.size+1=w3.heap.size:=h;omega)
      have hEv7:=(hEv5.on hb6).upd hu7 (fun k hk h=>by cases hk;have h' : w3.heap.size+1+1=w3.heap.size:=h;omega)
      have hf7:=hf.upd hu7 (fun k hk h=>by have:=(hf.lt k hk).1;have h' : k=w3.heap.size:=h;omega)
      have hW7:=(on_below hW5 hb6).upd hu7 (on_below hW5 hb6).size (fun k _ h=>by have h' : k=w3.heap.size:=h;omega)
      have hR7:=hrow.on (((on_below (on_below hb3 hB5) hb6).upd hu7 (on_below (on_below hb3 hB5) hb6).size (fun k _ h=>by have h' : k=w3.heap.size:=h;have:=hb3.size;omega)))
      generalize ((((((((((w6.setCell ⟨w3.heap.size,0,none⟩ (.int .i64 kd)).setCell ⟨w3.heap.size,1,none⟩ (.int .i64 bd)).setCell ⟨w3.heap.size,2,none⟩ (.int .i64 pc)).setCell ⟨w3.heap.size,3,none⟩ (.int .i64 wn)).setCell ⟨w3.heap.size,4,none⟩ (.int .i64 sg)).setCell ⟨w3.heap.size,5,none⟩ (.slice (some ⟨rb,ro,none⟩) recs.length cv)).setCell ⟨w3.heap.size,6,none⟩ (.int .i64 er)).setCell ⟨w3.heap.size,7,none⟩ (.int .i64 (rd+1))).setCell ⟨w3.heap.size,8,none⟩ (.int .i64 is2)).setCell ⟨w3.heap.size,9,none⟩ (.int .i64 til))=w7 at *
      obtain ⟨-,b0,y0,b1,y1,b2,y2,b3,y3,b4,y4⟩:=hA7.five
      obtain ⟨-,p0,x0,p1,x1,p2,x2,p3,x3,p4,x4,p5,x5,p6,x6,p7,x7,p8,x8,p9,x9⟩:=hP7.ten
      have hw7 : w.heap.size<w7.heap.size:=hA7.1
      have hz7 : w.heap.size+1<w7.heap.size:=hAz7.1
      have hV7 : PvOk w7 ⟨⟨⟨kd,bd,pc,wn,sg⟩,recs,er,rd+1,is2,til⟩,some ⟨rb,ro,none⟩,cv⟩:=by
        have h:=hR7.ok _ (List.getElem_mem hil)
        rw [hv0] at h
        exact ⟨h.row,h.le,h.cap⟩
      have HW:=Lib.hid (ref_with (some ⟨b,off,none⟩) n c l tm dr ck nw i ⟨⟨⟨kd,bd,pc,wn,sg⟩,recs,er,rd+1,is2,til⟩,some ⟨rb,ro,none⟩,cv⟩ w7 hR7 HN.out hil hV7 (by have:=HLE.out;omega))
      simp only [Pv.val] at HW
      rw [show ((rd+1 : Nat) : Int)=(rd : Int)+1 by omega] at HW
      have HADV:=fun (a' : Option Addr) (c' : Nat) (wx : World) (h : RowP wx a' (l.set i ⟨⟨⟨kd,bd,pc,wn,sg⟩,recs,er,rd+1,is2,til⟩,some ⟨rb,ro,none⟩,cv⟩))=>Lib.hid (ref_advance a' n c' (l.set i ⟨⟨⟨kd,bd,pc,wn,sg⟩,recs,er,rd+1,is2,til⟩,some ⟨rb,ro,none⟩,cv⟩) (ps.set i ⟨⟨kd,bd,pc,wn,sg⟩,recs,er,rd+1,is2,til⟩) tm dr ck nw wx h (by rw [List.length_set];exact HN.out) (HSET _ rfl) HPO.out (by have:=HLE.out;have:=HN.out;omega))
      have hu7s:=hu7.size
      clear hP7 hV7 hu7
      go_upto_region 11 with (first|(go_at_call 55;(with_reducible refine HW.out.mono ?_);intro e w8 hY;obtain ⟨a8,c8,rfl,hR8,hb8,hG8⟩:=hY;have HAD:=HADV a8 c8 _ hR8)|(go_at_call 52;(with_reducible refine HAD.out.mono ?_);intro e w9 hY;obtain ⟨r9,rfl,hm9,hb9⟩:=hY;obtain ⟨-,d0,g0,d1,g1,d2,g2,d3,g3,d4,g4⟩:=((hA7.on hb8).on hb9).five))
      clear b0 y0 b1 y1 b2 y2 b3 y3 b4 y4 p0 x0 p1 x1 p2 x2 p3 x3 p4 x4 p5 x5 p6 x6 p7 x7 p8 x8 p9 x9 d0 g0 d1 g1 d2 g2 d3 g3 d4 g4
      have hu10:=upd_all5 w9 w.heap.size (.slice a8 n c8) (.int .i64 tm) (.int .i64 dr) (.int .i64 ck) (.int .i64 (further nw (ps.set i ⟨⟨kd,bd,pc,wn,sg⟩,recs,er,rd+1,is2,til⟩)))
      have hA10:=At.all5 ((hA7.on hb8).on hb9) (.slice a8 n c8) (.int .i64 tm) (.int .i64 dr) (.int .i64 ck) (.int .i64 (further nw (ps.set i ⟨⟨kd,bd,pc,wn,sg⟩,recs,er,rd+1,is2,til⟩)))
      have hAz10:=((hAz7.on hb8).on hb9).upd hu10 (fun h=>by have h' : w.heap.size+1=w.heap.size:=h;omega)
      have hEv10:=((hEv7.on hb8).on hb9).upd hu10 (fun k hk h=>by cases hk;have h' : w3.heap.size+1+1=w.heap.size:=h;omega)
      have hf10:=((hf7.on hb8).on hb9).upd hu10 (fun k hk h=>by have:=(hf.lt k hk).1;have h' : k=w.heap.size:=h;have:=hB5.size;omega)
      have hm10:=hm9.upd hu10 (fun k hk h=>by have:=(hm9.lt k hk).1;have h' : k=w.heap.size:=h;have:=hb8.size;omega)
      have hW10:=(on_below (on_below hW7 hb8) hb9).upd hu10 (on_below (on_below hW7 hb8) hb9).size (fun k _ h=>by have h' : k=w.heap.size:=h;omega)
      have hlf : fs.length≤1:=HFL.out
      have hlm : (marksE nw (ps.set i ⟨⟨kd,bd,pc,wn,sg⟩,recs,er,rd+1,is2,til⟩)).length≤1:=marksE_len _ _
      have hs5:=hB5.size
      have hs6:=hb6.size
      have hs8:=hb8.size
      have hs58 : w5.heap.size≤w8.heap.size:=Nat.le_trans hb6.size (Nat.le_trans hu7s hb8.size)
      generalize (((((w9.setCell ⟨w.heap.size,0,none⟩ (.slice a8 n c8)).setCell ⟨w.heap.size,1,none⟩ (.int .i64 tm)).setCell ⟨w.heap.size,2,none⟩ (.int .i64 dr)).setCell ⟨w.heap.size,3,none⟩ (.int .i64 ck)).setCell ⟨w.heap.size,4,none⟩ (.int .i64 (further nw (ps.set i ⟨⟨kd,bd,pc,wn,sg⟩,recs,er,rd+1,is2,til⟩))))=w10 at *
      generalize further nw (ps.set i ⟨⟨kd,bd,pc,wn,sg⟩,recs,er,rd+1,is2,til⟩)=fu at *
      generalize marksE nw (ps.set i ⟨⟨kd,bd,pc,wn,sg⟩,recs,er,rd+1,is2,til⟩)=ms at *
      obtain ⟨ar,cr,hre⟩:=hf10.shape
      subst hre
      obtain ⟨a9,c9,hre⟩:=hm10.shape
      subst hre
      obtain ⟨i0,hi0,hz0,hz1,hz2⟩:=info_parts info_evr
      obtain ⟨hgA,d0,g0,d1,g1,d2,g2,d3,g3,d4,g4⟩:=hA10.five
      obtain ⟨hgZ,u0,z0,u1,z1,u2,z2,u3,z3,u4,z4⟩:=hAz10.five
      have hHW:=hW10.size
      have hs9:=hb9.size
      have hNE : w3.heap.size+1+1<w7.heap.size:=(hEv7.lt _ rfl).2
      have hs10:=hu10.size
      have h310 : w3.heap.size≤w10.heap.size:=by omega
      have hX10 : Upd (fun k=>w8.heap.size≤k∨k=w.heap.size∨k=w3.heap.size+1+1) w8 w10:=Upd.trans (Upd.of_below hb9 (fun k _ h=>.inl h)) hu10 (fun k _ h=>.inr (.inl h))
      have HPK : Hid (∀ v'∈l.set i ⟨⟨⟨kd,bd,pc,wn,sg⟩,recs,er,rd+1,is2,til⟩,some ⟨rb,ro,none⟩,cv⟩,K v'.a v'.c v'.p.recs):=fun v' h=>by
        rcases List.mem_or_eq_of_mem_set h with h|rfl
        · exact HVOK.out _ h
        · exact HPV.out
      have HNL : Hid (n=(ps.set i ⟨⟨kd,bd,pc,wn,sg⟩,recs,er,rd+1,is2,til⟩).length):=by
        show n=_
        rw [List.length_set,HN.out,HLE.out]
      have HIL : Hid (i<(l.set i ⟨⟨⟨kd,bd,pc,wn,sg⟩,recs,er,rd+1,is2,til⟩,some ⟨rb,ro,none⟩,cv⟩).length):=by
        show i<_
        rw [List.length_set];exact hil
      have HSM : Hid ((l.set i ⟨⟨⟨kd,bd,pc,wn,sg⟩,recs,er,rd+1,is2,til⟩,some ⟨rb,ro,none⟩,cv⟩).map (·.p)=ps.set i ⟨⟨kd,bd,pc,wn,sg⟩,recs,er,rd+1,is2,til⟩):=HSET _ rfl
      have HLM : Hid (1+fs.length+ms.length=(Ev.el false i rt rk rx::(fs++ms)).length):=by
        show _=_
        simp only [List.length_cons,List.length_append];omega
      have HCS : Hid (evcs [Ev.el false i rt rk rx]++evcs fs++evcs ms=evcs (Ev.el false i rt rk rx::(fs++ms))):=by
        show _=_
        simp [evcs]
      have HR8:=Lib.hid hR8.row
      have HX10:=Lib.hid hX10
      have HW10:=Lib.hid hW10
      have hd7 : w3.heap.size+1+1≠w.heap.size:=by omega
      have hd8 : w3.heap.size+1+1≠w.heap.size+1:=by omega
      have hd9 : w.heap.size<w10.heap.size:=by omega
      have hda : w.heap.size+1<w10.heap.size:=by omega
      have hdm : ∀ q,(Value.slice a9 ms.length c9).ownBlock=some q→w3.heap.size+1+1≠q:=fun q hq e=>by have:=(hm10.lt _ hq).1;omega
      have hs810 : w8.heap.size≤w10.heap.size:=hX10.size
      clear hX10 hW10 hR8 hA7 hAz7 hEv7 hf7 hR7 hW7 hm9 hu10 hb9
      clear HADV HAD HW HSE HSET HPO HN HL HLE HR HADD HVOK HPV
      go_region_law (first|(refine step_append_mine rfl (.tmp 66) (.tmp 67) 46 46 rfl 56 i0 _ 72 Tryz.underlying46 hi0 hz0 hz1 hz2 rfl (.slice (some ⟨w3.heap.size+1+1,0,none⟩) 1 1) (.slice ar fs.length cr) fs.length (evcs fs) rfl rfl hEv10.drew (src_sl hf10.drew Tryz.underlying46 (evcs_one _)) (by unfold maxLen;omega) (by omega) h310 ?_;intro a11 c11 w11 k1 k2 k3;have hX11:=Upd.trans HX10.out.drew k2 (fun k _ h=>.inr (.inr (Option.some.inj h).symm));have hA11:=hA10.drew.upd k2 (fun h=>hd7 (Option.some.inj h));have hAz11:=hAz10.drew.upd k2 (fun h=>hd8 (Option.some.inj h));have hm11:=hm10.drew.upd k2 (fun q hq h=>hdm q hq (Option.some.inj h));have hW11:=HW10.out.drew.upd k2 HW10.out.size (fun q _ h=>by have h2 : w3.heap.size+1+1=q:=Option.some.inj h;omega);have hs11 : w10.heap.size≤w11.heap.size:=k2.size;clear hgA d0 g0 d1 g1 d2 g2 d3 g3 d4 g4 hgZ u0 z0 u1 z1 u2 z2 u3 z3 u4 z4;obtain ⟨hgA,d0,g0,d1,g1,d2,g2,d3,g3,d4,g4⟩:=hA11.five;obtain ⟨hgZ,u0,z0,u1,z1,u2,z2,u3,z3,u4,z4⟩:=hAz11.five)|(refine step_append_mine rfl (.tmp 68) (.tmp 69) 46 46 rfl 56 i0 _ 72 Tryz.underlying46 hi0 hz0 hz1 hz2 rfl (.slice a11 (1+fs.length) c11) (.slice a9 ms.length c9) ms.length (evcs ms) rfl rfl k1 (src_sl hm11 Tryz.underlying46 (evcs_one _)) (by unfold maxLen;omega) (by omega) (Nat.le_trans h310 hs11) ?_;intro a12 c12 w12 l1 l2 l3;have hX12:=Upd.trans hX11 l2 (fun k _ h=>(k3 _ h).elim (fun h'=>.inr (.inr (Option.some.inj h').symm)) (fun h'=>.inl (Nat.le_trans hs810 h')));have hA12:=hA11.upd l2 (fun h=>(k3 _ h).elim (fun h'=>hd7 (Option.some.inj h')) (fun h'=>Nat.not_le_of_lt hd9 h'));have hAz12:=hAz11.upd l2 (fun h=>(k3 _ h).elim (fun h'=>hd8 (Option.some.inj h')) (fun h'=>Nat.not_le_of_lt hda h'));have hW12:=hW11.upd l2 hW11.size (fun q _ h=>by have:=(k1.lt q h).1;omega);clear hgA d0 g0 d1 g1 d2 g2 d3 g3 d4 g4 hgZ u0 z0 u1 z1 u2 z2 u3 z3 u4 z4;obtain ⟨hgA,d0,g0,d1,g1,d2,g2,d3,g3,d4,g4⟩:=hA12.five;obtain ⟨hgZ,u0,z0,u1,z1,u2,z2,u3,z3,u4,z4⟩:=hAz12.five)|fail)
      all_goals
        have HDN:=Lib.hid (fun (wf : World) (hu : Upd (fun k=>k=w.heap.size+1) w12 wf)=>poll_done (a0:=some ⟨b,off,none⟩) (c8:=c8) (tm:=tm) (dr:=dr) (ck:=ck) (fu:=fu) HIL.out HR8.out hG8 hX12 hu (by omega) hNE HPK.out HSM.out HNL.out hW12 l1 (by omega) HLM.out HCS.out)
        have hT:=Lib.hid (fun x0 x1 x2 x3 x4=>At.all5 hAz12 x0 x1 x2 x3 x4)
        have hBo:=Lib.hid (fun x0 x1 x2 x3 x4=>Upd.all5 (g:=w.heap.size+1) (Upd.refl (fun k=>k=w.heap.size+1) w12) (fun _=>rfl) x0 x1 x2 x3 x4)
        clear HIL HR8 hG8 hX12 HPK HSM HNL hW12 l1 l2 l3 k1 k2 k3 HLM HCS hAz12 hA12 hA11 hAz11 hm11 hW11 hX11 hA10 hAz10 hEv10 hf10 hm10
        clear e hil hii hA0 hck htm hnw hn8 hfe hrr hv0 hcell hrb HRD hin hrc HFL hA1 hA0' hB0 hrow hbl hsz hne2 hb3 hw3 hbb hrb3 hnz hNN hP5 hB5 hEv5 hA5 hAz5 hW5 hR5 hn3 p0 x0 p1 x1 p2 x2 p3 x3 p4 x4 p5 x5 p6 x6 p7 x7 p8 x8 p9 x9 hb6 hw7 hz7 hu7s hb8 hlf hs5 hs6 hs8 hs58 hlm hf hi0 hz0 hz1 hz2 hHW hs9 hNE hs10 h310 HX10 HW10 hd7 hd8 hd9 hda hdm hs810 hs11
        (try clear hle)
        (try clear hle2)
        (try clear hle3)
        generalize w.heap.size+1=N1 at *
        refine (‹∀ (ax : Act) (wx : World),Code.wp Tryz.prog Code.ret _ ax wx→_›) _ _ ?_
        refine wp_ret ?_
        refine bodyPost_ret (results_at2 (fn:=Tryz.f53) rfl _ rfl (hT.out _ _ _ _ _) Tryz.underlying45 rfl (by kernel_rfl)) rfl ?_
        rw [HLT.out]
        exact HDN.out _ (hBo.out _ _ _ _ _)
theorem RowG.keep {S : Nat→Prop} {w w' : World} {a : Option Addr} {l : List Pv} (h : RowG w 10 Pv.cells a l) (hu : Upd S w w') (hn : ∀ p,a=some p→0<l.length→¬ S p.block) : RowG w' 10 Pv.cells a l:=by
  rcases Nat.eq_zero_or_pos l.length with h0|h0
  · exact ⟨fun i hi=>by omega⟩
  · exact h.upd hu fun p hp=>hn p hp h0
def TickI (K : Option Addr→Nat→List R→Prop) (a : Option Addr) (n : Nat) (tm dr ck nw : Int) (ps : List Pt) (w wr : World) : Prop :=
  ∃ (a' : Option Addr) (c' : Nat) (l' : List Pv),At wr w.heap.size [.slice a' n c',.int .i64 tm,.int .i64 dr,.int .i64 ck,.int .i64 nw]∧RowG wr 10 Pv.cells a' l'∧l'.map (·.p)=ps∧At wr (w.heap.size+1+1) [.slice none 0 0,.int .i64 0,.int .i64 0,.int .i64 0,.int .i64 0]∧Below w.heap.size w wr∧(∀ v∈l',PvOk w v)∧(∀ v∈l',K v.a v.c v.p.recs)∧(∀ p,a'=some p→0<l'.length→p.block<w.heap.size∨w.heap.size+3≤p.block)∧(a'=a∨∀ p,a'=some p→w.heap.size≤p.block)
theorem ref_tick (K : Option Addr→Nat→List R→Prop) (a : Option Addr) (n c : Nat) (l : List Pv) (s : St) (x : Int) (w : World) (hr : RowP w a l) (hn : n=l.length) (hl : l.map (·.p)=s.ps) (h0 : ∀ v∈l,K v.a v.c v.p.recs) (hok : s.Ok) (hx : 0≤x) (hx2 : x≤9223372036854775807) :
    Calls Tryz.prog 20 #[.agg #[.slice a n c,.int .i64 s.timeout,.int .i64 s.drift,.int .i64 s.clock,.int .i64 s.now],.agg #[.bool true,.int .i64 x]] w (DoR K a (s.tickS x) (s.tickE x) w):=by
  have hA0:=At.alloc w [.slice a n c,.int .i64 s.timeout,.int .i64 s.drift,.int .i64 s.clock,.int .i64 s.now] 45
  have hA1:=At.alloc (w.alloc (.cells #[.slice a n c,.int .i64 s.timeout,.int .i64 s.drift,.int .i64 s.clock,.int .i64 s.now] 45)) [.bool true,.int .i64 x] 50
  have hA2:=At.alloc ((w.alloc (.cells #[.slice a n c,.int .i64 s.timeout,.int .i64 s.drift,.int .i64 s.clock,.int .i64 s.now] 45)).alloc (.cells #[.bool true,.int .i64 x] 50)) [.slice none 0 0,.int .i64 0,.int .i64 0,.int .i64 0,.int .i64 0] 45
  simp only [World.size_alloc] at hA1 hA2
  have e:=fun (w : World) (o : Obj)=>(Below.refl w.heap.size w).alloc (Nat.le_refl _) o
  have hA0':=(hA0.on (e _ (.cells #[.bool true,.int .i64 x] 50))).on (e _ (.cells #[.slice none 0 0,.int .i64 0,.int .i64 0,.int .i64 0,.int .i64 0] 45))
  have hA1':=hA1.on (e _ (.cells #[.slice none 0 0,.int .i64 0,.int .i64 0,.int .i64 0,.int .i64 0] 45))
  have hB0 : Below w.heap.size w (((w.alloc (.cells #[.slice a n c,.int .i64 s.timeout,.int .i64 s.drift,.int .i64 s.clock,.int .i64 s.now] 45)).alloc (.cells #[.bool true,.int .i64 x] 50)).alloc (.cells #[.slice none 0 0,.int .i64 0,.int .i64 0,.int .i64 0,.int .i64 0] 45)):=on_below (on_below (e _ _) (e _ _)) (e _ _)
  have hlen : n=s.ps.length:=by rw [hn,← hl,List.length_map]
  have hn8:=hok.n
  have HOK : Hid (∀ p∈s.ps.map (fun p=>p.wait (add s.clock x)),p.Ok):=(hok.tick x).pt
  have HADD:=fun wx=>Lib.hid (ref_add s.clock x wx hok.ck ⟨by omega,hx2⟩)
  have hck2 : in64 (add s.clock x):=add_in _ _
  unfold St.tickS St.tickE St.ticked
  obtain ⟨ps,tm,dr,ck,nw⟩:=s
  simp only at *
  generalize add ck x=ck2 at *
  have HR:=Lib.hid hr
  have HN:=Lib.hid hn
  have HL:=Lib.hid hl
  have H0:=Lib.hid h0
  have HLE:=Lib.hid hlen
  have HRB : Hid (∀ p,a=some p→0<l.length→p.block<w.heap.size∨w.heap.size+3≤p.block):=fun p hp h0=>by
    obtain ⟨b,off,hab,hb,-⟩:=hr.row.at_ 0 h0
    rw [hab] at hp;cases hp
    exact .inl hb
  clear hr hn hl hlen hok h0 hA0 hA1 e
  generalize hf : (fun p : Pt=>p.wait ck2)=f at *
  have HF : Hid (∀ p : Pt,f p=p.wait ck2):=fun p=>by rw [← hf]
  clear hf
  have HADV:=fun (a' : Option Addr) (c' : Nat) (l' : List Pv) (wx : World) (h : RowP wx a' l') (h2 : l'.map (·.p)=ps.map f)=>Lib.hid (ref_advance a' n c' l' (ps.map f) tm dr ck2 nw wx h (by have h3:=congrArg List.length h2;rw [List.length_map,List.length_map] at h3;rw [HLE.out];exact h3.symm) h2 HOK.out (by have:=HLE.out;omega))
  have hn8' : n≤8:=by have:=HLE.out;omega
  have hnx : ¬ x<0:=by omega
  go_enter Tryz.func20,Tryz.ntmps20
  go_upto_region 1 with fail
  generalize ((w.alloc (.cells #[.slice a n c,.int .i64 tm,.int .i64 dr,.int .i64 ck,.int .i64 nw] 45)).alloc (.cells #[.bool true,.int .i64 x] 50)).alloc (.cells #[.slice none 0 0,.int .i64 0,.int .i64 0,.int .i64 0,.int .i64 0] 45)=w1 at *
  obtain ⟨hg0,c0,z0,c1,z1,c2,z2,c3,z3,c4,z4⟩:=hA0'.five
  obtain ⟨hg1,d0,y0,d1,y1⟩:=hA1'.two
  go_upto_region 6 with (first|(go_at_call 54;(with_reducible refine (HADD _).out.mono ?_);rintro e w2 ⟨rfl,rfl⟩))
  clear c0 z0 c1 z1 c2 z2 c3 z3 c4 z4 d0 y0 d1 y1 hg0 hg1
  have hA:=hA0'.set 3 (by simp) (.int .i64 ck2)
  simp only [List.set] at hA
  have hAz:=hA2.set_other (p:=⟨w.heap.size,3,none⟩) (by show w.heap.size≠w.heap.size+1+1;omega) (.int .i64 ck2)
  have hB1:=hB0.setCell (p:=⟨w.heap.size,3,none⟩) (Nat.le_refl _) (.int .i64 ck2)
  clear hA0' hA1' hA2 hB0
  generalize w1.setCell ⟨w.heap.size,3,none⟩ (.int .i64 ck2)=w2 at *
  have HI0 : TickI K a n tm dr ck2 nw (wq f ps 0) w w2:=⟨a,c,l,hA,HR.out.row.below hB1,by rw [wq_zero];exact HL.out,hAz,hB1,HR.out.ok,H0.out,HRB.out,.inl rfl⟩
  clear hnx
  go_wp2_with fail
  go_loopw [6] (fun i wr=>∃ q : Nat,q≤n∧i = .int .i64 q∧TickI K a n tm dr ck2 nw (wq f ps q) w wr) (fun i _=>n - (intOf i).toNat)
  case atStart=>exact ⟨0,Nat.zero_le _,rfl,HI0⟩
  case round =>
    clear HI0 hA hAz hB1
    obtain ⟨q,hq,rfl,a',c',l',hA,hR,hl',hAz,hbw,hoks,hok0,hblk,hnew⟩:=hrel
    obtain ⟨hg0,c0,z0,c1,z1,c2,z2,c3,z3,c4,z4⟩:=hA.five
    have hl2 : l'.length=n:=by rw [HLE.out,← wq_len f ps q,← hl',List.length_map]
    have hRP : RowP wr a' l':=⟨hR,fun v hv=>(hoks v hv).on hbw⟩
    by_cases hlt : q<n
    · have hql : q<l'.length:=by omega
      have hqp : q<ps.length:=by rw [← HLE.out];exact hlt
      obtain ⟨b,off,rfl,hbl,-⟩:=hR.at_ q hql
      have hcell:=hRP.cell q hql
      have hpq : l'[q].p=ps[q]:=by
        have h1:=wq_at f ps q hqp
        rw [← hl',List.getElem?_map,List.getElem?_eq_getElem hql] at h1
        exact Option.some.inj h1
      have hov:=hoks _ (List.getElem_mem hql)
      have hov0:=hok0 _ (List.getElem_mem hql)
      have hF:=HF.out ps[q]
      rw [← hpq] at hF
      have hsm:=wq_same f ps q hqp
      have hst:=wq_set f ps q hqp
      rw [← hpq] at hsm hst
      have HSET:=fun (v : Pv) (h : v.p=f l'[q].p)=>(show (l'.set q v).map (·.p)=wq f ps (q+1) by rw [pair_set hl',h];exact hst)
      have HW:=fun (v : Pv) (wx : World) (hbx : Below wr.heap.size wr wx) (hv : PvOk wx v)=>Lib.hid (ref_with (some ⟨b,off,none⟩) n c' l' tm dr ck2 nw q v wx (hRP.on hbx) hl2.symm hql hv (by omega))
      generalize hv0 : l'[q]=v at *
      obtain ⟨⟨⟨kd,bd,pc,wn,sg⟩,recs,er,rd,is,tl⟩,av,cv⟩:=v
      simp only at *
      obtain ⟨hbb,p0,p1,p2,p3,p4,p5,p6,p7,p8,p9⟩:=hcell
      have hba : Below wr.heap.size wr (wr.alloc (.cells #[.int .i64 kd,.int .i64 bd,.int .i64 pc,.int .i64 wn,.int .i64 sg,.slice av recs.length cv,.int .i64 er,.int .i64 rd,.int .i64 is,.int .i64 tl] 62)):=(Below.refl _ _).alloc (Nat.le_refl _) _
      by_cases hw : is=0∧tl≤ck2
      · rw [show Pt.wait ⟨⟨kd,bd,pc,wn,sg⟩,recs,er,rd,is,tl⟩ ck2=⟨⟨kd,bd,pc,wn,sg⟩,recs,er,rd,1,tl⟩ from if_pos hw] at hF
        rw [hF] at HSET
        obtain ⟨rfl,htl⟩:=hw
        have hP:=At.alloc wr [.int .i64 kd,.int .i64 bd,.int .i64 pc,.int .i64 wn,.int .i64 sg,.slice av recs.length cv,.int .i64 er,.int .i64 rd,.int .i64 1,.int .i64 tl] 62
        have hbs : Below wr.heap.size wr (wr.alloc (.cells #[.int .i64 kd,.int .i64 bd,.int .i64 pc,.int .i64 wn,.int .i64 sg,.slice av recs.length cv,.int .i64 er,.int .i64 rd,.int .i64 1,.int .i64 tl] 62)):=(Below.refl _ _).alloc (Nat.le_refl _) _
        have hv1 : PvOk w ⟨⟨⟨kd,bd,pc,wn,sg⟩,recs,er,rd,1,tl⟩,av,cv⟩:=⟨hov.row,hov.le,hov.cap⟩
        have HW1:=HW ⟨⟨⟨kd,bd,pc,wn,sg⟩,recs,er,rd,1,tl⟩,av,cv⟩ _ hbs (hv1.on (on_below hbw hbs))
        simp only [Pv.val] at HW1
        have hA3:=hA.on hbs
        have hAz3:=hAz.on hbs
        have HOKS : Hid (∀ v∈l'.set q ⟨⟨⟨kd,bd,pc,wn,sg⟩,recs,er,rd,1,tl⟩,av,cv⟩,PvOk w v):=fun v' h=>by
          rcases List.mem_or_eq_of_mem_set h with h|rfl
          · exact hoks _ h
          · exact hv1
        have HOK0 : Hid (∀ v∈l'.set q ⟨⟨⟨kd,bd,pc,wn,sg⟩,recs,er,rd,1,tl⟩,av,cv⟩,K v.a v.c v.p.recs):=fun v' h=>by
          rcases List.mem_or_eq_of_mem_set h with h|rfl
          · exact hok0 _ h
          · exact hov0
        have HST:=HSET ⟨⟨⟨kd,bd,pc,wn,sg⟩,recs,er,rd,1,tl⟩,av,cv⟩ rfl
        have hbw3:=on_below hbw hbs
        have hwz : w.heap.size<wr.heap.size:=hA.1
        have hwz2 : w.heap.size+1+1<wr.heap.size:=hAz.1
        have hs3:=hbs.size
        clear HW HSET hst hsm hba hoks hok0 hov hov0 hv1 hRP hF
        go_upto_region 12 with fail
        generalize wr.alloc (.cells #[.int .i64 kd,.int .i64 bd,.int .i64 pc,.int .i64 wn,.int .i64 sg,.slice av recs.length cv,.int .i64 er,.int .i64 rd,.int .i64 1,.int .i64 tl] 62)=w3 at *
        obtain ⟨-,c0,z0,c1,z1,c2,z2,c3,z3,c4,z4⟩:=hA3.five
        obtain ⟨-,q0,x0,q1,x1,q2,x2,q3,x3,q4,x4,q5,x5,q6,x6,q7,x7,q8,x8,q9,x9⟩:=hP.ten
        go_upto_region 8 with (first|(go_at_call 55;(with_reducible refine HW1.out.mono ?_);intro e w5 hY;obtain ⟨a5,c5,rfl,hR5,hb5,hG5⟩:=hY;have hA5:=hA3.on hb5;have hAz5:=hAz3.on hb5;obtain ⟨-,e0,f0,e1,f1,e2,f2,e3,f3,e4,f4⟩:=hA5.five))
        clear c0 z0 c1 z1 c2 z2 c3 z3 c4 z4 q0 x0 q1 x1 q2 x2 q3 x3 q4 x4 q5 x5 q6 x6 q7 x7 q8 x8 q9 x9 e0 f0 e1 f1 e2 f2 e3 f3 e4 f4
        have hu6:=upd_all5 w5 w.heap.size (.slice a5 n c5) (.int .i64 tm) (.int .i64 dr) (.int .i64 ck2) (.int .i64 nw)
        have hA6:=At.all5 hA5 (.slice a5 n c5) (.int .i64 tm) (.int .i64 dr) (.int .i64 ck2) (.int .i64 nw)
        have HI6:=Lib.hid (show TickI K a n tm dr ck2 nw (wq f ps (q+1)) w _ from ⟨a5,c5,_,hA6,hR5.row.upd hu6 (fun p hp h=>by have:=hG5 p hp;have h' : p.block=w.heap.size:=h;omega),HST,hAz5.upd hu6 (fun h=>by have h' : w.heap.size+1+1=w.heap.size:=h;omega),(on_below hbw3 hb5).upd hu6 (on_below hbw3 hb5).size (fun k _ h=>by have h' : k=w.heap.size:=h;omega),HOKS.out,HOK0.out,fun p hp _=>.inr (by have:=hG5 p hp;omega),.inr fun p hp=>by have:=hG5 p hp;omega⟩)
        clear hA5 hAz5 hR5 hb5 hG5 hu6 hA6 HOKS HST hA3 hAz3
        go_wp2_with fail
        go_roundw
        case rel=>exact ⟨q+1,by omega,by go_num,HI6.out⟩
        case measure=>simp [intOf] <;> omega
      · rw [show Pt.wait ⟨⟨kd,bd,pc,wn,sg⟩,recs,er,rd,is,tl⟩ ck2=⟨⟨kd,bd,pc,wn,sg⟩,recs,er,rd,is,tl⟩ from if_neg hw] at hF
        have HI6:=Lib.hid (show TickI K a n tm dr ck2 nw (wq f ps (q+1)) w _ from ⟨_,c',l',hA.on hba,hR.below hba,by rw [hsm hF];exact hl',hAz.on hba,on_below hbw hba,hoks,hok0,hblk,hnew⟩)
        clear HW HSET hst hsm hoks hok0 hov hov0 hRP hF hl' hnew hblk hR hAz hA hbw
        by_cases h0 : is=0
        · subst h0
          have htl : ck2<tl:=by omega
          clear hw
          go_wp2_with fail
          go_roundw
          case rel=>exact ⟨q+1,by omega,by go_num,HI6.out⟩
          case measure=>simp [intOf] <;> omega
        · have h0' : (is == 0)=false:=by rw [beq_eq_false_iff_ne];exact h0
          clear hw h0
          go_wp2_with fail
          go_roundw
          case rel=>exact ⟨q+1,by omega,by go_num,HI6.out⟩
          case measure=>simp [intOf] <;> omega
    · obtain rfl : q=n:=by omega
      have hlf : l'.map (·.p)=ps.map f:=by rw [hl',HLE.out];exact wq_all f ps
      have HA5:=HADV a' c' l' wr hRP hlf
      have hbx:=hbw.size
      have HWT : Hid (q=(ps.map f).length):=by show q=_;rw [List.length_map];exact HLE.out
      have HFI : Hid (∀ (w7 w8 : World) (r : Value),Below wr.heap.size wr w7→Upd (fun k=>k=w.heap.size+1+1) w7 w8→Sl wr.heap.size w7 8 r (marksE nw (ps.map f)).length (evcs (marksE nw (ps.map f)))→DoR K a ⟨ps.map f,tm,dr,ck2,further nw (ps.map f)⟩ (marksE nw (ps.map f)) w (.returned (.tuple #[.agg #[.slice a' q c',.int .i64 tm,.int .i64 dr,.int .i64 ck2,.int .i64 (further nw (ps.map f))],r])) w8):=fun w7 w8 r hb7 hu8 hs=>by
        have hw8 : Below w.heap.size w w8:=(on_below hbw hb7).upd hu8 (on_below hbw hb7).size (fun k _ h=>by have h' : k=w.heap.size+1+1:=h;omega)
        have hz:=hAz.1
        refine ⟨a',c',l',r,by rw [← HWT.out],RowG.keep (hR.below hb7) hu8 (fun p hp h0 h=>?_),hok0,hlf,(hs.base hbx).upd hu8 (fun k hk h=>?_),hw8,hnew⟩
        · have h' : p.block=w.heap.size+1+1:=h
          have:=hblk p hp h0
          omega
        · have h' : k=w.heap.size+1+1:=h
          have:=(hs.lt k hk).1
          omega
      have hAz1:=hAz
      clear hlf hl' hoks hok0 hblk hnew hR hRP hAz hA hbw hq hlt HADV
      go_wp2_with (first|(go_at_call 52;(with_reducible refine HA5.out.mono ?_);intro e w7 hY;obtain ⟨r7,rfl,hm7,hb7⟩:=hY;have hAz7:=hAz1.on hb7;obtain ⟨-,e0,f0,e1,f1,e2,f2,e3,f3,e4,f4⟩:=hAz7.five;have hT:=Lib.hid (fun x0 x1 x2 x3 x4=>At.all5 hAz7 x0 x1 x2 x3 x4);have hBo:=Lib.hid (fun x0 x1 x2 x3 x4=>upd_all5 w7 (w.heap.size+1+1) x0 x1 x2 x3 x4);clear hAz7))
      refine bodyPost_ret (results_at2 (fn:=Tryz.f20) rfl _ rfl (hT.out _ _ _ _ _) Tryz.underlying45 rfl (by kernel_rfl)) rfl ?_
      exact HFI.out _ _ _ hb7 (hBo.out _ _ _ _ _) hm7
theorem ref_do_poll (K : Option Addr→Nat→List R→Prop) (a : Option Addr) (n c : Nat) (l : List Pv) (s s2 : St) (es : List Ev) (x : Int) (w : World) (hr : RowP w a l) (hl : l.map (·.p)=s.ps) (hs2 : s2.ps.length=s.ps.length)
    (HP : ∀ w1,Below w.heap.size w w1→Calls Tryz.prog 53 #[.agg #[.slice a n c,.int .i64 s.timeout,.int .i64 s.drift,.int .i64 s.clock,.int .i64 s.now],.int .i64 x] w1 (DoR K a s2 es w1)) :
    Calls Tryz.prog 20 #[.agg #[.slice a n c,.int .i64 s.timeout,.int .i64 s.drift,.int .i64 s.clock,.int .i64 s.now],.agg #[.bool false,.int .i64 x]] w (DoR K a s2 es w):=by
  have hA0:=At.alloc w [.slice a n c,.int .i64 s.timeout,.int .i64 s.drift,.int .i64 s.clock,.int .i64 s.now] 45
  have hA1:=At.alloc (w.alloc (.cells #[.slice a n c,.int .i64 s.timeout,.int .i64 s.drift,.int .i64 s.clock,.int .i64 s.now] 45)) [.bool false,.int .i64 x] 50
  have hA2:=At.alloc ((w.alloc (.cells #[.slice a n c,.int .i64 s.timeout,.int .i64 s.drift,.int .i64 s.clock,.int .i64 s.now] 45)).alloc (.cells #[.bool false,.int .i64 x] 50)) [.slice none 0 0,.int .i64 0,.int .i64 0,.int .i64 0,.int .i64 0] 45
  simp only [World.size_alloc] at hA1 hA2
  have e:=fun (w : World) (o : Obj)=>(Below.refl w.heap.size w).alloc (Nat.le_refl _) o
  have hA0':=(hA0.on (e _ (.cells #[.bool false,.int .i64 x] 50))).on (e _ (.cells #[.slice none 0 0,.int .i64 0,.int .i64 0,.int .i64 0,.int .i64 0] 45))
  have hA1':=hA1.on (e _ (.cells #[.slice none 0 0,.int .i64 0,.int .i64 0,.int .i64 0,.int .i64 0] 45))
  have hB0 : Below w.heap.size w (((w.alloc (.cells #[.slice a n c,.int .i64 s.timeout,.int .i64 s.drift,.int .i64 s.clock,.int .i64 s.now] 45)).alloc (.cells #[.bool false,.int .i64 x] 50)).alloc (.cells #[.slice none 0 0,.int .i64 0,.int .i64 0,.int .i64 0,.int .i64 0] 45)):=on_below (on_below (e _ _) (e _ _)) (e _ _)
  have HR:=Lib.hid (HP _ hB0)
  have HLN : Hid (s2.ps.length=l.length):=by show _=_;rw [hs2,← hl,List.length_map]
  have HRB : Hid (∀ p,a=some p→0<l.length→p.block<w.heap.size):=fun p hp h0=>by
    obtain ⟨b,off,hab,hb,-⟩:=hr.row.at_ 0 h0
    rw [hab] at hp;cases hp
    exact hb
  clear hr hl hs2 HP hA0 hA1 e
  go_enter Tryz.func20,Tryz.ntmps20
  go_upto_region 1 with fail
  generalize ((w.alloc (.cells #[.slice a n c,.int .i64 s.timeout,.int .i64 s.drift,.int .i64 s.clock,.int .i64 s.now] 45)).alloc (.cells #[.bool false,.int .i64 x] 50)).alloc (.cells #[.slice none 0 0,.int .i64 0,.int .i64 0,.int .i64 0,.int .i64 0] 45)=w1 at *
  obtain ⟨hg0,c0,z0,c1,z1,c2,z2,c3,z3,c4,z4⟩:=hA0'.five
  obtain ⟨hg1,d0,y0,d1,y1⟩:=hA1'.two
  go_wp2_with (first|(go_at_call 53;(with_reducible refine HR.out.mono ?_);intro e w2 hY;obtain ⟨a2,k2,l2,r2,rfl,q1,q2,q3,q4,q5,q6⟩:=hY;have hAz2:=hA2.on q5;obtain ⟨hg2,e0,f0,e1,f1,e2,f2,e3,f3,e4,f4⟩:=hAz2.five;have hT:=Lib.hid (fun x0 x1 x2 x3 x4=>At.all5 hAz2 x0 x1 x2 x3 x4);have hBo:=Lib.hid (fun x0 x1 x2 x3 x4=>upd_all5 w2 (w.heap.size+1+1) x0 x1 x2 x3 x4);clear hAz2))
  refine bodyPost_ret (results_at2 (fn:=Tryz.f20) rfl _ rfl (hT.out _ _ _ _ _) Tryz.underlying45 rfl (by kernel_rfl)) rfl ?_
  have hu:=hBo.out (.slice a2 s2.ps.length k2) (.int .i64 s2.timeout) (.int .i64 s2.drift) (.int .i64 s2.clock) (.int .i64 s2.now)
  have hwz:=hA2.1
  have hb2:=on_below hB0 q5
  refine ⟨a2,k2,l2,r2,rfl,RowG.keep q1 hu (fun p hp h0 h=>?_),q2,q3,(q4.base hB0.size).upd hu (fun k hk h=>?_),hb2.upd hu hb2.size (fun k _ h=>by have h' : k=w.heap.size+1+1:=h;omega),?_⟩
  · have h' : p.block=w.heap.size+1+1:=h
    have hl2 : l2.length=s2.ps.length:=by have:=congrArg List.length q3;rw [List.length_map] at this;omega
    rcases q6 with rfl|h6
    · have:=HRB.out p hp (by have:=HLN.out;omega)
      omega
    · have:=h6 p hp
      omega
  · have h' : k=w.heap.size+1+1:=h
    have:=(q4.lt k hk).1
    omega
  · exact q6.imp id fun h6 p hp=>Nat.le_trans hB0.size (h6 p hp)
theorem ref_do_vain (K : Option Addr→Nat→List R→Prop) (a : Option Addr) (n c : Nat) (l : List Pv) (s : St) (x : Int) (w : World) (hr : RowP w a l) (hn : n=l.length) (hl : l.map (·.p)=s.ps) (h0 : ∀ v∈l,K v.a v.c v.p.recs) (hx : x<0) :
    Calls Tryz.prog 20 #[.agg #[.slice a n c,.int .i64 s.timeout,.int .i64 s.drift,.int .i64 s.clock,.int .i64 s.now],.agg #[.bool true,.int .i64 x]] w (DoR K a s [] w):=by
  have hA0:=At.alloc w [.slice a n c,.int .i64 s.timeout,.int .i64 s.drift,.int .i64 s.clock,.int .i64 s.now] 45
  have hA1:=At.alloc (w.alloc (.cells #[.slice a n c,.int .i64 s.timeout,.int .i64 s.drift,.int .i64 s.clock,.int .i64 s.now] 45)) [.bool true,.int .i64 x] 50
  have hA2:=At.alloc ((w.alloc (.cells #[.slice a n c,.int .i64 s.timeout,.int .i64 s.drift,.int .i64 s.clock,.int .i64 s.now] 45)).alloc (.cells #[.bool true,.int .i64 x] 50)) [.slice none 0 0,.int .i64 0,.int .i64 0,.int .i64 0,.int .i64 0] 45
  simp only [World.size_alloc] at hA1 hA2
  have e:=fun (w : World) (o : Obj)=>(Below.refl w.heap.size w).alloc (Nat.le_refl _) o
  have hA0':=(hA0.on (e _ (.cells #[.bool true,.int .i64 x] 50))).on (e _ (.cells #[.slice none 0 0,.int .i64 0,.int .i64 0,.int .i64 0,.int .i64 0] 45))
  have hA1':=hA1.on (e _ (.cells #[.slice none 0 0,.int .i64 0,.int .i64 0,.int .i64 0,.int .i64 0] 45))
  have hB0 : Below w.heap.size w (((w.alloc (.cells #[.slice a n c,.int .i64 s.timeout,.int .i64 s.drift,.int .i64 s.clock,.int .i64 s.now] 45)).alloc (.cells #[.bool true,.int .i64 x] 50)).alloc (.cells #[.slice none 0 0,.int .i64 0,.int .i64 0,.int .i64 0,.int .i64 0] 45)):=on_below (on_below (e _ _) (e _ _)) (e _ _)
  have HLE : Hid (n=s.ps.length):=by show _=_;rw [hn,← hl,List.length_map]
  have HR:=Lib.hid hr
  have HL:=Lib.hid hl
  have H0:=Lib.hid h0
  clear hr hl hn h0 hA0 hA1 e
  go_enter Tryz.func20,Tryz.ntmps20
  go_upto_region 1 with fail
  generalize ((w.alloc (.cells #[.slice a n c,.int .i64 s.timeout,.int .i64 s.drift,.int .i64 s.clock,.int .i64 s.now] 45)).alloc (.cells #[.bool true,.int .i64 x] 50)).alloc (.cells #[.slice none 0 0,.int .i64 0,.int .i64 0,.int .i64 0,.int .i64 0] 45)=w1 at *
  obtain ⟨hg0,c0,z0,c1,z1,c2,z2,c3,z3,c4,z4⟩:=hA0'.five
  obtain ⟨hg1,d0,y0,d1,y1⟩:=hA1'.two
  obtain ⟨hg2,e0,f0,e1,f1,e2,f2,e3,f3,e4,f4⟩:=hA2.five
  have hT:=Lib.hid (fun x0 x1 x2 x3 x4=>At.all5 hA2 x0 x1 x2 x3 x4)
  have hBo:=Lib.hid (fun x0 x1 x2 x3 x4=>Below.all5 hB0 (g:=w.heap.size+1+1) (by omega) x0 x1 x2 x3 x4)
  clear hA0' hA1' hA2 hB0
  go_wp2_with fail
  refine bodyPost_ret (results_at2 (fn:=Tryz.f20) rfl _ rfl (hT.out _ _ _ _ _) Tryz.underlying45 rfl (by kernel_rfl)) rfl ?_
  rw [HLE.out]
  exact ⟨a,c,l,.slice none 0 0,rfl,HR.out.row.below (hBo.out _ _ _ _ _),H0.out,HL.out,Sl.nil _ _ _,hBo.out _ _ _ _ _,.inl rfl⟩
theorem ref_do (K : Option Addr→Nat→List R→Prop) (a : Option Addr) (n c : Nat) (l : List Pv) (s : St) (t : Bool) (x : Int) (w : World) (hr : RowP w a l) (hn : n=l.length) (hl : l.map (·.p)=s.ps) (h0 : ∀ v∈l,K v.a v.c v.p.recs) (hok : s.Ok) (hx : in64 x) :
    Calls Tryz.prog 20 #[.agg #[.slice a n c,.int .i64 s.timeout,.int .i64 s.drift,.int .i64 s.clock,.int .i64 s.now],.agg #[.bool t,.int .i64 x]] w (DoR K a (s.doS (t,x)) (s.doE (t,x)) w):=by
  cases t
  · refine ref_do_poll K a n c l s _ _ x w hr hl (doS_len s (false,x)) fun w1 hb=>?_
    cases hv : s.refused x
    · obtain ⟨k,rfl⟩ : ∃ k : Nat,x=k:=⟨x.toNat,by have:=(refused_not hv).1;omega⟩
      rw [show s.doS (false,(k : Int))=s.pollS k by show (if s.refused k=true then s else s.pollS (k : Int).toNat)=_;rw [if_neg (by rw [hv];exact Bool.false_ne_true),Int.toNat_natCast],show s.doE (false,(k : Int))=s.pollE k by show (if s.refused k=true then [] else s.pollE (k : Int).toNat)=_;rw [if_neg (by rw [hv];exact Bool.false_ne_true),Int.toNat_natCast]]
      exact ref_poll K a n c l s k w1 (hr.on hb) hn hl h0 hok hv
    · rw [show s.doS (false,x)=s from if_pos hv,show s.doE (false,x)=[] from if_pos hv]
      exact ref_poll_no K a n c l s x w1 (hr.on hb) hn hl h0 hok hv
  · by_cases h : x<0
    · rw [show s.doS (true,x)=s from if_pos h,show s.doE (true,x)=[] from if_pos h]
      exact ref_do_vain K a n c l s x w hr hn hl h0 h
    · rw [show s.doS (true,x)=s.tickS x from if_neg h,show s.doE (true,x)=s.tickE x from if_neg h]
      exact ref_tick K a n c l s x w hr hn hl h0 hok (by omega) hx.2
structure RefN (w wr : World) (g8 k : Nat) (t d : Int) (rs : List Rul) (ls : List (List UInt8)) (a : Option Addr) (c : Nat) (out : Value) (l : List Pv) (F : Nat→Prop) : Prop where
  st : At wr g8 [.slice a k c,.int .i64 t,.int .i64 d,.int .i64 0,.int .i64 (-9223372036854775808)]
  row : Sl (g8+1) wr 10 (.slice a k c) k (pvs l)
  ps : l.map (·.p)=(begun t rs ls).take k
  evr : Sl (g8+1) wr 8 out (faultsTo (raws t rs ls) k).length (evcs (faultsTo (raws t rs ls) k))
  ok : ∀ v∈l,PvOk wr v∧∀ p,v.a=some p→0<v.p.recs.length→F p.block
  f : ∀ b,F b→g8+1≤b∧b<wr.heap.size
  fa : ∀ b,(Value.slice a k c).ownBlock=some b→¬ F b∧out.ownBlock≠some b
  fo : ∀ b,out.ownBlock=some b→¬ F b
  new : Below w.heap.size w wr
  lt : w.heap.size+1<g8
theorem RefN.on {w wr w' : World} {g8 k : Nat} {t d : Int} {rs : List Rul} {ls : List (List UInt8)} {a : Option Addr} {c : Nat} {out : Value} {l : List Pv} {F : Nat→Prop} (h : RefN w wr g8 k t d rs ls a c out l F) (hb : Below wr.heap.size wr w') : RefN w w' g8 k t d rs ls a c out l F :=
  ⟨h.st.on hb,h.row.on hb,h.ps,h.evr.on hb,fun v hv=>⟨(h.ok v hv).1.on hb,(h.ok v hv).2⟩,fun b hb'=>⟨(h.f b hb').1,Nat.lt_of_lt_of_le (h.f b hb').2 hb.size⟩,h.fa,h.fo,on_below h.new hb,h.lt⟩
theorem RefN.step {w wr w6 w7 w9 : World} {g8 k : Nat} {t d : Int} {rs : List Rul} {ls : List (List UInt8)} {a a1 a2 : Option Addr} {c c1 c2 : Nat} {out r : Value} {l : List Pv} {F : Nat→Prop} {v : Pv} (h : RefN w wr g8 k t d rs ls a c out l F) (hk : k<(raws t rs ls).length)
    (hv : v.p=settled (pat (raws t rs ls) k)) (hvo : PvOk w6 v) (hva : ∀ p,v.a=some p→0<v.p.recs.length→wr.heap.size≤p.block∧p.block<w6.heap.size) (h6 : Below wr.heap.size wr w6)
    (q1 : Sl (g8+1) w7 10 (.slice a1 (k+1) c1) (k+1) (pvs l++v.cells)) (q2 : Upd (fun b=>(Value.slice a k c).ownBlock=some b) w6 w7) (q3 : ∀ b,(Value.slice a1 (k+1) c1).ownBlock=some b→(Value.slice a k c).ownBlock=some b∨w6.heap.size≤b)
    (hr : ∀ b,r.ownBlock=some b→wr.heap.size≤b∧b<w6.heap.size)
    (l1 : Sl (g8+1) w9 8 (.slice a2 ((faultsTo (raws t rs ls) k).length+(faults (pat (raws t rs ls) k) k).length) c2) ((faultsTo (raws t rs ls) k).length+(faults (pat (raws t rs ls) k) k).length) (evcs (faultsTo (raws t rs ls) k)++evcs (faults (pat (raws t rs ls) k) k))) (l2 : Upd (fun b=>out.ownBlock=some b) (w7.setCell ⟨g8,0,none⟩ (.slice a1 (k+1) c1)) w9) (l3 : ∀ b,(Value.slice a2 ((faultsTo (raws t rs ls) k).length+(faults (pat (raws t rs ls) k) k).length) c2).ownBlock=some b→out.ownBlock=some b∨w7.heap.size≤b) :
    RefN w w9 g8 (k+1) t d rs ls a1 c1 (.slice a2 ((faultsTo (raws t rs ls) k).length+(faults (pat (raws t rs ls) k) k).length) c2) (l++[v]) (fun b=>F b∨∃ p,v.a=some p∧0<v.p.recs.length∧p.block=b):=by
  have h7:=h.on h6
  have hs6:=h6.size
  have hs7:=q2.size
  have hu8 : Upd (fun b=>b=g8) w7 (w7.setCell ⟨g8,0,none⟩ (.slice a1 (k+1) c1)):=(Upd.refl (fun b=>b=g8) w7).setCell (p:=⟨g8,0,none⟩) (fun _=>rfl) _
  have hs9 : w7.heap.size≤w9.heap.size:=Nat.le_trans hu8.size l2.size
  have hgl:=h.st.1
  have hog : ∀ b,out.ownBlock=some b→b≠g8:=fun b hb=>by have:=(h.evr.lt b hb).1;omega
  have hag : ∀ b,(Value.slice a k c).ownBlock=some b→b≠g8:=fun b hb=>by have:=(h.row.lt b hb).1;omega
  have hat:=((h7.st.upd q2 (fun e=>hag _ e rfl)).set 0 (by simp) (.slice a1 (k+1) c1)).upd l2 (fun e=>hog _ e rfl)
  simp only [List.set] at hat
  have hkeep : ∀ v',PvOk w6 v'→(∀ p,v'.a=some p→0<v'.p.recs.length→¬ (Value.slice a k c).ownBlock=some p.block∧p.block≠g8∧¬ out.ownBlock=some p.block)→PvOk w9 v':=fun v' ho hn=>((ho.upd q2 (fun p hp h0=>(hn p hp h0).1)).upd hu8 (fun p hp h0=>(hn p hp h0).2.1)).upd l2 (fun p hp h0=>(hn p hp h0).2.2)
  have hall : ∀ p,v.a=some p→0<v.p.recs.length→¬ (Value.slice a k c).ownBlock=some p.block∧p.block≠g8∧¬ out.ownBlock=some p.block:=fun p hp h0=>by
    have:=hva p hp h0
    refine ⟨fun e=>?_,by omega,fun e=>?_⟩
    · have:=(h.row.lt _ e).2;omega
    · have:=(h.evr.lt _ e).2;omega
  refine ⟨hat,?_,?_,?_,fun v' hv'=>?_,fun b hb=>?_,fun b hb=>?_,fun b hb=>?_,?_,h.lt⟩
  · rw [pvs_snoc]
    exact (q1.upd hu8 (fun b hb e=>by have:=(q1.lt b hb).1;have e' : b=g8:=e;omega)).upd l2 (fun b hb e=>(q3 b hb).elim (fun e'=>(h.fa b e').2 e) (fun e'=>by have:=(h.evr.lt b e).2;omega))
  · have hkb : k<(begun t rs ls).length:=by unfold begun;rw [List.length_map];exact hk
    rw [List.map_append,h.ps,List.take_succ_eq_append_getElem hkb]
    congr 1
    show [v.p]=_
    rw [hv,pat_lt hk]
    simp only [begun,List.getElem_map]
  · show Sl (g8+1) w9 8 _ (faultsTo (raws t rs ls) k++faults (pat (raws t rs ls) k) k).length (evcs (faultsTo (raws t rs ls) k++faults (pat (raws t rs ls) k) k))
    rw [List.length_append,show evcs (faultsTo (raws t rs ls) k++faults (pat (raws t rs ls) k) k)=evcs (faultsTo (raws t rs ls) k)++evcs (faults (pat (raws t rs ls) k) k) by simp [evcs]]
    exact l1
  · rcases List.mem_append.1 hv' with hv' | hv'
    · have ho:=h.ok v' hv'
      refine ⟨hkeep v' (ho.1.on h6) fun p hp h0=>⟨fun e=>(h.fa _ e).1 (ho.2 p hp h0),?_,fun e=>h.fo _ e (ho.2 p hp h0)⟩,fun p hp h0=>.inl (ho.2 p hp h0)⟩
      have:=(h.f _ (ho.2 p hp h0)).1
      omega
    · rw [List.mem_singleton] at hv'
      subst hv'
      exact ⟨hkeep v' hvo hall,fun p hp h0=>.inr ⟨p,hp,h0,rfl⟩⟩
  · rcases hb with hb|⟨p,hp,hp0,rfl⟩
    · have:=h.f b hb
      omega
    · have:=hva p hp hp0
      omega
  · rcases q3 b hb with e|e
    · refine ⟨fun hf=>?_,fun e2=>?_⟩
      · rcases hf with hf|⟨p,hp,hp0,rfl⟩
        · exact (h.fa b e).1 hf
        · exact (hall p hp hp0).1 e
      · rcases l3 b e2 with e3|e3
        · exact (h.fa b e).2 e3
        · have:=(h.row.lt b e).2;omega
    · refine ⟨fun hf=>?_,fun e2=>?_⟩
      · rcases hf with hf|⟨p,hp,hp0,rfl⟩
        · have:=(h.f b hf).2;omega
        · have:=hva p hp hp0;omega
      · rcases l3 b e2 with e3|e3
        · have:=(h.evr.lt b e3).2;omega
        · have:=(q1.lt b hb).2;omega
  · intro hf
    rcases l3 b hb with e|e
    · rcases hf with hf|⟨p,hp,hp0,rfl⟩
      · exact h.fo b e hf
      · exact (hall p hp hp0).2.2 e
    · rcases hf with hf|⟨p,hp,hp0,rfl⟩
      · have:=(h.f b hf).2;omega
      · have:=hva p hp hp0;omega
  · have hl:=h.lt
    have hn:=h.new.size
    have hb6:=on_below h.new h6
    have hb7:=hb6.upd q2 hb6.size (fun b _ e=>by have:=(h.row.lt b e).1;omega)
    have hb8:=hb7.upd hu8 hb7.size (fun b _ e=>by have e' : b=g8:=e;omega)
    exact hb8.upd l2 hb8.size (fun b _ e=>by have:=(h.evr.lt b e).1;omega)
end Go.Proofs.YtmimfkhkilijcaaGreatDoor
namespace Go.Proofs.YtmimfkhkilijcaaGreatDoor
open Go.ChangeShapes Go.WideShapes Go.ChangeAt Go.RowKit
theorem At.there {w : World} {g : Nat} {cs : List Value} (h : At w g cs) : w.there g 0 cs.length:=fun j hj=>by
  rw [Nat.zero_add]
  exact ⟨by rw [(h.2 j hj).1];rfl,(h.2 j hj).2⟩
theorem At.row {w : World} {g : Nat} {cs : List Value} (h : At w g cs) (vs : List Value) (hl : vs.length=cs.length) : At (w.setCells g 0 vs) g vs :=
  ⟨Nat.lt_of_lt_of_le h.1 (upd_setCells g 0 vs w).size,fun j hj=>by
    have h1:=cell_setCells_in g vs 0 w (fun i hi=>by rw [Nat.zero_add,(h.2 i (by omega)).1];rfl) j hj
    rw [Nat.zero_add] at h1
    exact ⟨by rw [h1,List.getElem?_eq_getElem hj],by rw [frozen_setCells];exact (h.2 j (by omega)).2⟩⟩
theorem run_store_there {P : Program} (w : World) (b : Nat) (cells : Array Value) (ht : w.there b 0 cells.size) (h1 : cells.all (·.oneCell')=true) : (storeCells ⟨b,0,none⟩ cells.toList 0).run P w = .ok () (w.setCells b 0 cells.toList) :=
  run_storeCells_cells (P:=P) b 0 cells.toList 0 w (fun j hj=>by simpa using (ht j (by simpa using hj)).1) (fun j hj=>by simpa using (ht j (by simpa using hj)).2) (fun v hv=>(Array.all_eq_true_iff_forall_mem.1 h1) v (by simpa using hv))
open PHist PRing PSat PClamp PBound PFrame PSign PTree PEv
def Apart (r : Value) (a : Option Addr) (l : List Pv) : Prop :=
  ∀ q,r.ownBlock=some q→(∀ p,a=some p→0<l.length→q≠p.block)∧∀ v∈l,∀ p,v.a=some p→0<v.p.recs.length→q≠p.block
def NewR (s : St) (es : List Ev) (w : World) (e : Ending) (w' : World) : Prop :=
  ∃ (a : Option Addr) (c : Nat) (l : List Pv) (r : Value),e = .returned (.tuple #[.agg #[.slice a s.ps.length c,.int .i64 s.timeout,.int .i64 s.drift,.int .i64 s.clock,.int .i64 s.now],r,.int .i64 0])∧RowP w' a l∧l.map (·.p)=s.ps∧Sl w.heap.size w' 8 r es.length (evcs es)∧Below w.heap.size w w'∧(∀ p,a=some p→0<l.length→w.heap.size≤p.block)∧Apart r a l∧∀ v∈l,∀ p,v.a=some p→0<v.p.recs.length→w.heap.size≤p.block
theorem ref_new_done {w wr w12 wf : World} {g8 k n12 c12 : Nat} {t d fu : Int} {rs : List Rul} {ls : List (List UInt8)} {a a12 : Option Addr} {c : Nat} {out : Value} {l : List Pv} {F : Nat→Prop} {ps : List Pt} {es : List Ev} {xs : List Value}
    (h : RefN w wr g8 k t d rs ls a c out l F) (hps : l.map (·.p)=ps) (hk : k=ps.length) (hX : Upd (fun q=>wr.heap.size≤q∨q=g8∨out.ownBlock=some q) wr w12) (hU : Upd (fun q=>q=w.heap.size+1) w12 wf)
    (hsl : Sl (g8+1) w12 8 (.slice a12 n12 c12) n12 xs) (l3 : ∀ q,(Value.slice a12 n12 c12).ownBlock=some q→out.ownBlock=some q∨wr.heap.size≤q) (hn : n12=es.length) (hxs : xs=evcs es) :
    NewR ⟨ps,t,d,0,fu⟩ es w (.returned (.tuple #[.agg #[.slice a k c,.int .i64 t,.int .i64 d,.int .i64 0,.int .i64 fu],.slice a12 n12 c12,.int .i64 0])) wf:=by
  have hll : l.length=k:=by rw [hk,← hps,List.length_map]
  have hlt:=h.lt
  have hsz:=h.new.size
  have hgl:=h.st.1
  have hrow:=RowP.of_sl h.row hll.symm (fun v hv=>(h.ok v hv).1)
  have hab : ∀ p,a=some p→(Value.slice a k c).ownBlock=some p.block:=fun p hp=>by rw [hp];rfl
  have hw12 : Below w.heap.size w w12:=h.new.upd hX hsz (fun q hq hs=>by
    rcases hs with hs|hs|hs
    · omega
    · omega
    · have:=(h.evr.lt q hs).1;omega)
  subst hn hxs hk
  refine ⟨a,c,l,_,rfl,⟨(RowG.keep hrow.row hX (fun p hp h0 hs=>?_)).keep hU (fun p hp h0 hs=>?_),fun v hv=>((h.ok v hv).1.upd hX (fun p hp h0 hs=>?_)).upd hU (fun p hp h0 hs=>?_)⟩,hps,(hsl.base (by omega)).upd hU (fun q hq hs=>?_),hw12.upd hU hw12.size (fun q _ hs=>by have hs : q=w.heap.size+1:=hs;omega),fun p hp h0=>?_,fun q hq=>⟨fun p hp h0 e=>?_,fun v hv p hp h0 e=>?_⟩,fun v hv p hp h0=>?_⟩
  · have h1:=h.row.lt _ (hab p hp)
    have h2:=h.fa _ (hab p hp)
    rcases hs with hs|hs|hs
    · omega
    · omega
    · exact h2.2 hs
  · have h1:=h.row.lt _ (hab p hp)
    have hs : p.block=w.heap.size+1:=hs
    omega
  · have h1:=(h.ok v hv).2 p hp h0
    have h2:=h.f _ h1
    rcases hs with hs|hs|hs
    · omega
    · omega
    · exact h.fo _ hs h1
  · have h1:=h.f _ ((h.ok v hv).2 p hp h0)
    have hs : p.block=w.heap.size+1:=hs
    omega
  · have h1:=(hsl.lt q hq).1
    have hs : q=w.heap.size+1:=hs
    omega
  · have h1:=h.row.lt _ (hab p hp)
    omega
  · subst e
    rcases l3 _ hq with h1|h1
    · exact (h.fa _ (hab p hp)).2 h1
    · have:=h.row.lt _ (hab p hp);omega
  · subst e
    have h2:=(h.ok v hv).2 p hp h0
    rcases l3 _ hq with h1|h1
    · exact h.fo _ h1 h2
    · have:=h.f _ h2;omega
  · have:=h.f _ ((h.ok v hv).2 p hp h0)
    omega
theorem ref_new_none (rs : List Rul) (t d : Int) (a : Option Addr) (n c : Nat) (b : Option Addr) (m c2 : Nat) (w : World) (h1 : RowU w a rs) (hn : n=rs.length) (hl : n≤10000) (z : Int) (hz : nerr rs t d m=z) (h0 : z≠0) :
    Calls Tryz.prog 19 #[.agg #[.slice a n c,.int .i64 t,.int .i64 d],.slice b m c2] w fun e w'=>e = .returned (.tuple #[.agg #[.slice none 0 0,.int .i64 0,.int .i64 0,.int .i64 0,.int .i64 0],.slice none 0 0,.int .i64 z])∧Below w.heap.size w w':=by
  have e:=fun (w : World) (o : Obj)=>(Below.refl w.heap.size w).alloc (Nat.le_refl _) o
  have hA0:=(At.alloc w [.slice a n c,.int .i64 t,.int .i64 d] 24).on (e _ (.cells #[.slice none 0 0,.int .i64 0,.int .i64 0,.int .i64 0,.int .i64 0] 45))
  have hA1:=At.alloc (w.alloc (.cells #[.slice a n c,.int .i64 t,.int .i64 d] 24)) [.slice none 0 0,.int .i64 0,.int .i64 0,.int .i64 0,.int .i64 0] 45
  rw [World.size_alloc] at hA1
  have hb0 : Below w.heap.size w ((w.alloc (.cells #[.slice a n c,.int .i64 t,.int .i64 d] 24)).alloc (.cells #[.slice none 0 0,.int .i64 0,.int .i64 0,.int .i64 0,.int .i64 0] 45)):=on_below (e _ _) (e _ _)
  have HC:=fun y hy=>Lib.hid (ref_check19 rs t d a n c _ (h1.below hb0) hn hl y hy)
  unfold nerr at hz
  by_cases hc : ccheck rs t d=0
  · rw [if_neg (by omega)] at hz
    have hmn : m≠rs.length:=by intro e;rw [if_neg (by omega)] at hz;omega
    rw [if_pos hmn] at hz
    subst hz
    have HC0:=HC 0 hc
    have hne : ((m : Int) != (n : Int))=true:=by rw [bne_iff_ne];omega
    clear HC hc h1 hmn h0 hn e
    go_enter Tryz.func19,Tryz.ntmps19
    go_upto_region 1 with fail
    generalize (w.alloc (.cells #[.slice a n c,.int .i64 t,.int .i64 d] 24)).alloc (.cells #[.slice none 0 0,.int .i64 0,.int .i64 0,.int .i64 0,.int .i64 0] 45)=w1 at *
    obtain ⟨hg0,p0,x0,p1,x1,p2,x2⟩:=hA0.three
    go_wp2_with (first|(go_at_call 49;(with_reducible refine HC0.out.mono ?_);rintro e w2 ⟨rfl,hb2⟩;obtain ⟨hg,c0,z0,c1,z1,c2,z2⟩:=(hA0.on hb2).three;have hAz:=hA1.on hb2;obtain ⟨hg2,e0,f0,e1,f1,e2,f2,e3,f3,e4,f4⟩:=hAz.five;have hT:=Lib.hid (fun x0 x1 x2 x3 x4=>At.all5 hAz x0 x1 x2 x3 x4);have hBo:=Lib.hid (fun x0 x1 x2 x3 x4=>Below.all5 (on_below hb0 hb2) (g:=w.heap.size+1) (by omega) x0 x1 x2 x3 x4);clear hAz))
    refine bodyPost_ret (results_at3 (fn:=Tryz.f19) rfl _ rfl (hT.out _ _ _ _ _) Tryz.underlying45 rfl (by kernel_rfl)) rfl ?_
    exact ⟨rfl,hBo.out _ _ _ _ _⟩
  · rw [if_pos hc] at hz
    have HC0:=HC z hz
    have hz0 : (z != 0)=true:=by rw [bne_iff_ne];exact h0
    clear HC hc hz h1 hn h0 e
    go_enter Tryz.func19,Tryz.ntmps19
    go_upto_region 1 with fail
    generalize (w.alloc (.cells #[.slice a n c,.int .i64 t,.int .i64 d] 24)).alloc (.cells #[.slice none 0 0,.int .i64 0,.int .i64 0,.int .i64 0,.int .i64 0] 45)=w1 at *
    obtain ⟨hg0,p0,x0,p1,x1,p2,x2⟩:=hA0.three
    go_wp2_with (first|(go_at_call 49;(with_reducible refine HC0.out.mono ?_);rintro e w2 ⟨rfl,hb2⟩;have hAz:=hA1.on hb2;obtain ⟨hg2,e0,f0,e1,f1,e2,f2,e3,f3,e4,f4⟩:=hAz.five;have hT:=Lib.hid (fun x0 x1 x2 x3 x4=>At.all5 hAz x0 x1 x2 x3 x4);have hBo:=Lib.hid (fun x0 x1 x2 x3 x4=>Below.all5 (on_below hb0 hb2) (g:=w.heap.size+1) (by omega) x0 x1 x2 x3 x4);clear hAz))
    refine bodyPost_ret (results_at3 (fn:=Tryz.f19) rfl _ rfl (hT.out _ _ _ _ _) Tryz.underlying45 rfl (by kernel_rfl)) rfl ?_
    exact ⟨rfl,hBo.out _ _ _ _ _⟩
theorem ref_new (rs : List Rul) (t d : Int) (ls : List ByteArray) (a : Option Addr) (n c : Nat) (b : Option Addr) (m c2 : Nat) (w : World) (h1 : RowU w a rs) (h2 : RowS w b ls) (hn : n=rs.length) (hm : m=ls.length) (hz : nerr rs t d m=0) (h8 : m≤8) (hf : ∀ r∈rs,r.Fits) (ht : in64 t) (hd : in64 d) (hs : ∀ s∈ls,s.size≤400) :
    Calls Tryz.prog 19 #[.agg #[.slice a n c,.int .i64 t,.int .i64 d],.slice b m c2] w (NewR (St.new t d rs (ls.map fun s=>s.data.toList)) (St.newE t rs (ls.map fun s=>s.data.toList)) w):=by
  have e:=fun (w : World) (o : Obj)=>(Below.refl w.heap.size w).alloc (Nat.le_refl _) o
  have hA0:=(At.alloc w [.slice a n c,.int .i64 t,.int .i64 d] 24).on (e _ (.cells #[.slice none 0 0,.int .i64 0,.int .i64 0,.int .i64 0,.int .i64 0] 45))
  have hA1:=At.alloc (w.alloc (.cells #[.slice a n c,.int .i64 t,.int .i64 d] 24)) [.slice none 0 0,.int .i64 0,.int .i64 0,.int .i64 0,.int .i64 0] 45
  rw [World.size_alloc] at hA1
  have hb0 : Below w.heap.size w ((w.alloc (.cells #[.slice a n c,.int .i64 t,.int .i64 d] 24)).alloc (.cells #[.slice none 0 0,.int .i64 0,.int .i64 0,.int .i64 0,.int .i64 0] 45)):=on_below (e _ _) (e _ _)
  obtain ⟨hc0,hmn⟩:=nerr_zero hz
  have HC:=Lib.hid (ref_check19 rs t d a n c _ (h1.below hb0) hn (by omega) 0 hc0)
  have ht1:=ccheck_t hc0
  have HOK : Hid (∀ p∈begun t rs (ls.map fun s=>s.data.toList),p.Ok):=(new_ok (d:=d) (by rw [List.length_map];omega) (by omega) (fun r hr=>⟨ccheck_ok hc0 r hr,hf r hr⟩) (fun l hl=>by
    obtain ⟨s,hs',rfl⟩:=List.mem_map.1 hl
    exact hs s hs') ⟨ht1.2.1,ht.2⟩ ⟨ht1.2.2,hd.2⟩).pt
  have HB1 : Hid (∀ p,a=some p→0<rs.length→p.block<w.heap.size):=fun p hp h0=>by
    obtain ⟨b',off,hab,hb,-⟩:=h1.at_ 0 h0
    rw [hab] at hp;cases hp
    exact hb
  have HB2 : Hid (∀ p,b=some p→0<ls.length→p.block<w.heap.size):=fun p hp h0=>by
    obtain ⟨b',off,hab,hb,-⟩:=h2.at_ 0 h0
    rw [hab] at hp;cases hp
    exact hb
  have H1:=Lib.hid (h1.below hb0)
  have H2:=Lib.hid (h2.below hb0)
  have HS:=Lib.hid hs
  have HRL:=Lib.hid (raws_len (t:=t) (rs:=rs) (ls:=ls.map fun s=>s.data.toList) (by rw [List.length_map];omega))
  have HLL : Hid ((ls.map fun s=>s.data.toList).length=rs.length):=by show _=_;rw [List.length_map];omega
  obtain rfl : m=n:=by omega
  have HN:=Lib.hid hn
  have HM:=Lib.hid hm
  clear h1 h2 hn hm hz hs hc0 hmn ht1 hd
  have hne : ((m : Int) != (m : Int))=false:=by simp
  go_enter Tryz.func19,Tryz.ntmps19
  go_upto_region 1 with fail
  generalize (w.alloc (.cells #[.slice a m c,.int .i64 t,.int .i64 d] 24)).alloc (.cells #[.slice none 0 0,.int .i64 0,.int .i64 0,.int .i64 0,.int .i64 0] 45)=w1 at *
  obtain ⟨hg0,p0,x0,p1,x1,p2,x2⟩:=hA0.three
  go_upto_region 6 with (first|(go_at_call 49;(with_reducible refine HC.out.mono ?_);rintro e w2 ⟨rfl,hb2⟩;obtain ⟨hgc,c0,z0,c1,z1,c2,z2⟩:=(hA0.on hb2).three))
  have hA0b:=hA0.on hb2
  have hA1b:=hA1.on hb2
  have hbw2:=on_below hb0 hb2
  have H1b:=Lib.hid (H1.out.below hb2)
  have H2b:=Lib.hid (H2.out.below hb2)
  have hlt2 : w.heap.size+1<w2.heap.size:=hA1b.1
  clear hA0 hA1 hb0 p0 x0 p1 x1 p2 x2 hg0 hb2 H1 H2
  have hS8:=(At.alloc w2 [.slice none 0 0,.int .i64 t,.int .i64 d,.int .i64 0,.int .i64 (-9223372036854775808)] 45).on (e _ (.cells #[] 56))
  have hB8 : Below w2.heap.size w2 ((w2.alloc (.cells #[.slice none 0 0,.int .i64 t,.int .i64 d,.int .i64 0,.int .i64 (-9223372036854775808)] 45)).alloc (.cells #[] 56)):=on_below (e _ _) (e _ _)
  have hO8 : Sl (w2.heap.size+1) ((w2.alloc (.cells #[.slice none 0 0,.int .i64 t,.int .i64 d,.int .i64 0,.int .i64 (-9223372036854775808)] 45)).alloc (.cells #[] 56)) 8 (.slice (some ⟨w2.heap.size+1,0,none⟩) 0 0) 0 []:=by
    have h:=Sl.made (B:=w2.heap.size+1) (w2.alloc (.cells #[.slice none 0 0,.int .i64 t,.int .i64 d,.int .i64 0,.int .i64 (-9223372036854775808)] 45)) #[] 56 8 0 0 (by simp) (Nat.le_refl _) (Nat.zero_le _) (by simp)
    simpa using h
  have HR0 : RefN w ((w2.alloc (.cells #[.slice none 0 0,.int .i64 t,.int .i64 d,.int .i64 0,.int .i64 (-9223372036854775808)] 45)).alloc (.cells #[] 56)) w2.heap.size 0 t d rs (ls.map fun s=>s.data.toList) none 0 (.slice (some ⟨w2.heap.size+1,0,none⟩) 0 0) [] (fun _=>False) :=
    ⟨hS8,Sl.nil _ _ _,rfl,hO8,fun v hv=>(by cases hv),fun _ h=>h.elim,fun b hb=>(by simp [Value.ownBlock] at hb),fun _ _ h=>h,on_below hbw2 hB8,hlt2⟩
  go_upto_region 8 with fail
  have hA0c:=hA0b.on hB8
  have hA1c:=hA1b.on hB8
  have H1c:=Lib.hid (H1b.out.below hB8)
  have H2c:=Lib.hid (H2b.out.below hB8)
  have hsz8:=hB8.size
  clear hS8 hO8 hA0b hA1b H1b H2b hB8 hbw2 hgc c0 z0 c1 z1 c2 z2
  generalize (w2.alloc (.cells #[.slice none 0 0,.int .i64 t,.int .i64 d,.int .i64 0,.int .i64 (-9223372036854775808)] 45)).alloc (.cells #[] 56)=w8 at *
  generalize w2.heap.size=g8 at *
  go_wp2_with fail
  go_loopw [9,10] (fun vo vi wr=>∃ (k : Nat) (a' : Option Addr) (c' : Nat) (l : List Pv) (F : Nat→Prop),k≤m∧vi = .int .i64 k∧RefN w wr g8 k t d rs (ls.map fun s=>s.data.toList) a' c' vo l F∧At wr w.heap.size [.slice a m c,.int .i64 t,.int .i64 d]∧At wr (w.heap.size+1) [.slice none 0 0,.int .i64 0,.int .i64 0,.int .i64 0,.int .i64 0]∧Upd (fun b=>g8≤b) w8 wr) (fun _ i _=>m - (intOf i).toNat)
  case atStart=>exact ⟨0,none,0,[],_,Nat.zero_le _,rfl,HR0,hA0c,hA1c,Upd.refl _ _⟩
  case round =>
    clear HR0 hA0c hA1c
    obtain ⟨k,a',c',l,F,hk,rfl,hR,hA,hAz,hup⟩:=hrel
    by_cases hlt : k<m
    · have hkr : k<rs.length:=by rw [← HN.out];exact hlt
      have hkl : k<ls.length:=by rw [← HM.out];exact hlt
      have hrow:=RowG.upd H1c.out hup (fun p hp h=>by have h1:=HB1.out p hp (by omega);have h2 : g8≤p.block:=h;omega)
      have hstr:=RowS.upd H2c.out hup (fun p hp h=>by have h1:=HB2.out p hp (by omega);have h2 : g8≤p.block:=h;omega)
      obtain ⟨bb,offb,rfl,-,-⟩:=hrow.at_ k hkr
      obtain ⟨bs,offs,rfl,-,-⟩:=hstr.at_ k hkl
      obtain ⟨hbs,s0⟩:=hstr.cell k hkl
      have hrc:=fun wx (h : RowU wx (some ⟨bb,offb,none⟩) rs)=>RowU.cells h k hkr
      have hraw:=raws_at (t:=t) HLL.out k hkr
      rw [List.getElem_map] at hraw
      have HPA:=fun wx=>Lib.hid (ref_parse2 ls[k] wx (by have:=HS.out _ (List.getElem_mem hkl);omega))
      unfold Pt.raw at hraw
      generalize rs[k]=ru at *
      obtain ⟨kd,bd,pc,wn,sg⟩:=ru
      generalize parse ls[k].data.toList=pp at *
      obtain ⟨recs,ln,er⟩:=pp
      simp only at hraw hrc
      generalize ls[k]=sk at *
      have HSE:=fun (ar : Option Addr) (cr : Nat) w=>(ref_settle ⟨⟨⟨kd,bd,pc,wn,sg⟩,recs,er,0,0,t⟩,ar,cr⟩ k w)
      have hsl:=settled_is ⟨⟨kd,bd,pc,wn,sg⟩,recs,er,0,0,t⟩
      have HFL : Hid ((faults (pat (raws t rs (ls.map fun s=>s.data.toList)) k) k).length≤1):=faults_len _ _
      have HFK : Hid ((faultsTo (raws t rs (ls.map fun s=>s.data.toList)) k).length≤k):=faultsTo_len _ _
      unfold SetPost at HSE
      simp only at HSE
      rw [hsl] at HSE
      have HSR : Hid (settled (pat (raws t rs (ls.map fun s=>s.data.toList)) k)=⟨⟨kd,bd,pc,wn,sg⟩,recs,er,0,(settled ⟨⟨kd,bd,pc,wn,sg⟩,recs,er,0,0,t⟩).is,t⟩):=by show _=_;rw [hraw];exact hsl
      simp only [Pv.val] at HSE
      generalize (settled ⟨⟨kd,bd,pc,wn,sg⟩,recs,er,0,0,t⟩).is=is2 at *
      rw [← hraw] at HSE
      rw [show ((0 : Nat) : Int)=0 from rfl] at HSE
      clear hsl hraw
      obtain ⟨hg0,p0,x0,p1,x1,p2,x2⟩:=hA.three
      go_upto_region 12 with (first|(go_at_call 50;(with_reducible refine (HPA _).out.mono ?_);intro e w5 hG;obtain ⟨ar,cr,rfl,hRR,hb5,hnr,hle,hcap⟩:=hG))
      have hGt:=At.alloc w5 [.slice ar recs.length cr,.int .i64 ln,.int .i64 er] 98
      have hB6 : Below wr.heap.size wr (w5.alloc (.cells #[.slice ar recs.length cr,.int .i64 ln,.int .i64 er] 98)):=on_below hb5 (e _ _)
      have hRR6:=hRR.on (e w5 (.cells #[.slice ar recs.length cr,.int .i64 ln,.int .i64 er] 98))
      have hN6 : ∀ q,ar=some q→wr.heap.size≤q.block:=hnr
      clear p0 x0 p1 x1 p2 x2 hg0 hRR hb5 hnr
      generalize w5.alloc (.cells #[.slice ar recs.length cr,.int .i64 ln,.int .i64 er] 98)=w6 at *
      generalize w5.heap.size=gt at *
      have hA6:=hA.on hB6
      obtain ⟨hg0,p0,x0,p1,x1,p2,x2⟩:=hA6.three
      obtain ⟨hg1,q0,y0,q1,y1,q2,y2⟩:=hGt.three
      obtain ⟨hbb,r0,r1,r2,r3,r4⟩:=hrc _ (hrow.below hB6)
      have HS2:=fun w'=>Lib.hid (HSE ar cr w')
      have hsb6:=hB6.size
      clear HSE HPA hrc
      go_cut [12,13] (fun v12 v13 wx=>∃ g12 : Nat,v12 = .pointer (some ⟨g12,0,none⟩)∧At wx g12 [.int .i64 kd,.int .i64 bd,.int .i64 pc,.int .i64 wn,.int .i64 sg,.slice ar recs.length cr,.int .i64 er,.int .i64 0,.int .i64 is2,.int .i64 t]∧Sl w6.heap.size wx 8 v13 (faults (pat (raws t rs (ls.map fun s=>s.data.toList)) k) k).length (evcs (faults (pat (raws t rs (ls.map fun s=>s.data.toList)) k) k))∧Below w6.heap.size w6 wx)
      case first =>
        rename_i z1 z2 z3 z4 z5 z6 z7 z8 z9 z10 z11
        clear z2 z5 z7
        clear hR hA hAz hrow hstr hup H1c H2c HB1 HB2 hA6 hGt hRR6 HOK HS HRL HLL HN HM HFL HFK HSR hf h8 hsz8 hlt2 hne hk hbs s0 hkr hkl hle hcap hN6 ht
        have HF : ∀ wx,Below w6.heap.size w6 wx→wx.cell? ⟨w.heap.size,0,none⟩=some (.slice (some ⟨bb,offb,none⟩) m c)∧wx.cell? ⟨w.heap.size,1,none⟩=some (.int .i64 t)∧wx.cell? ⟨gt,0,none⟩=some (.slice ar recs.length cr)∧wx.cell? ⟨gt,2,none⟩=some (.int .i64 er)∧wx.cell? ⟨bb,offb+k*5,none⟩=some (.int .i64 kd)∧wx.cell? ⟨bb,offb+k*5+1,none⟩=some (.int .i64 bd)∧wx.cell? ⟨bb,offb+k*5+2,none⟩=some (.int .i64 pc)∧wx.cell? ⟨bb,offb+k*5+3,none⟩=some (.int .i64 wn)∧wx.cell? ⟨bb,offb+k*5+4,none⟩=some (.int .i64 sg):=fun wx h=>by
          refine ⟨?_,?_,?_,?_,?_,?_,?_,?_,?_⟩ <;> (first|exact cell_kept h p0|exact cell_kept h p1|exact cell_kept h q0|exact cell_kept h q2|exact cell_kept h r0|exact cell_kept h r1|exact cell_kept h r2|exact cell_kept h r3|exact cell_kept h r4)
        have HZ:=fun wx (h : Below (w6.alloc (.cells #[.int .i64 0,.int .i64 0,.int .i64 0,.int .i64 0,.int .i64 0,.slice none 0 0,.int .i64 0,.int .i64 0,.int .i64 0,.int .i64 0] 62)).drew.heap.size (w6.alloc (.cells #[.int .i64 0,.int .i64 0,.int .i64 0,.int .i64 0,.int .i64 0,.slice none 0 0,.int .i64 0,.int .i64 0,.int .i64 0,.int .i64 0] 62)).drew wx)=>(show At wx w6.heap.size [.int .i64 0,.int .i64 0,.int .i64 0,.int .i64 0,.int .i64 0,.slice none 0 0,.int .i64 0,.int .i64 0,.int .i64 0,.int .i64 0] from (At.alloc w6 [.int .i64 0,.int .i64 0,.int .i64 0,.int .i64 0,.int .i64 0,.slice none 0 0,.int .i64 0,.int .i64 0,.int .i64 0,.int .i64 0] 62).drew.on h)
        obtain ⟨C,hC⟩ : ∃ C : Array Value,C = #[.int .i64 kd,.int .i64 bd,.int .i64 pc,.int .i64 wn,.int .i64 sg,.slice ar recs.length cr,.int .i64 er,.int .i64 0,.int .i64 is2,.int .i64 t]:=⟨_,rfl⟩
        rw [← hC] at HS2
        have HC10 : C.size=10:=by rw [hC];rfl
        have HC1' : Hid (C.all (·.oneCell')=true):=by show _=true;rw [hC];simp [Value.oneCell']
        have HCC:=Lib.hid hC
        clear hC
        have HI10' : Hid ((Tryz.prog.info? 62).map (·.size)=some C.size):=by show _=_;rw [HC10];kernel_rfl
        have HTH:=fun wx (h : Below (w6.alloc (.cells #[.int .i64 0,.int .i64 0,.int .i64 0,.int .i64 0,.int .i64 0,.slice none 0 0,.int .i64 0,.int .i64 0,.int .i64 0,.int .i64 0] 62)).drew.heap.size (w6.alloc (.cells #[.int .i64 0,.int .i64 0,.int .i64 0,.int .i64 0,.int .i64 0,.slice none 0 0,.int .i64 0,.int .i64 0,.int .i64 0,.int .i64 0] 62)).drew wx)=>Lib.hid (show wx.there w6.heap.size 0 C.size by rw [HC10];exact (HZ wx h).there)
        have HBA : ∀ o,Below w6.heap.size w6 (w6.alloc o).drew:=fun o=>((Below.refl w6.heap.size w6).alloc (Nat.le_refl _) o).drew
        go_region_held3 (fun wx=>wx.cell? ⟨w.heap.size,0,none⟩=some (.slice (some ⟨bb,offb,none⟩) m c)∧wx.cell? ⟨w.heap.size,1,none⟩=some (.int .i64 t)∧wx.cell? ⟨gt,0,none⟩=some (.slice ar recs.length cr)∧wx.cell? ⟨gt,2,none⟩=some (.int .i64 er)∧wx.cell? ⟨bb,offb+k*5,none⟩=some (.int .i64 kd)∧wx.cell? ⟨bb,offb+k*5+1,none⟩=some (.int .i64 bd)∧wx.cell? ⟨bb,offb+k*5+2,none⟩=some (.int .i64 pc)∧wx.cell? ⟨bb,offb+k*5+3,none⟩=some (.int .i64 wn)∧wx.cell? ⟨bb,offb+k*5+4,none⟩=some (.int .i64 sg))
          (first|(with_reducible exact HF _ (Below.refl _ _))|(with_reducible exact HF _ (Below.refl _ _).drew)|(with_reducible exact HF _ hbx)|(with_reducible exact HF _ (HBA _))|(with_reducible exact HF _ (hbx2 _))|(with_reducible exact HF _ hbx3)|fail)
          (first|(go_at_call 51;(with_reducible refine (HS2 _).out.mono ?_);intro e w7 hF;obtain ⟨r,rfl,hf,hb7⟩:=hF;have hbx : Below w6.heap.size w6 w7:=(by first|(with_reducible exact on_below (Below.refl w6.heap.size w6).drew hb7)|(with_reducible exact on_below (HBA _) hb7));have hbx2 : ∀ o,Below w6.heap.size w6 (w7.alloc o):=(fun o=>hbx.alloc hbx.size o);have hbx3 : Below w6.heap.size w6 (w7.setCells w6.heap.size 0 C.toList):=(hbx.upd (upd_setCells w6.heap.size 0 C.toList w7) hbx.size (fun q _ h=>by have h' : q=w6.heap.size:=h;omega));have hSB:=run_storeAt_new (P:=Tryz.prog) w7 62 #[.int .i64 0,.int .i64 0,.int .i64 0,.int .i64 0,.int .i64 0,.slice none 0 0,.int .i64 0,.int .i64 0,.int .i64 0,.int .i64 0] C HI10'.out HC10.symm HC1'.out;have hSD:=run_storeCells_new (P:=Tryz.prog) w7 62 #[.int .i64 0,.int .i64 0,.int .i64 0,.int .i64 0,.int .i64 0,.slice none 0 0,.int .i64 0,.int .i64 0,.int .i64 0,.int .i64 0] C HI10'.out HC10.symm HC1'.out;first|(with_reducible have hTH:=HTH _ hb7;have hSA:=run_storeAt_mid (P:=Tryz.prog) w7 w6.heap.size 0 62 C hTH.out HI10'.out HC1'.out;have hSC:=run_store_there (P:=Tryz.prog) w7 w6.heap.size C hTH.out HC1'.out)|skip))
        all_goals (go_wp2_with fail;go_meet)
        all_goals first
          | exact ⟨_,rfl,by rw [HCC.out];exact (HZ _ hb7).row [.int .i64 kd,.int .i64 bd,.int .i64 pc,.int .i64 wn,.int .i64 sg,.slice ar recs.length cr,.int .i64 er,.int .i64 0,.int .i64 is2,.int .i64 t] rfl,(hf.upd (upd_setCells w6.heap.size 0 C.toList w7) (fun q hq h=>by have h' : q=w6.heap.size:=h;have:=(hf.lt q hq).1;simp at this;omega)).base (by simp),hbx3⟩
          | exact ⟨_,rfl,by rw [HCC.out];exact At.alloc w7 [.int .i64 kd,.int .i64 bd,.int .i64 pc,.int .i64 wn,.int .i64 sg,.slice ar recs.length cr,.int .i64 er,.int .i64 0,.int .i64 is2,.int .i64 t] 62,(hf.alloc _).base (by simp),hbx2 _⟩
      case rest =>
        obtain ⟨g12,rfl,hP12,hf,hbc⟩:=hcut
        have hBc:=on_below hB6 hbc
        have hRc:=hR.on hBc
        have hvok : PvOk wc ⟨⟨⟨kd,bd,pc,wn,sg⟩,recs,er,0,is2,t⟩,ar,cr⟩:=⟨hRR6.on hbc,hle,hcap⟩
        have hgl:=hR.st.1
        obtain ⟨hgs,s0,y0,s1,y1,s2,y2,s3,y3,s4,y4⟩:=hRc.st.five
        obtain ⟨hgp,e0,f0,e1,f1,e2,f2,e3,f3,e4,f4,e5,f5,e6,f6,e7,f7,e8,f8,e9,f9⟩:=hP12.ten
        obtain ⟨i0,hi0,hz0,hz1,hz2⟩:=info_parts info_pv
        obtain ⟨j0,hj0,hy0,hy1,hy2⟩:=info_parts info_evr
        obtain ⟨av,cv,hre⟩:=hf.shape
        subst hre
        have hf1:=HFL.out
        have hf2:=HFK.out
        have hszc:=hBc.size
        have hsz7:=hbc.size
        have hm1 : k+1≤maxLen:=by unfold maxLen;omega
        have hone:=Pv.cells_one ⟨⟨⟨kd,bd,pc,wn,sg⟩,recs,er,0,is2,t⟩,ar,cr⟩
        clear p0 x0 p1 x1 p2 x2 q0 q1 q2 r0 r1 r2 r3 r4 HS2
        go_upto_region 14 with (at_builtin;refine wpList_append_sl _ rfl (.tmp 63) (.tmp 65) 43 43 rfl 62 i0 _ 96 Tryz.underlying43 hi0 hz0 hz1 hz2 rfl rfl (hRc.row.alloc _) _ 1 [.int .i64 kd,.int .i64 bd,.int .i64 pc,.int .i64 wn,.int .i64 sg,.slice ar recs.length cr,.int .i64 er,.int .i64 0,.int .i64 is2,.int .i64 t] rfl (src_cells Tryz.underlying43 wc _ 62 _ rfl 10 rfl hone) hm1 (by omega) (by simp;omega) ?_;intro v1 w7 q1 q2 q3;obtain ⟨a1,c1,rfl⟩:=q1.shape;have hst7:=(hRc.st.on (e wc (.cells #[.int .i64 kd,.int .i64 bd,.int .i64 pc,.int .i64 wn,.int .i64 sg,.slice ar recs.length cr,.int .i64 er,.int .i64 0,.int .i64 is2,.int .i64 t] 62))).upd q2 (fun h=>by have:=(hRc.row.lt _ h).1;omega);obtain ⟨hg7,t0,o0,t1,o1,t2,o2,t3,o3,t4,o4⟩:=hst7.five)
        clear s0 y0 s1 y1 s2 y2 s3 y3 s4 y4 e0 f0 e1 f1 e2 f2 e3 f3 e4 f4 e5 f5 e6 f6 e7 f7 e8 f8 e9 f9 t0 o0 t1 o1 t2 o2 t3 o3 t4 o4
        have hu8 : Upd (fun q=>q=g8) w7 (w7.setCell ⟨g8,0,none⟩ (.slice a1 (k+1) c1)):=(Upd.refl (fun q=>q=g8) w7).setCell (p:=⟨g8,0,none⟩) (fun _=>rfl) _
        have hwc7 : wc.heap.size≤w7.heap.size:=Nat.le_trans (by simp) q2.size
        have hag : ∀ q,(Value.slice a' k c').ownBlock=some q→q<wc.heap.size:=fun q h=>(hRc.row.lt q h).2
        have hE8:=(((hRc.evr.on (e wc (.cells #[.int .i64 kd,.int .i64 bd,.int .i64 pc,.int .i64 wn,.int .i64 sg,.slice ar recs.length cr,.int .i64 er,.int .i64 0,.int .i64 is2,.int .i64 t] 62))).upd q2 (fun q hq h=>(hRc.fa q h).2 hq)).upd hu8 (fun q hq h=>by have h' : q=g8:=h;have:=(hRc.evr.lt q hq).1;omega))
        have hf8:=((hf.on (e wc (.cells #[.int .i64 kd,.int .i64 bd,.int .i64 pc,.int .i64 wn,.int .i64 sg,.slice ar recs.length cr,.int .i64 er,.int .i64 0,.int .i64 is2,.int .i64 t] 62))).upd q2 (fun q hq h=>by have h1:=(hf.lt q hq).1;have h2:=(hR.row.lt q h).2;omega)).upd hu8 (fun q hq h=>by have h' : q=g8:=h;have:=(hf.lt q hq).1;omega)
        have hU9 : Upd (fun q=>g8≤q) wr (w7.setCell ⟨g8,0,none⟩ (.slice a1 (k+1) c1)):=Upd.trans (Upd.trans (Upd.of_below (on_below hBc (e wc (.cells #[.int .i64 kd,.int .i64 bd,.int .i64 pc,.int .i64 wn,.int .i64 sg,.slice ar recs.length cr,.int .i64 er,.int .i64 0,.int .i64 is2,.int .i64 t] 62))) (fun q h1 h2=>by omega)) q2 (fun q _ h=>by have:=(hRc.row.lt q h).1;show g8≤q;omega)) hu8 (fun q _ h=>by have h' : q=g8:=h;show g8≤q;omega)
        have hsm8 : (w7.setCell ⟨g8,0,none⟩ (.slice a1 (k+1) c1)).heap.size=w7.heap.size:=by simp [World.setCell]
        have hG8 : g8+1≤(w7.setCell ⟨g8,0,none⟩ (.slice a1 (k+1) c1)).heap.size:=by rw [hsm8];omega
        have HVA : Hid (∀ q,ar=some q→0<recs.length→wr.heap.size≤q.block∧q.block<(wc.alloc (.cells #[.int .i64 kd,.int .i64 bd,.int .i64 pc,.int .i64 wn,.int .i64 sg,.slice ar recs.length cr,.int .i64 er,.int .i64 0,.int .i64 is2,.int .i64 t] 62)).heap.size):=fun q hq h0=>by
          obtain ⟨b',off,hab,hb,-⟩:=hRR6.at_ 0 h0
          have h3:=hN6 q hq
          rw [hab] at hq;cases hq
          have h1 : b'<w6.heap.size:=hb
          exact ⟨h3,by show b'<_;rw [World.size_alloc];omega⟩
        have hSTEP:=Lib.hid (fun (w9 : World) (a2 : Option Addr) (c2' : Nat) (l1 : Sl (g8+1) w9 8 (.slice a2 ((faultsTo (raws t rs (ls.map fun s=>s.data.toList)) k).length+(faults (pat (raws t rs (ls.map fun s=>s.data.toList)) k) k).length) c2') _ _) (l2 : Upd (fun q=>Value.ownBlock _=some q) (w7.setCell ⟨g8,0,none⟩ (.slice a1 (k+1) c1)) w9) l3=>RefN.step (w6:=wc.alloc (.cells #[.int .i64 kd,.int .i64 bd,.int .i64 pc,.int .i64 wn,.int .i64 sg,.slice ar recs.length cr,.int .i64 er,.int .i64 0,.int .i64 is2,.int .i64 t] 62)) (r:=.slice av (faults (pat (raws t rs (ls.map fun s=>s.data.toList)) k) k).length cv) (v:=⟨⟨⟨kd,bd,pc,wn,sg⟩,recs,er,0,is2,t⟩,ar,cr⟩) hR (by rw [HRL.out];exact hkr) HSR.out.symm (hvok.on (e wc _)) HVA.out (on_below hBc (e wc _)) q1 q2 q3 (fun q hq=>⟨by have:=(hf.lt q hq).1;omega,by have:=(hf.lt q hq).2;simp;omega⟩) l1 l2 l3)
        go_wp2_with (at_builtin;refine wpList_append_sl _ rfl (.tmp 68) (.tmp 69) 46 46 rfl 56 j0 _ 72 Tryz.underlying46 hj0 hy0 hy1 hy2 rfl rfl hE8 (.slice av (faults (pat (raws t rs (ls.map fun s=>s.data.toList)) k) k).length cv) (faults (pat (raws t rs (ls.map fun s=>s.data.toList)) k) k).length (evcs (faults (pat (raws t rs (ls.map fun s=>s.data.toList)) k) k)) rfl (src_sl hf8 Tryz.underlying46 (evcs_one _)) (by unfold maxLen;omega) (by omega) hG8 ?_;intro v2 w9 l1 l2 l3;obtain ⟨a2,c2',rfl⟩:=l1.shape)
        go_roundw
        case rel =>
          have hU:=Upd.trans hU9 l2 (fun q _ h=>by have:=(hR.evr.lt q h).1;show g8≤q;omega)
          have hl2:=hR.lt
          exact ⟨k+1,a1,c1,_,_,by omega,by go_num,hSTEP.out _ _ _ l1 l2 (fun q hq=>(l3 q hq).imp id (fun h=>by rw [hsm8] at h;exact h)),hA.upd hU (fun h=>by have h' : g8≤w.heap.size:=h;omega),hAz.upd hU (fun h=>by have h' : g8≤w.heap.size+1:=h;omega),hup.trans hU (fun _ _ h=>h)⟩
        case measure=>simp [intOf] <;> omega
    · obtain rfl : k=m:=by omega
      have hbl : (begun t rs (ls.map fun s=>s.data.toList)).length=k:=by unfold begun;rw [List.length_map,HRL.out,HN.out]
      have hps : l.map (·.p)=begun t rs (ls.map fun s=>s.data.toList):=by rw [hR.ps,List.take_of_length_le (by omega)]
      have hll : l.length=k:=by rw [← hbl,← hps,List.length_map]
      have hRP : RowP wr a' l:=RowP.of_sl hR.row hll.symm (fun v hv=>(hR.ok v hv).1)
      have HADV:=Lib.hid (ref_advance a' k c' l (begun t rs (ls.map fun s=>s.data.toList)) t d 0 (-9223372036854775808) wr hRP hll.symm hps HOK.out (by omega))
      have hel : (faultsTo (raws t rs (ls.map fun s=>s.data.toList)) k).length≤k:=faultsTo_len _ _
      have hml : (marksE (-9223372036854775808) (begun t rs (ls.map fun s=>s.data.toList))).length≤1:=marksE_len _ _
      have HES : Hid (St.newE t rs (ls.map fun s=>s.data.toList)=faultsTo (raws t rs (ls.map fun s=>s.data.toList)) k++marksE (-9223372036854775808) (begun t rs (ls.map fun s=>s.data.toList))):=by
        show _++_=_
        rw [← HN.out]
      have HSNx : St.new t d rs (ls.map fun s=>s.data.toList)=⟨begun t rs (ls.map fun s=>s.data.toList),t,d,0,further (-9223372036854775808) (begun t rs (ls.map fun s=>s.data.toList))⟩:=rfl
      have HBL:=Lib.hid hbl
      have HPS:=Lib.hid hps
      have HRR:=Lib.hid hR
      have hst:=hR.st
      have hev:=hR.evr
      have hnw:=hR.new
      have hlt1:=hR.lt
      obtain ⟨hgs,s0,y0,s1,y1,s2,y2,s3,y3,s4,y4⟩:=hst.five
      clear hps hll hRP hR HS HRL HLL hup H1c H2c HB1 HB2 hf
      generalize further (-9223372036854775808) (begun t rs (ls.map fun s=>s.data.toList))=fu at *
      generalize marksE (-9223372036854775808) (begun t rs (ls.map fun s=>s.data.toList))=ms at *
      generalize faultsTo (raws t rs (ls.map fun s=>s.data.toList)) k=es at *
      have HSN:=Lib.hid HSNx
      clear HSNx
      go_upto_region 16 with (first|(go_at_call 52;(with_reducible refine HADV.out.mono ?_);intro e w9 hY;obtain ⟨r9,rfl,hm9,hb9⟩:=hY;have hst9:=hst.on hb9;obtain ⟨hg9,c0,z0,c1,z1,c2',z2,c3,z3,c4,z4⟩:=hst9.five))
      clear s0 y0 s1 y1 s2 y2 s3 y3 s4 y4 c0 z0 c1 z1 c2' z2 c3 z3 c4 z4 hgs hg9
      have hu10:=upd_all5 w9 g8 (.slice a' k c') (.int .i64 t) (.int .i64 d) (.int .i64 0) (.int .i64 fu)
      have hA10:=At.all5 hst9 (.slice a' k c') (.int .i64 t) (.int .i64 d) (.int .i64 0) (.int .i64 fu)
      have hAz10:=(hAz.on hb9).upd hu10 (fun h=>by have h' : w.heap.size+1=g8:=h;omega)
      have hev10:=(hev.on hb9).upd hu10 (fun q hq h=>by have h' : q=g8:=h;have:=(hev.lt q hq).1;omega)
      have hgl:=hst.1
      have hm10:=hm9.upd hu10 (fun q hq h=>by have h' : q=g8:=h;have:=(hm9.lt q hq).1;omega)
      have hX10:=Upd.trans (Upd.of_below (S:=fun q=>wr.heap.size≤q∨q=g8∨u9.ownBlock=some q) hb9 (fun q _ h=>.inl h)) hu10 (fun q _ h=>.inr (.inl h))
      generalize (((((w9.setCell ⟨g8,0,none⟩ (.slice a' k c')).setCell ⟨g8,1,none⟩ (.int .i64 t)).setCell ⟨g8,2,none⟩ (.int .i64 d)).setCell ⟨g8,3,none⟩ (.int .i64 0)).setCell ⟨g8,4,none⟩ (.int .i64 fu))=w10 at *
      obtain ⟨a9,c9,hre⟩:=hm10.shape
      subst hre
      have hrv:=hev.shape
      obtain ⟨ao,co,hre⟩:=hev10.shape
      subst hre
      obtain ⟨i0,hi0,hz0,hz1,hz2⟩:=info_parts info_evr
      obtain ⟨hgA,d0,g0,d1,g1,d2,g2,d3,g3,d4,g4⟩:=hA10.five
      obtain ⟨hgZ,v0,z0,v1,z1,v2,z2,v3,z3,v4,z4⟩:=hAz10.five
      have hs10 : wr.heap.size≤w10.heap.size:=hX10.size
      have hog : ∀ q,(Value.slice ao es.length co).ownBlock=some q→g8<q∧q<wr.heap.size:=fun q hq=>by have:=hev.lt q hq;omega
      have hdm : ∀ q,(Value.slice a9 ms.length c9).ownBlock=some q→¬ (Value.slice ao es.length co).ownBlock=some q:=fun q hq h=>by have:=(hm9.lt q hq).1;have:=hog q h;omega
      have HDW:=Lib.hid (fun w12 (hX : Upd _ wr w12) wf hU a12 n12 c12 xs hsl l3 hn hxs=>ref_new_done (w12:=w12) (wf:=wf) (a12:=a12) (n12:=n12) (c12:=c12) (xs:=xs) (fu:=fu) (es:=es++ms) HRR.out HPS.out HBL.out.symm hX hU hsl l3 hn hxs)
      have HX10:=Lib.hid hX10
      clear hX10 hst9 hb9 hm9 hst hev hnw HADV HRR HPS hrv hAz hA HOK HC HN HM hne hk hlt hbl hu10
      go_region_law (first|(refine step_append_mine rfl (.tmp 77) (.tmp 78) 46 46 rfl 56 i0 _ 72 Tryz.underlying46 hi0 hz0 hz1 hz2 rfl (.slice ao es.length co) (.slice a9 ms.length c9) ms.length (evcs ms) rfl rfl hev10.drew (src_sl hm10.drew Tryz.underlying46 (evcs_one _)) (by unfold maxLen;omega) (by omega) (by show g8+1≤w10.heap.size;omega) ?_;intro a12 c12 w12 l1 l2 l3;have hX12:=Upd.trans HX10.out.drew l2 (fun q _ h=>.inr (.inr h));have hA12:=hA10.drew.upd l2 (fun h=>by have:=hog _ h;omega);have hAz12:=hAz10.drew.upd l2 (fun h=>by have:=hog _ h;omega);clear hgA d0 g0 d1 g1 d2 g2 d3 g3 d4 g4 hgZ v0 z0 v1 z1 v2 z2 v3 z3 v4 z4;obtain ⟨hgA,d0,g0,d1,g1,d2,g2,d3,g3,d4,g4⟩:=hA12.five;obtain ⟨hgZ,v0,z0,v1,z1,v2,z2,v3,z3,v4,z4⟩:=hAz12.five)|fail)
      all_goals
        have hT:=Lib.hid (fun x0 x1 x2 x3 x4=>At.all5 hAz12 x0 x1 x2 x3 x4)
        have hBo:=Lib.hid (fun x0 x1 x2 x3 x4=>Upd.all5 (g:=w.heap.size+1) (Upd.refl (fun k=>k=w.heap.size+1) w12) (fun _=>rfl) x0 x1 x2 x3 x4)
        refine (‹∀ (ax : Act) (wx : World),Code.wp Tryz.prog Code.ret _ ax wx→_›) _ _ ?_
        refine wp_ret ?_
        refine bodyPost_ret (results_at3 (fn:=Tryz.f19) rfl _ rfl (hT.out _ _ _ _ _) Tryz.underlying45 rfl (by kernel_rfl)) rfl ?_
        rw [HSN.out,HES.out]
        exact HDW.out _ hX12 _ (hBo.out _ _ _ _ _) _ _ _ _ l1 (fun q hq=>(l3 q hq).imp id (fun h=>Nat.le_trans hs10 h)) (by rw [List.length_append]) (by simp [evcs])
open PVar PCrc
section
variable {w1 wr w' : World} {t1 : Nat→Prop} {tag tag' : Nat→Nat} {g5 : Nat} {a : Option Addr} {l : List Pv} {s : St}
theorem RefR.does (h : RefR w1 t1 tag g5 wr a l s) (hg : g5<wr.heap.size) (hn : ∀ b,wr.heap.size≤b→tag b=0) (c : Nat) (hok : s.Ok) (t : Bool) (x : Int) (hx : in64 x) :
    Calls Tryz.prog 20 #[.agg #[.slice a s.ps.length c,.int .i64 s.timeout,.int .i64 s.drift,.int .i64 s.clock,.int .i64 s.now],.agg #[.bool t,.int .i64 x]] wr fun e w'=>∃ a' c' l' r,e = .returned (.tuple #[.agg #[.slice a' (s.doS (t,x)).ps.length c',.int .i64 (s.doS (t,x)).timeout,.int .i64 (s.doS (t,x)).drift,.int .i64 (s.doS (t,x)).clock,.int .i64 (s.doS (t,x)).now],r]) ∧
      RefR w1 t1 tag g5 w' a' l' (s.doS (t,x))∧Sl wr.heap.size w' 8 r (s.doE (t,x)).length (evcs (s.doE (t,x)))∧Below wr.heap.size wr w' :=
  (ref_do (KR w1 t1) a s.ps.length c l s t x wr h.rowp h.len.symm h.ps h.k hok hx).mono fun e w' hY=>by
    obtain ⟨a',c',l',r,h1,h2,h3,h4,h5,h6,h7⟩:=hY
    have h8:=(h.on h6).new
    refine ⟨a',c',l',r,h1,⟨h2,h3,h4,h8,fun p hp h0=>?_,h.old,h.g⟩,h5,h6⟩
    have hl : l'.length=l.length:=by
      have e1:=congrArg List.length h4
      rw [List.length_map,doS_len] at e1
      rw [e1,← h.len]
    rcases h7 with rfl|h7
    · exact h.fr p hp (by omega)
    · have:=h7 p hp
      exact ⟨hn _ this,by omega⟩
end
structure EvR (B : Nat) (tag : Nat→Nat) (g5 : Nat) (wr : World) (v : Value) (l : List Ev) : Prop where
  row : Sl B wr 8 v l.length (evcs l)
  fr : ∀ b,v.ownBlock=some b→tag b=0∧b≠g5
section
variable {wr w' : World} {tag tag' : Nat→Nat} {g5 B : Nat} {v : Value} {l : List Ev}
theorem EvR.on (h : EvR B tag g5 wr v l) (hb : Below wr.heap.size wr w') : EvR B tag g5 w' v l:=⟨h.row.on hb,h.fr⟩
theorem EvR.set (h : EvR B tag g5 wr v l) (hu : Upd (fun b=>b=g5) wr w') : EvR B tag g5 w' v l:=⟨h.row.upd hu (fun b hb hn=>(h.fr b hb).2 hn),h.fr⟩
theorem EvR.rowg (h : EvR B tag g5 wr v l) : ∃ a c,v = .slice a l.length c∧RowG wr 8 evc a l:=rowg_of_sl h.row rfl evc_len
end
end Go.Proofs.YtmimfkhkilijcaaGreatDoor
