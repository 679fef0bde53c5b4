/- KSrcA: what is reached of them. -/
import Derived.Test.YtmimfkhkilijcaaGreatDoorWq01
import Derived.Test.YtmimfkhkilijcaaGreatDoorWq26
import Derived.Test.YtmimfkhkilijcaaGreatDoorWq28
import Derived.Test.YtmimfkhkilijcaaGreatDoorWq25
import Derived.Test.YtmimfkhkilijcaaGreatDoorWq29
import Derived.Test.YtmimfkhkilijcaaGreatDoorWq31
import Derived.Test.YtmimfkhkilijcaaGreatDoorWq12
import Derived.Test.YtmimfkhkilijcaaGreatDoorWq23
import Derived.Lib.SliceRun
import Derived.BigRegion
import Derived.Deep.DeepCutAuto
import Derived.Deep.QuietTactic
import Derived.Deep.RegionWith
import Derived.BigQuiet
import Derived.Test.YtmimfkhkilijcaaGreatDoorWq17
import Derived.Test.YtmimfkhkilijcaaGreatDoorWq09
set_option linter.unusedVariables false
set_option linter.unusedSimpArgs false
set_option maxRecDepth 100000
set_option maxHeartbeats 8000000
namespace Go.Proofs.YtmimfkhkilijcaaGreatDoor
open Go.ChangeShapes Go.WideShapes Go.ChangeAt Go.RowKit
theorem At.cells6 {w : World} {g : Nat} {a0 a1 a2 a3 a4 a5 : Value} (h : At w g [a0,a1,a2,a3,a4,a5]) : g<w.heap.size∧w.cell? ⟨g,0,none⟩=some a0∧w.frozen? ⟨g,0,none⟩=false∧w.cell? ⟨g,1,none⟩=some a1∧w.frozen? ⟨g,1,none⟩=false∧w.cell? ⟨g,2,none⟩=some a2∧w.frozen? ⟨g,2,none⟩=false∧w.cell? ⟨g,3,none⟩=some a3∧w.frozen? ⟨g,3,none⟩=false∧w.cell? ⟨g,4,none⟩=some a4∧w.frozen? ⟨g,4,none⟩=false∧w.cell? ⟨g,5,none⟩=some a5∧w.frozen? ⟨g,5,none⟩=false :=
  ⟨h.1,(h.2 0 (by simp)).1,(h.2 0 (by simp)).2,(h.2 1 (by simp)).1,(h.2 1 (by simp)).2,(h.2 2 (by simp)).1,(h.2 2 (by simp)).2,(h.2 3 (by simp)).1,(h.2 3 (by simp)).2,(h.2 4 (by simp)).1,(h.2 4 (by simp)).2,(h.2 5 (by simp)).1,(h.2 5 (by simp)).2⟩
theorem At.all6 {w : World} {g : Nat} {a0 a1 a2 a3 a4 a5 : Value} (h : At w g [a0,a1,a2,a3,a4,a5]) (x0 x1 x2 x3 x4 x5 : Value) : At ((((((w.setCell ⟨g,0,none⟩ x0).setCell ⟨g,1,none⟩ x1).setCell ⟨g,2,none⟩ x2).setCell ⟨g,3,none⟩ x3).setCell ⟨g,4,none⟩ x4).setCell ⟨g,5,none⟩ x5) g [x0,x1,x2,x3,x4,x5]:=by
  simpa using ((((((h.set 0 (by simp) x0).set 1 (by simp) x1).set 2 (by simp) x2).set 3 (by simp) x3).set 4 (by simp) x4).set 5 (by simp) x5)
theorem At.ten {w : World} {g : Nat} {a0 a1 a2 a3 a4 a5 a6 a7 a8 a9 : Value} (h : At w g [a0,a1,a2,a3,a4,a5,a6,a7,a8,a9]) : g<w.heap.size∧w.cell? ⟨g,0,none⟩=some a0∧w.frozen? ⟨g,0,none⟩=false∧w.cell? ⟨g,1,none⟩=some a1∧w.frozen? ⟨g,1,none⟩=false∧w.cell? ⟨g,2,none⟩=some a2∧w.frozen? ⟨g,2,none⟩=false∧w.cell? ⟨g,3,none⟩=some a3∧w.frozen? ⟨g,3,none⟩=false∧w.cell? ⟨g,4,none⟩=some a4∧w.frozen? ⟨g,4,none⟩=false∧w.cell? ⟨g,5,none⟩=some a5∧w.frozen? ⟨g,5,none⟩=false∧w.cell? ⟨g,6,none⟩=some a6∧w.frozen? ⟨g,6,none⟩=false∧w.cell? ⟨g,7,none⟩=some a7∧w.frozen? ⟨g,7,none⟩=false∧w.cell? ⟨g,8,none⟩=some a8∧w.frozen? ⟨g,8,none⟩=false∧w.cell? ⟨g,9,none⟩=some a9∧w.frozen? ⟨g,9,none⟩=false :=
  ⟨h.1,(h.2 0 (by simp)).1,(h.2 0 (by simp)).2,(h.2 1 (by simp)).1,(h.2 1 (by simp)).2,(h.2 2 (by simp)).1,(h.2 2 (by simp)).2,(h.2 3 (by simp)).1,(h.2 3 (by simp)).2,(h.2 4 (by simp)).1,(h.2 4 (by simp)).2,(h.2 5 (by simp)).1,(h.2 5 (by simp)).2,(h.2 6 (by simp)).1,(h.2 6 (by simp)).2,(h.2 7 (by simp)).1,(h.2 7 (by simp)).2,(h.2 8 (by simp)).1,(h.2 8 (by simp)).2,(h.2 9 (by simp)).1,(h.2 9 (by simp)).2⟩
open PHist PRing PSat PClamp PBound PFrame PVar PCrc PSign PTree PEv
structure Lo where
  n : Nat
  m : Nat
  timeout : Int
  drift : Int
  ru : Nat→Rul
  re : Nat→List R
  er : Nat→Nat
  rd : Nat→Nat
  gt : Nat→List R
  is : Nat→Int
  tl : Nat→Int
  K : Nat→Int
  S : Nat→Int
  L : Nat→Int
  clock : Int
  now : Int
  G : Int
  evs : List Ev
  beg : Nat
structure SrcV where
  pv : Value
  cu : Nat→Nat
  ty : Nat→TypeId
  wy : Nat→Nat
  st : Nat→Nat
  lg : Nat→ByteArray
  gm : Nat
  F : Nat→Prop
  ga : Nat
  gl : Nat
def ptc (V : SrcV) (j : Nat) : List Value:=[.pointer (some ⟨V.cu j,0,none⟩),.iface (V.ty j) (.pointer (some ⟨V.wy j,0,none⟩)),.pointer (some ⟨V.st j,0,none⟩)]
def ptv (V : SrcV) : Nat→List Value
  | 0=>[]
  | k+1=>ptv V k++ptc V k
theorem ptv_len (V : SrcV) : ∀ k,(ptv V k).length=k*3
  | 0=>rfl
  | k+1=>by
    show (ptv V k++ptc V k).length=_
    rw [List.length_append,ptv_len V k,Nat.succ_mul];rfl
theorem ptv_at (V : SrcV) : ∀ k j q,j<k→q<3→(ptv V k)[j*3+q]? = (ptc V j)[q]?
  | k+1,j,q,hj,hq=>by
    show (ptv V k++ptc V k)[j*3+q]? = _
    by_cases e : j<k
    · rw [List.getElem?_append_left (by rw [ptv_len];omega)]
      exact ptv_at V k j q e hq
    · obtain rfl : j=k:=by omega
      rw [List.getElem?_append_right (by rw [ptv_len];omega),ptv_len]
      congr 1;omega
theorem ptv_congr {V V' : SrcV} : ∀ k,(∀ j,j<k→ptc V j=ptc V' j)→ptv V k=ptv V' k
  | 0,_=>rfl
  | k+1,h=>by
    show ptv V k++ptc V k=ptv V' k++ptc V' k
    rw [ptv_congr k (fun j hj=>h j (by omega)),h k (by omega)]
theorem ptv_one (V : SrcV) : ∀ k,∀ u∈ptv V k,u.oneCell'=true
  | k+1,u,hu=>by
    rcases List.mem_append.1 hu with h|h
    · exact ptv_one V k u h
    · simp only [ptc,List.mem_cons,List.not_mem_nil,or_false] at h
      rcases h with rfl|rfl|rfl <;> rfl
def CurAt (w : World) (g : Nat) (s : ByteArray) (recs : List R) (err k : Nat) : Prop :=
  ∃ q v,CurC w g s q k∧q≤s.size∧s.size≤400∧parse (s.data.toList.drop q)=(recs.drop k,v,err)
theorem CurAt.upd {X : Nat→Prop} {w w' : World} {g : Nat} {s : ByteArray} {recs : List R} {err k : Nat} (h : CurAt w g s recs err k) (hu : Upd X w w') (hn : ¬ X g) : CurAt w' g s recs err k:=by
  obtain ⟨q,v,h1,h2⟩:=h
  exact ⟨q,v,h1.upd hu hn,h2⟩
theorem CurAt.lt {w : World} {g : Nat} {s : ByteArray} {recs : List R} {err k : Nat} (h : CurAt w g s recs err k) : g<w.heap.size:=by
  obtain ⟨q,v,h1,h2⟩:=h
  exact h1.lt
structure SrcC (w : World) (tag : Nat→Nat) (W : Nat→Nat→Prop) (ev : Value) (V : SrcV) (g : Nat) (x : Lo) : Prop where
  blk : At w g [V.pv,.int .i64 x.clock,.pointer (some ⟨V.gm,0,none⟩),.pointer (some ⟨V.ga,0,none⟩),ev,.int .i64 x.beg]
  row : Sl 0 w 3 V.pv x.n (ptv V x.n)
  mer : MergeC w V.F V.gm x.m x.K (oa x.S 0) (oa x.S 1) x.now
  ali : AlignC w V.ga V.gl x.m x.drift x.G x.L
  evr : Sl 0 w 1 ev x.evs.length (x.evs.map evv)
  cur : ∀ j,j<x.n→CurAt w (V.cu j) (V.lg j) (x.re j) (x.er j) (x.rd j)
  way : ∀ j,j<x.n→GenC w (W j) (V.ty j) (V.wy j) (x.ru j) (x.gt j)
  sta : ∀ j,j<x.n→IdleC w (V.st j) (x.is j) x.timeout (x.tl j)
  t1 : tag g=1
  t2 : ∀ b,V.pv.ownBlock=some b→tag b=2
  t3 : ∀ b,V.F b→tag b=3
  t4 : tag V.ga=4∧tag V.gl=4
  t5 : ∀ b,ev.ownBlock=some b→tag b=5
  t6 : ∀ j,j<x.n→tag (V.cu j)=3*j+6
  t7 : ∀ j,j<x.n→∀ b,W j b→tag b=3*j+7
  t8 : ∀ j,j<x.n→tag (V.st j)=3*j+8
section
variable {w w' : World} {tag : Nat→Nat} {W : Nat→Nat→Prop} {ev : Value} {V : SrcV} {g : Nat} {x : Lo} {X : Nat→Prop} {t : Nat}
theorem SrcC.k1 (h : SrcC w tag W ev V g x) (hu : Upd X w w') (hX : ∀ b,b<w.heap.size→X b→tag b=t) (ht : t≠1) : At w' g [V.pv,.int .i64 x.clock,.pointer (some ⟨V.gm,0,none⟩),.pointer (some ⟨V.ga,0,none⟩),ev,.int .i64 x.beg] :=
  h.blk.upd hu (fun e=>by have:=hX g h.blk.1 e;have:=h.t1;omega)
theorem SrcC.k2 (h : SrcC w tag W ev V g x) (hu : Upd X w w') (hX : ∀ b,b<w.heap.size→X b→tag b=t) (ht : t≠2) : Sl 0 w' 3 V.pv x.n (ptv V x.n) :=
  h.row.upd hu (fun b hb e=>by have:=hX b (h.row.lt b hb).2 e;have:=h.t2 b hb;omega)
theorem SrcC.k3 (h : SrcC w tag W ev V g x) (hu : Upd X w w') (hX : ∀ b,b<w.heap.size→X b→tag b=t) (ht : t≠3) : MergeC w' V.F V.gm x.m x.K (oa x.S 0) (oa x.S 1) x.now :=
  h.mer.upd hu (fun b hb e=>by have:=hX b (h.mer.lt b hb) e;have:=h.t3 b hb;omega)
theorem SrcC.k4 (h : SrcC w tag W ev V g x) (hu : Upd X w w') (hX : ∀ b,b<w.heap.size→X b→tag b=t) (ht : t≠4) : AlignC w' V.ga V.gl x.m x.drift x.G x.L :=
  h.ali.upd hu (fun e=>by have:=hX _ h.ali.at_.1 e;have:=h.t4.1;omega) (fun e=>by have:=hX _ h.ali.ls.lt e;have:=h.t4.2;omega)
theorem SrcC.k5 (h : SrcC w tag W ev V g x) (hu : Upd X w w') (hX : ∀ b,b<w.heap.size→X b→tag b=t) (ht : t≠5) : Sl 0 w' 1 ev x.evs.length (x.evs.map evv) :=
  h.evr.upd hu (fun b hb e=>by have:=hX b (h.evr.lt b hb).2 e;have:=h.t5 b hb;omega)
theorem SrcC.k6 (h : SrcC w tag W ev V g x) (hu : Upd X w w') (hX : ∀ b,b<w.heap.size→X b→tag b=t) (j : Nat) (hj : j<x.n) (ht : t≠3*j+6) : CurAt w' (V.cu j) (V.lg j) (x.re j) (x.er j) (x.rd j) :=
  (h.cur j hj).upd hu (fun e=>by have:=hX _ (h.cur j hj).lt e;have:=h.t6 j hj;omega)
theorem SrcC.k7 (h : SrcC w tag W ev V g x) (hu : Upd X w w') (hX : ∀ b,b<w.heap.size→X b→tag b=t) (j : Nat) (hj : j<x.n) (ht : t≠3*j+7) : GenC w' (W j) (V.ty j) (V.wy j) (x.ru j) (x.gt j) :=
  (h.way j hj).upd hu (fun b hb e=>by have:=hX b ((h.way j hj).lt b hb) e;have:=h.t7 j hj b hb;omega)
theorem SrcC.k8 (h : SrcC w tag W ev V g x) (hu : Upd X w w') (hX : ∀ b,b<w.heap.size→X b→tag b=t) (j : Nat) (hj : j<x.n) (ht : t≠3*j+8) : IdleC w' (V.st j) (x.is j) x.timeout (x.tl j) :=
  (h.sta j hj).upd hu (fun e=>by have:=hX _ (h.sta j hj).lt e;have:=h.t8 j hj;omega)
theorem SrcC.upd (h : SrcC w tag W ev V g x) (hu : Upd X w w') (hX : ∀ b,b<w.heap.size→X b→tag b=0) : SrcC w' tag W ev V g x :=
  ⟨h.k1 hu hX (by omega),h.k2 hu hX (by omega),h.k3 hu hX (by omega),h.k4 hu hX (by omega),h.k5 hu hX (by omega),fun j hj=>h.k6 hu hX j hj (by omega),fun j hj=>h.k7 hu hX j hj (by omega),fun j hj=>h.k8 hu hX j hj (by omega),h.t1,h.t2,h.t3,h.t4,h.t5,h.t6,h.t7,h.t8⟩
theorem SrcC.on (h : SrcC w tag W ev V g x) (hb : Below w.heap.size w w') : SrcC w' tag W ev V g x :=
  h.upd (X:=fun k=>w.heap.size≤k) (Upd.of_below hb (fun _ _ h=>h)) (fun b hb e=>by omega)
theorem SrcC.alloc (h : SrcC w tag W ev V g x) (o : Obj) : SrcC (w.alloc o) tag W ev V g x:=h.upd (X:=fun _=>False) ((Upd.refl _ _).alloc o) (fun _ _ h=>h.elim)
theorem SrcC.drewN (h : SrcC w tag W ev V g x) (n : Nat) : SrcC (w.drewN n) tag W ev V g x:=h.upd (X:=fun _=>False) ((Upd.refl _ _).drewN n) (fun _ _ h=>h.elim)
theorem SrcC.drew (h : SrcC w tag W ev V g x) : SrcC w.drew tag W ev V g x:=h.upd (X:=fun _=>False) ((Upd.refl _ _).drew) (fun _ _ h=>h.elim)
theorem SrcC.toCur (h : SrcC w tag W ev V g x) (i : Nat) (hi : i<x.n) (k : Nat) (hc : CurAt w' (V.cu i) (V.lg i) (x.re i) (x.er i) k) (hu : Upd (fun b=>b=V.cu i) w w') : SrcC w' tag W ev V g { x with rd:=put x.rd i k }:=by
  have hX : ∀ b,b<w.heap.size→b=V.cu i→tag b=3*i+6:=fun b _ e=>e▸h.t6 i hi
  refine ⟨h.k1 hu hX (by omega),h.k2 hu hX (by omega),h.k3 hu hX (by omega),h.k4 hu hX (by omega),h.k5 hu hX (by omega),fun j hj=>?_,fun j hj=>h.k7 hu hX j hj (by omega),fun j hj=>h.k8 hu hX j hj (by omega),h.t1,h.t2,h.t3,h.t4,h.t5,h.t6,h.t7,h.t8⟩
  show CurAt w' (V.cu j) (V.lg j) (x.re j) (x.er j) (put x.rd i k j)
  by_cases e : j=i
  · subst e;rw [put_same];exact hc
  · rw [put_other _ _ _ e];exact h.k6 hu hX j hj (by omega)
theorem SrcC.toSta (h : SrcC w tag W ev V g x) (i : Nat) (hi : i<x.n) (s d : Int) (hc : IdPost (V.st i) s x.timeout d w w') : SrcC w' tag W ev V g { x with is:=put x.is i s,tl:=put x.tl i d }:=by
  have hu:=hc.2
  have hX : ∀ b,b<w.heap.size→b=V.st i→tag b=3*i+8:=fun b _ e=>e▸h.t8 i hi
  refine ⟨h.k1 hu hX (by omega),h.k2 hu hX (by omega),h.k3 hu hX (by omega),h.k4 hu hX (by omega),h.k5 hu hX (by omega),fun j hj=>h.k6 hu hX j hj (by omega),fun j hj=>h.k7 hu hX j hj (by omega),fun j hj=>?_,h.t1,h.t2,h.t3,h.t4,h.t5,h.t6,h.t7,h.t8⟩
  show IdleC w' (V.st j) (put x.is i s j) x.timeout (put x.tl i d j)
  by_cases e : j=i
  · subst e;rw [put_same,put_same];exact hc.1
  · rw [put_other _ _ _ e,put_other _ _ _ e];exact h.k8 hu hX j hj (by omega)
theorem SrcC.toMer (h : SrcC w tag W ev V g x) (K S : Nat→Int) (now : Int) (hc : MePost V.F V.gm x.m K (oa S 0) (oa S 1) now w w') : SrcC w' tag W ev V g { x with K:=K,S:=S,now:=now }:=by
  have hu:=hc.2
  have hX : ∀ b,b<w.heap.size→V.F b→tag b=3:=fun b _ e=>h.t3 b e
  exact ⟨h.k1 hu hX (by omega),h.k2 hu hX (by omega),hc.1,h.k4 hu hX (by omega),h.k5 hu hX (by omega),fun j hj=>h.k6 hu hX j hj (by omega),fun j hj=>h.k7 hu hX j hj (by omega),fun j hj=>h.k8 hu hX j hj (by omega),h.t1,h.t2,h.t3,h.t4,h.t5,h.t6,h.t7,h.t8⟩
theorem SrcC.toAli (h : SrcC w tag W ev V g x) (G : Int) (L : Nat→Int) (hc : AlPost V.ga V.gl x.m x.drift G L w w') : SrcC w' tag W ev V g { x with G:=G,L:=L }:=by
  have hu:=hc.2
  have hX : ∀ b,b<w.heap.size→(b=V.ga∨b=V.gl)→tag b=4:=fun b _ e=>by
    rcases e with rfl|rfl
    · exact h.t4.1
    · exact h.t4.2
  exact ⟨h.k1 hu hX (by omega),h.k2 hu hX (by omega),h.k3 hu hX (by omega),hc.1,h.k5 hu hX (by omega),fun j hj=>h.k6 hu hX j hj (by omega),fun j hj=>h.k7 hu hX j hj (by omega),fun j hj=>h.k8 hu hX j hj (by omega),h.t1,h.t2,h.t3,h.t4,h.t5,h.t6,h.t7,h.t8⟩
def retag (tag : Nat→Nat) (n t : Nat) : Nat→Nat:=fun b=>if b<n then tag b else t
theorem retag_old {tag : Nat→Nat} {n t b : Nat} (h : b<n) : retag tag n t b=tag b:=if_pos h
theorem retag_new {tag : Nat→Nat} {n t b : Nat} (h : n≤b) : retag tag n t b=t:=if_neg (by omega)
theorem SrcC.retag (h : SrcC w tag W ev V g x) (t : Nat) : SrcC w (retag tag w.heap.size t) W ev V g x :=
  ⟨h.blk,h.row,h.mer,h.ali,h.evr,h.cur,h.way,h.sta,(retag_old h.blk.1).trans h.t1,fun b hb=>(retag_old (h.row.lt b hb).2).trans (h.t2 b hb),fun b hb=>(retag_old (h.mer.lt b hb)).trans (h.t3 b hb),⟨(retag_old h.ali.at_.1).trans h.t4.1,(retag_old h.ali.ls.lt).trans h.t4.2⟩,
    fun b hb=>(retag_old (h.evr.lt b hb).2).trans (h.t5 b hb),fun j hj=>(retag_old (h.cur j hj).lt).trans (h.t6 j hj),fun j hj b hb=>(retag_old ((h.way j hj).lt b hb)).trans (h.t7 j hj b hb),fun j hj=>(retag_old (h.sta j hj).lt).trans (h.t8 j hj)⟩
theorem SrcC.toWay (h : SrcC w tag W ev V g x) (i : Nat) (hi : i<x.n) (l : List R) (hc : GPost (W i) (V.ty i) (V.wy i) (x.ru i) l w w') :
    ∃ W',SrcC w' (Go.Proofs.YtmimfkhkilijcaaGreatDoor.retag tag w.heap.size (3*i+7)) W' ev V g { x with gt:=put x.gt i l }:=by
  obtain ⟨S',hc1,hu,hS⟩:=hc
  have hX : ∀ b,b<w.heap.size→W i b→tag b=3*i+7:=fun b _ e=>h.t7 i hi b e
  have r:=h.retag (3*i+7)
  refine ⟨put W i S',h.k1 hu hX (by omega),h.k2 hu hX (by omega),h.k3 hu hX (by omega),h.k4 hu hX (by omega),h.k5 hu hX (by omega),fun j hj=>h.k6 hu hX j hj (by omega),fun j hj=>?_,fun j hj=>h.k8 hu hX j hj (by omega),r.t1,r.t2,r.t3,r.t4,r.t5,r.t6,fun j hj b hb=>?_,r.t8⟩
  · show GenC w' (put W i S' j) (V.ty j) (V.wy j) (x.ru j) (put x.gt i l j)
    by_cases e : j=i
    · subst e;rw [put_same,put_same];exact hc1
    · rw [put_other _ _ _ e,put_other _ _ _ e];exact h.k7 hu hX j hj (by omega)
  · by_cases e : j=i
    · subst e
      rw [put_same] at hb
      rcases hS b hb with hb|hb
      · exact r.t7 j hj b hb
      · exact retag_new hb
    · rw [put_other _ _ _ e] at hb
      exact r.t7 j hj b hb
theorem SrcC.hX1 (h : SrcC w tag W ev V g x) : ∀ b,b<w.heap.size→b=g→tag b=1:=fun b _ e=>e▸h.t1
theorem SrcC.toClk (h : SrcC w tag W ev V g x) (c : Int) : SrcC (w.setCell ⟨g,1,none⟩ (.int .i64 c)) tag W ev V g { x with clock:=c }:=by
  have hu : Upd (fun b=>b=g) w (w.setCell ⟨g,1,none⟩ (.int .i64 c)):=(Upd.refl (fun b=>b=g) w).setCell (p:=⟨g,1,none⟩) (fun _=>rfl) _
  have hX:=h.hX1
  exact ⟨h.blk.set 1 (by simp) _,h.k2 hu hX (by omega),h.k3 hu hX (by omega),h.k4 hu hX (by omega),h.k5 hu hX (by omega),fun j hj=>h.k6 hu hX j hj (by omega),fun j hj=>h.k7 hu hX j hj (by omega),fun j hj=>h.k8 hu hX j hj (by omega),h.t1,h.t2,h.t3,h.t4,h.t5,h.t6,h.t7,h.t8⟩
theorem SrcC.toBeg (h : SrcC w tag W ev V g x) (k : Nat) : SrcC (w.setCell ⟨g,5,none⟩ (.int .i64 k)) tag W ev V g { x with beg:=k }:=by
  have hu : Upd (fun b=>b=g) w (w.setCell ⟨g,5,none⟩ (.int .i64 k)):=(Upd.refl (fun b=>b=g) w).setCell (p:=⟨g,5,none⟩) (fun _=>rfl) _
  have hX:=h.hX1
  exact ⟨h.blk.set 5 (by simp) _,h.k2 hu hX (by omega),h.k3 hu hX (by omega),h.k4 hu hX (by omega),h.k5 hu hX (by omega),fun j hj=>h.k6 hu hX j hj (by omega),fun j hj=>h.k7 hu hX j hj (by omega),fun j hj=>h.k8 hu hX j hj (by omega),h.t1,h.t2,h.t3,h.t4,h.t5,h.t6,h.t7,h.t8⟩
theorem SrcC.toEv (h : SrcC w tag W ev V g x) (v : Ev) {ev' : Value} {w1 : World} {N : Nat} (hN : w.heap.size≤N) (q1 : Sl 0 w1 1 ev' (x.evs.length+1) (x.evs.map evv++[evv v])) (q2 : Upd (fun b=>ev.ownBlock=some b) w w1) (q3 : ∀ b,ev'.ownBlock=some b→ev.ownBlock=some b∨N≤b) :
    SrcC (w1.setCell ⟨g,4,none⟩ ev') (Go.Proofs.YtmimfkhkilijcaaGreatDoor.retag tag w.heap.size 5) W ev' V g { x with evs:=x.evs++[v] }:=by
  have hX : ∀ b,b<w.heap.size→ev.ownBlock=some b→tag b=5:=fun b _ e=>h.t5 b e
  have r:=h.retag 5
  have h1 : SrcC w1 (Go.Proofs.YtmimfkhkilijcaaGreatDoor.retag tag w.heap.size 5) W ev' V g { x with evs:=x.evs++[v] }→True:=fun _=>trivial
  have hb:=h.k1 q2 hX (by omega)
  have hu : Upd (fun b=>b=g) w1 (w1.setCell ⟨g,4,none⟩ ev'):=(Upd.refl (fun b=>b=g) w1).setCell (p:=⟨g,4,none⟩) (fun _=>rfl) _
  have hne : ∀ b,ev'.ownBlock=some b→b≠g:=fun b hw e=>by
    subst e
    rcases q3 _ hw with h2|h2
    · have:=h.t5 _ h2;have:=h.t1;omega
    · have:=h.blk.1;omega
  have hg:=h.blk.1
  have nt : ∀ b,tag b≠1→b≠g:=fun b hb e=>hb (e▸h.t1)
  refine ⟨hb.set 4 (by simp) _,(h.k2 q2 hX (by omega)).upd hu (fun b hb=>nt b (by rw [h.t2 b hb];omega)),(h.k3 q2 hX (by omega)).upd hu (fun b hb=>nt b (by rw [h.t3 b hb];omega)),(h.k4 q2 hX (by omega)).upd hu (nt _ (by rw [h.t4.1];omega)) (nt _ (by rw [h.t4.2];omega)),
    ?_,fun j hj=>(h.k6 q2 hX j hj (by omega)).upd hu (nt _ (by rw [h.t6 j hj];omega)),fun j hj=>(h.k7 q2 hX j hj (by omega)).upd hu (fun b hb=>nt b (by rw [h.t7 j hj b hb];omega)),fun j hj=>(h.k8 q2 hX j hj (by omega)).upd hu (nt _ (by rw [h.t8 j hj];omega)),
    r.t1,r.t2,r.t3,r.t4,fun b hb=>?_,r.t6,r.t7,r.t8⟩
  · show Sl 0 _ 1 ev' (x.evs++[v]).length ((x.evs++[v]).map evv)
    rw [List.length_append,List.map_append]
    exact q1.upd hu (fun b hb=>hne b hb)
  · rcases q3 b hb with h2|h2
    · exact r.t5 b h2
    · exact retag_new (by omega)
end
def SrPost (tag : Nat→Nat) (V : SrcV) (g : Nat) (x : Lo) (w w' : World) : Prop :=
  ∃ tag' W' ev',SrcC w' tag' W' ev' V g x∧Upd (fun b=>tag b≠0) w w'∧∀ b,tag' b≠0→tag b≠0∨w.heap.size≤b
theorem SrPost.same {tag : Nat→Nat} {W : Nat→Nat→Prop} {ev : Value} {V : SrcV} {g : Nat} {x : Lo} {w : World} (h : SrcC w tag W ev V g x) : SrPost tag V g x w w:=⟨tag,W,ev,h,Upd.refl _ _,fun _ h=>.inl h⟩
theorem SrPost.on {tag : Nat→Nat} {V : SrcV} {g : Nat} {x : Lo} {w a b : World} (h : SrPost tag V g x w a) (hb : Below a.heap.size a b) : SrPost tag V g x w b:=by
  obtain ⟨tag',W',ev',h1,h2,h3⟩:=h
  exact ⟨tag',W',ev',h1.on hb,h2.trans (Upd.of_below (S:=fun k=>a.heap.size≤k) hb (fun _ _ h=>h)) (fun i hi h=>by have:=h2.size;omega),h3⟩
end Go.Proofs.YtmimfkhkilijcaaGreatDoor
namespace Go.Proofs.YtmimfkhkilijcaaGreatDoor
open Go.ChangeShapes Go.WideShapes Go.ChangeAt Go.RowKit
open PHist PRing PSat PClamp PBound PFrame PSign PTree PEv
theorem part_to {P : Program} {a : Option Addr} {n c m : Nat} {t e : TypeId} (hm : c≤maxLen) (ht : P.underlying t=some (.slice e)) (hz : ∀ w,(Go.sizeOf e).run P w = .ok m w) (hi : Nat) (zh : Int) (hzh : zh=hi) (hhi : hi≤c) (w' : World) :
    (Instr.slice t (.slice a n c) none (some (.int .i64 zh)) none).run P w' = .ok (.slice a hi c) w':=by
  subst hzh
  have ht' : P.underlying t=some (.slice (P.elem t)):=by simp [Program.elem,ht]
  have he : P.elem t=e:=by simp [Program.elem,ht]
  unfold maxLen at hm
  have h0a : a.map (·.add 0)=a:=by cases a with
    | none=>rfl
    | some a=>show some (a.add 0)=some a;unfold Addr.add;simp
  rw [run_slice_h w' t a n c ht' .i64 (hi : Int) (by omega) (by omega),he,hz]
  simp only [Result.andThen,sliced,Int.toNat_natCast,Nat.zero_mul,Nat.sub_zero,h0a]
  by_cases h : c=0 <;> simp [h]
structure Pv where
  p : Pt
  a : Option Addr
  c : Nat
def Pv.cells (v : Pv) : List Value:=[.int .i64 v.p.rule.kind,.int .i64 v.p.rule.bound,.int .i64 v.p.rule.pct,.int .i64 v.p.rule.win,.int .i64 v.p.rule.sign,.slice v.a v.p.recs.length v.c,.int .i64 v.p.err,.int .i64 v.p.read,.int .i64 v.p.is,.int .i64 v.p.til]
abbrev Pv.val (v : Pv) : Value:=.agg #[.int .i64 v.p.rule.kind,.int .i64 v.p.rule.bound,.int .i64 v.p.rule.pct,.int .i64 v.p.rule.win,.int .i64 v.p.rule.sign,.slice v.a v.p.recs.length v.c,.int .i64 v.p.err,.int .i64 v.p.read,.int .i64 v.p.is,.int .i64 v.p.til]
theorem Pv.cells_one (v : Pv) : ∀ u∈v.cells,u.oneCell'=true:=by
  intro u hu
  simp only [Pv.cells,List.mem_cons,List.not_mem_nil,or_false] at hu
  rcases hu with rfl|rfl|rfl|rfl|rfl|rfl|rfl|rfl|rfl|rfl <;> rfl
structure PvOk (w : World) (v : Pv) : Prop where
  row : RowR w v.a v.p.recs
  le : v.p.recs.length≤v.c
  cap : v.c≤maxLen
theorem PvOk.on {w w' : World} {v : Pv} (h : PvOk w v) (hb : Below w.heap.size w w') : PvOk w' v:=⟨h.row.on hb,h.le,h.cap⟩
structure RowP (w : World) (a : Option Addr) (l : List Pv) : Prop where
  row : RowG w 10 Pv.cells a l
  ok : ∀ v∈l,PvOk w v
theorem RowP.on {w w' : World} {a : Option Addr} {l : List Pv} (h : RowP w a l) (hb : Below w.heap.size w w') : RowP w' a l:=⟨h.row.below hb,fun v hv=>(h.ok v hv).on hb⟩
theorem RowP.cell {w : World} {b off : Nat} {l : List Pv} (h : RowP w (some ⟨b,off,none⟩) l) (k : Nat) (hk : k<l.length) :
    b<w.heap.size∧w.cell? ⟨b,off+k*10,none⟩=some (.int .i64 l[k].p.rule.kind)∧w.cell? ⟨b,off+k*10+1,none⟩=some (.int .i64 l[k].p.rule.bound)∧w.cell? ⟨b,off+k*10+2,none⟩=some (.int .i64 l[k].p.rule.pct)∧w.cell? ⟨b,off+k*10+3,none⟩=some (.int .i64 l[k].p.rule.win)∧w.cell? ⟨b,off+k*10+4,none⟩=some (.int .i64 l[k].p.rule.sign) ∧
    w.cell? ⟨b,off+k*10+5,none⟩=some (.slice l[k].a l[k].p.recs.length l[k].c)∧w.cell? ⟨b,off+k*10+6,none⟩=some (.int .i64 l[k].p.err)∧w.cell? ⟨b,off+k*10+7,none⟩=some (.int .i64 l[k].p.read)∧w.cell? ⟨b,off+k*10+8,none⟩=some (.int .i64 l[k].p.is)∧w.cell? ⟨b,off+k*10+9,none⟩=some (.int .i64 l[k].p.til):=by
  obtain ⟨h1,h2⟩:=h.row.cell k hk
  exact ⟨h1,h2 0 (by omega),h2 1 (by omega),h2 2 (by omega),h2 3 (by omega),h2 4 (by omega),h2 5 (by omega),h2 6 (by omega),h2 7 (by omega),h2 8 (by omega),h2 9 (by omega)⟩
theorem RowP.nil (w : World) (a : Option Addr) : RowP w a []:=⟨⟨fun i h=>by cases h⟩,fun v h=>by cases h⟩
def pvs (l : List Pv) : List Value:=l.flatMap Pv.cells
theorem pvs_snoc (l : List Pv) (v : Pv) : pvs (l++[v])=pvs l++v.cells:=by simp [pvs]
theorem pvs_len : ∀ l : List Pv,(pvs l).length=l.length*10
  | []=>rfl
  | v::l=>by
    show (v.cells++pvs l).length=_
    rw [List.length_append,pvs_len l,List.length_cons]
    show 10+_=_
    omega
theorem pvs_at : ∀ (l : List Pv) (i j : Nat) (h : i<l.length),j<10→(pvs l)[i*10+j]? = (l[i].cells)[j]?
  | v::l,0,j,_,hj=>by
    show (v.cells++pvs l)[0*10+j]? = _
    rw [List.getElem?_append_left (by show 0*10+j<10;omega),Nat.zero_mul,Nat.zero_add];rfl
  | v::l,i+1,j,h,hj=>by
    show (v.cells++pvs l)[(i+1)*10+j]? = _
    rw [List.getElem?_append_right (by show 10≤_;omega)]
    show (pvs l)[(i+1)*10+j - 10]? = _
    rw [show (i+1)*10+j - 10=i*10+j by omega,pvs_at l i j (by simpa using h) hj]
    rfl
theorem pvs_one (l : List Pv) : ∀ u∈pvs l,u.oneCell'=true:=by
  intro u hu
  obtain ⟨v,_,hv⟩:=List.mem_flatMap.1 hu
  exact v.cells_one u hv
theorem RowP.of_sl {B : Nat} {w : World} {a : Option Addr} {n c : Nat} {l : List Pv} (h : Sl B w 10 (.slice a n c) n (pvs l)) (hn : n=l.length) (ho : ∀ v∈l,PvOk w v) : RowP w a l:=by
  refine ⟨⟨fun i hi=>?_⟩,ho⟩
  rcases h.2 with ⟨h1,h2⟩|⟨g,off,cap,h1,h2,h3,h4,h5,h6,h7⟩
  · omega
  · simp only [Value.slice.injEq] at h1
    refine ⟨g,off,h1.1,h3,fun j hj=>?_⟩
    rw [← pvs_at l i j hi hj,Nat.add_assoc]
    exact h6 _ (by omega)
theorem src_pv {P : Program} {tx e' : TypeId} (hk : P.underlying tx=some (.slice e')) (w : World) (a : Option Addr) (n c : Nat) (l : List Pv) (h : RowP w a l) (hn : l.length=n) : Src P 10 tx (.slice a n c) n (pvs l) w:=by
  subst hn
  by_cases h0 : l.length=0
  · have e : l=[]:=List.eq_nil_of_length_eq_zero h0
    subst e
    cases a with
    | none=>exact Src.ofNil w hk _
    | some p=>exact Src.ofSlice w hk p 0 c [] (by simp) (fun j u hu=>by simp at hu) (fun u hu=>by cases hu)
  · obtain ⟨b,off,rfl,-,-⟩:=h.row.at_ 0 (by omega)
    refine Src.ofSlice w hk _ _ _ _ (pvs_len l) (fun j u hu=>?_) (pvs_one l)
    have hj:=(List.getElem?_eq_some_iff.1 hu).1
    rw [pvs_len] at hj
    have hq : j / 10<l.length:=by omega
    have e:=pvs_at l (j / 10) (j % 10) hq (by omega)
    rw [show j / 10*10+j % 10=j by omega,hu] at e
    have h2:=(h.row.cell (j / 10) hq).2 (j % 10) (by omega)
    rw [Addr.add_lit,show off+j=off+j / 10*10+j % 10 by omega,h2,← e]
end Go.Proofs.YtmimfkhkilijcaaGreatDoor
namespace Go.Proofs.YtmimfkhkilijcaaGreatDoor
open Go.ChangeShapes Go.WideShapes Go.ChangeAt Go.RowKit
def ClPost (m n : Nat) (xs : List Value) (w : World) (e : Ending) (w' : World) : Prop:=∃ v,e = .returned v∧Sl w.heap.size w' m v n xs∧Below w.heap.size w w'
theorem info_cl_ev : (Tryz.prog.info? 71).map (fun i=>(i.zero,i.size,i.bytes))=some (some (.nilIface),1,16):=by kernel_rfl
theorem cl_ev (a : Option Addr) (n c : Nat) (xs : List Value) (w : World) (hs : ∀ w',Below w.heap.size w w'→Src Tryz.prog 1 69 (.slice a n c) n xs w') (ha : a=none→n=0∧xs=[]) (hb : n≤100000) :
    Calls Tryz.prog 114 #[.slice a n c] w (ClPost 1 n xs w):=by
  have q22 : ∀ (w : World) (a : Option Addr) (n c n' c' : Nat),(binOp .eql 69 (.slice a n c) (.slice none n' c')).run Tryz.prog w = .ok (.bool a.isNone) w:=fun w a n c n' c'=>Lib.run_eql_slice_nil w _ _ a n c n' c' Tryz.underlying69
  obtain ⟨i0,hi0,hz0,hz1,hz2⟩:=info_parts info_cl_ev
  cases a with
  | none =>
    obtain ⟨rfl,rfl⟩:=ha rfl
    clear hs ha
    go_enter Tryz.func114,Tryz.ntmps114
    go_wp2
    go_ret
    exact ⟨_,rfl,Sl.nil _ _ _,Below.refl _ _⟩
  | some ad =>
    have hsl : Sl w.heap.size (w.alloc (.cells #[] 71)) 1 (.slice (some ⟨w.heap.size,0,none⟩) 0 0) 0 []:=by
      simpa using Sl.made (B:=w.heap.size) w #[] 71 1 0 0 (Nat.le_refl _) (Nat.zero_le _) (Nat.zero_le _) (by simp)
    have hbel : Below w.heap.size w (w.alloc (.cells #[] 71)):=(Below.refl _ _).alloc (Nat.le_refl _) _
    have hl2:=hs _ hbel
    clear hs ha
    go_enter Tryz.func114,Tryz.ntmps114
    go_wp2_with (at_builtin;refine wpList_append_sl _ rfl (.tmp 5) (.tmp 6) 69 69 rfl 71 i0 (.nilIface) 16 Tryz.underlying69 hi0 hz0 hz1 hz2 rfl rfl hsl _ n xs rfl hl2 (by unfold maxLen;omega) (by omega) (by simp) ?_;intro v1 w1 k1 k2 k3)
    go_ret
    refine ⟨v1,rfl,?_,hbel.upd k2 hbel.size (fun i _ h=>(hsl.lt i h).1)⟩
    simpa using k1
theorem info_cl_ru : (Tryz.prog.info? 59).map (fun i=>(i.zero,i.size,i.bytes))=some (some (.agg #[.int .i64 0,.int .i64 0,.int .i64 0,.int .i64 0,.int .i64 0]),5,40):=by kernel_rfl
theorem cl_ru (a : Option Addr) (n c : Nat) (xs : List Value) (w : World) (hs : ∀ w',Below w.heap.size w w'→Src Tryz.prog 5 22 (.slice a n c) n xs w') (ha : a=none→n=0∧xs=[]) (hb : n≤100000) :
    Calls Tryz.prog 222 #[.slice a n c] w (ClPost 5 n xs w):=by
  have q22 : ∀ (w : World) (a : Option Addr) (n c n' c' : Nat),(binOp .eql 22 (.slice a n c) (.slice none n' c')).run Tryz.prog w = .ok (.bool a.isNone) w:=fun w a n c n' c'=>Lib.run_eql_slice_nil w _ _ a n c n' c' Tryz.underlying22
  obtain ⟨i0,hi0,hz0,hz1,hz2⟩:=info_parts info_cl_ru
  cases a with
  | none =>
    obtain ⟨rfl,rfl⟩:=ha rfl
    clear hs ha
    go_enter Tryz.func222,Tryz.ntmps222
    go_wp2
    go_ret
    exact ⟨_,rfl,Sl.nil _ _ _,Below.refl _ _⟩
  | some ad =>
    have hsl : Sl w.heap.size (w.alloc (.cells #[] 59)) 5 (.slice (some ⟨w.heap.size,0,none⟩) 0 0) 0 []:=by
      simpa using Sl.made (B:=w.heap.size) w #[] 59 5 0 0 (Nat.le_refl _) (Nat.zero_le _) (Nat.zero_le _) (by simp)
    have hbel : Below w.heap.size w (w.alloc (.cells #[] 59)):=(Below.refl _ _).alloc (Nat.le_refl _) _
    have hl2:=hs _ hbel
    clear hs ha
    go_enter Tryz.func222,Tryz.ntmps222
    go_wp2_with (at_builtin;refine wpList_append_sl _ rfl (.tmp 5) (.tmp 6) 22 22 rfl 59 i0 (.agg #[.int .i64 0,.int .i64 0,.int .i64 0,.int .i64 0,.int .i64 0]) 40 Tryz.underlying22 hi0 hz0 hz1 hz2 rfl rfl hsl _ n xs rfl hl2 (by unfold maxLen;omega) (by omega) (by simp) ?_;intro v1 w1 k1 k2 k3)
    go_ret
    refine ⟨v1,rfl,?_,hbel.upd k2 hbel.size (fun i _ h=>(hsl.lt i h).1)⟩
    simpa using k1
theorem info_cl_pt : (Tryz.prog.info? 256).map (fun i=>(i.zero,i.size,i.bytes))=some (some (.agg #[.int .i64 0,.int .i64 0,.int .i64 0,.int .i64 0,.int .i64 0,.slice none 0 0,.int .i64 0,.int .i64 0,.int .i64 0,.int .i64 0]),10,96):=by kernel_rfl
theorem cl_pt (a : Option Addr) (n c : Nat) (xs : List Value) (w : World) (hs : ∀ w',Below w.heap.size w w'→Src Tryz.prog 10 189 (.slice a n c) n xs w') (ha : a=none→n=0∧xs=[]) (hb : n≤100000) :
    Calls Tryz.prog 223 #[.slice a n c] w (ClPost 10 n xs w):=by
  have q22 : ∀ (w : World) (a : Option Addr) (n c n' c' : Nat),(binOp .eql 189 (.slice a n c) (.slice none n' c')).run Tryz.prog w = .ok (.bool a.isNone) w:=fun w a n c n' c'=>Lib.run_eql_slice_nil w _ _ a n c n' c' Tryz.underlying189
  obtain ⟨i0,hi0,hz0,hz1,hz2⟩:=info_parts info_cl_pt
  cases a with
  | none =>
    obtain ⟨rfl,rfl⟩:=ha rfl
    clear hs ha
    go_enter Tryz.func223,Tryz.ntmps223
    go_wp2
    go_ret
    exact ⟨_,rfl,Sl.nil _ _ _,Below.refl _ _⟩
  | some ad =>
    have hsl : Sl w.heap.size (w.alloc (.cells #[] 256)) 10 (.slice (some ⟨w.heap.size,0,none⟩) 0 0) 0 []:=by
      simpa using Sl.made (B:=w.heap.size) w #[] 256 10 0 0 (Nat.le_refl _) (Nat.zero_le _) (Nat.zero_le _) (by simp)
    have hbel : Below w.heap.size w (w.alloc (.cells #[] 256)):=(Below.refl _ _).alloc (Nat.le_refl _) _
    have hl2:=hs _ hbel
    clear hs ha
    go_enter Tryz.func223,Tryz.ntmps223
    go_wp2_with (at_builtin;refine wpList_append_sl _ rfl (.tmp 5) (.tmp 6) 189 189 rfl 256 i0 (.agg #[.int .i64 0,.int .i64 0,.int .i64 0,.int .i64 0,.int .i64 0,.slice none 0 0,.int .i64 0,.int .i64 0,.int .i64 0,.int .i64 0]) 96 Tryz.underlying189 hi0 hz0 hz1 hz2 rfl rfl hsl _ n xs rfl hl2 (by unfold maxLen;omega) (by omega) (by simp) ?_;intro v1 w1 k1 k2 k3)
    go_ret
    refine ⟨v1,rfl,?_,hbel.upd k2 hbel.size (fun i _ h=>(hsl.lt i h).1)⟩
    simpa using k1
open PHist PRing PSat PClamp PBound PFrame PVar PCrc PSign PTree PEv
section
variable {w w' : World} {tag : Nat→Nat} {W : Nat→Nat→Prop} {ev : Value} {V : SrcV} {g : Nat} {x : Lo}
theorem SrcC.len (h : SrcC w tag W ev V g x) : ∃ a c,V.pv = .slice a x.n c∧x.n≤c∧x.n≤maxLen:=by
  rcases h.row.2 with ⟨h1,h2⟩|⟨gp,off,cap,h1,h2,h3,h4,h5,h6⟩
  · exact ⟨none,0,by rw [h1,h2],by omega,by unfold maxLen;omega⟩
  · exact ⟨_,cap,h1,h4,by omega⟩
theorem SrcC.part (h : SrcC w tag W ev V g x) (j : Nat) (hj : j<x.n) : ∃ gp off cap,V.pv = .slice (some ⟨gp,off,none⟩) x.n cap∧x.n≤cap∧gp<w.heap.size∧gp≠g ∧
    w.cell? ⟨gp,off+j*3,none⟩=some (.pointer (some ⟨V.cu j,0,none⟩))∧w.cell? ⟨gp,off+j*3+1,none⟩=some (.iface (V.ty j) (.pointer (some ⟨V.wy j,0,none⟩)))∧w.cell? ⟨gp,off+j*3+2,none⟩=some (.pointer (some ⟨V.st j,0,none⟩)):=by
  rcases h.row.2 with ⟨h1,h2⟩|⟨gp,off,cap,h1,h2,h3,h4,h5,h6,h7⟩
  · omega
  · refine ⟨gp,off,cap,h1,h4,h3,fun e=>?_,?_,?_,?_⟩
    · have:=h.t2 gp (by rw [h1];rfl);rw [e,h.t1] at this;omega
    · exact (h6 (j*3) (by omega)).trans (ptv_at V x.n j 0 hj (by omega))
    · exact (h6 (j*3+1) (by omega)).trans (ptv_at V x.n j 1 hj (by omega))
    · exact (h6 (j*3+2) (by omega)).trans (ptv_at V x.n j 2 hj (by omega))
theorem SrcC.small (h : SrcC w tag W ev V g x) : x.m≤1000000:=h.ali.sm
end
theorem so_has (tag : Nat→Nat) (W : Nat→Nat→Prop) (ev : Value) (V : SrcV) (g : Nat) (x : Lo) (i : Int) (o : Bool) (w : World) (h : SrcC w tag W ev V g x) (ho : decide (0≤i∧i<x.n)=o) :
    Calls Tryz.prog 116 #[.pointer (some ⟨g,0,none⟩),.int .i64 i] w fun e w'=>e = .returned (.bool o)∧w=w':=by
  obtain ⟨hg,c0,z0,c1,z1,c2,z2,c3,z3,c4,z4,c5,z5⟩:=h.blk.cells6
  obtain ⟨a,c,hpv,-,-⟩:=h.len
  rw [hpv] at c0
  clear h hpv
  generalize x.n=n at *
  by_cases h0 : 0≤i
  · by_cases h1 : i<n
    · rw [decide_eq_true ⟨h0,h1⟩] at ho
      subst ho
      go_enter Tryz.func116,Tryz.ntmps116
      go_wp2
      go_ret
      exact ⟨rfl,rfl⟩
    · rw [decide_eq_false (by omega)] at ho
      subst ho
      have h1' : (n : Int)≤i:=by omega
      go_enter Tryz.func116,Tryz.ntmps116
      go_wp2
      go_ret
      exact ⟨rfl,rfl⟩
  · rw [decide_eq_false (by omega)] at ho
    subst ho
    have h1' : i<0:=by omega
    go_enter Tryz.func116,Tryz.ntmps116
    go_wp2
    go_ret
    exact ⟨rfl,rfl⟩
theorem so_now (tag : Nat→Nat) (W : Nat→Nat→Prop) (ev : Value) (V : SrcV) (g : Nat) (x : Lo) (w : World) (h : SrcC w tag W ev V g x) :
    Calls Tryz.prog 64 #[.pointer (some ⟨g,0,none⟩)] w fun e w'=>e = .returned (.int .i64 x.now)∧w=w':=by
  obtain ⟨hg,c0,z0,c1,z1,c2,z2,c3,z3,c4,z4,c5,z5⟩:=h.blk.cells6
  have HN:=Lib.hid (me_now _ _ _ _ _ _ _ w h.mer)
  clear h
  go_enter Tryz.func64,Tryz.ntmps64
  go_wp2_with (first|(go_at_call 120;(with_reducible refine HN.out.mono ?_);rintro e w' ⟨rfl,rfl⟩))
  go_ret
  exact ⟨rfl,rfl⟩
theorem SrcC.clk {w : World} {tag : Nat→Nat} {W : Nat→Nat→Prop} {ev : Value} {V : SrcV} {g : Nat} {x : Lo} (h : SrcC w tag W ev V g x) : ClockD w g x.clock:=.of h.blk
theorem so_time (tag : Nat→Nat) (W : Nat→Nat→Prop) (ev : Value) (V : SrcV) (g : Nat) (x : Lo) (w : World) (h : SrcC w tag W ev V g x) :
    Calls Tryz.prog 65 #[.pointer (some ⟨g,0,none⟩)] w fun e w'=>e = .returned (.int .i64 x.clock)∧w=w':=by
  obtain ⟨hg,c0,z0,c1,z1,c2,z2,c3,z3,c4,z4,c5,z5⟩:=h.blk.cells6
  have HN:=Lib.hid (cd_now _ _ w h.clk)
  clear h
  go_enter Tryz.func65,Tryz.ntmps65
  go_wp2_with (first|(go_at_call 121;(with_reducible refine HN.out.mono ?_);rintro e w' ⟨rfl,rfl⟩))
  go_ret
  exact ⟨rfl,rfl⟩
theorem so_mark (tag : Nat→Nat) (W : Nat→Nat→Prop) (ev : Value) (V : SrcV) (g : Nat) (x : Lo) (i : Int) (z : Int) (w : World) (h : SrcC w tag W ev V g x) (hz : (if 0≤i∧i<x.m then x.K i.toNat else 0)=z) :
    Calls Tryz.prog 63 #[.pointer (some ⟨g,0,none⟩),.int .i64 i] w fun e w'=>e = .returned (.int .i64 z)∧w=w':=by
  obtain ⟨hg,c0,z0,c1,z1,c2,z2,c3,z3,c4,z4,c5,z5⟩:=h.blk.cells6
  have HN : Hid (Calls Tryz.prog 119 #[.pointer (some ⟨V.gm,0,none⟩),.int .i64 i] w fun e w'=>e = .returned (.int .i64 z)∧w=w'):=by
    by_cases hi : 0≤i∧i<x.m
    · rw [if_pos hi] at hz
      subst hz
      have:=me_at _ _ _ _ _ _ _ i.toNat w h.mer (by omega)
      rw [show ((i.toNat : Nat) : Int)=i by omega] at this
      exact this
    · rw [if_neg hi] at hz
      subst hz
      exact me_at_none _ _ _ _ _ _ _ i w h.mer hi
  clear h hz
  go_enter Tryz.func63,Tryz.ntmps63
  go_wp2_with (first|(go_at_call 119;(with_reducible refine HN.out.mono ?_);rintro e w' ⟨rfl,rfl⟩))
  go_ret
  exact ⟨rfl,rfl⟩
theorem so_status (tag : Nat→Nat) (W : Nat→Nat→Prop) (ev : Value) (V : SrcV) (g : Nat) (x : Lo) (i : Int) (z : Int) (w : World) (h : SrcC w tag W ev V g x) (hz : (if 0≤i∧i<x.n then x.is i.toNat else -1)=z) :
    Calls Tryz.prog 61 #[.pointer (some ⟨g,0,none⟩),.int .i64 i] w fun e w'=>e = .returned (.int .i64 z)∧w=w':=by
  obtain ⟨hg,c0,z0,c1,z1,c2,z2,c3,z3,c4,z4,c5,z5⟩:=h.blk.cells6
  have HH:=fun o ho=>Lib.hid (so_has tag W ev V g x i o w h ho)
  by_cases hi : 0≤i∧i<x.n
  · rw [if_pos hi] at hz
    subst hz
    have HT:=HH true (decide_eq_true hi)
    clear HH
    obtain ⟨k,rfl⟩ : ∃ k : Nat,i=k:=⟨i.toNat,by omega⟩
    have hk : k<x.n:=by omega
    have HS:=Lib.hid (id_is _ _ _ _ w (h.sta k hk))
    obtain ⟨gp,off,cap,hpv,hc,hgp,hne,p0,p1,p2⟩:=h.part k hk
    rw [hpv] at c0
    clear h hpv hi
    rw [Int.toNat_natCast]
    generalize x.is k=s at *
    generalize x.n=n at *
    go_enter Tryz.func61,Tryz.ntmps61
    go_wp2_with (first|(go_at_call 116;(with_reducible refine HT.out.mono ?_);rintro e w' ⟨rfl,rfl⟩)|(go_at_call 117;(with_reducible refine HS.out.mono ?_);rintro e w' ⟨rfl,rfl⟩))
    go_ret
    exact ⟨rfl,rfl⟩
  · rw [if_neg hi] at hz
    subst hz
    have HT:=HH false (decide_eq_false hi)
    clear HH
    clear h hi
    go_enter Tryz.func61,Tryz.ntmps61
    go_wp2_with (first|(go_at_call 116;(with_reducible refine HT.out.mono ?_);rintro e w' ⟨rfl,rfl⟩))
    go_ret
    exact ⟨rfl,rfl⟩
theorem so_count (tag : Nat→Nat) (W : Nat→Nat→Prop) (ev : Value) (V : SrcV) (g : Nat) (x : Lo) (i : Int) (z : Int) (w : World) (h : SrcC w tag W ev V g x) (hz : (if 0≤i∧i<x.n then (x.rd i.toNat : Int) else 0)=z) :
    Calls Tryz.prog 62 #[.pointer (some ⟨g,0,none⟩),.int .i64 i] w fun e w'=>e = .returned (.int .i64 z)∧w=w':=by
  obtain ⟨hg,c0,z0,c1,z1,c2,z2,c3,z3,c4,z4,c5,z5⟩:=h.blk.cells6
  have HH:=fun o ho=>Lib.hid (so_has tag W ev V g x i o w h ho)
  by_cases hi : 0≤i∧i<x.n
  · rw [if_pos hi] at hz
    subst hz
    have HT:=HH true (decide_eq_true hi)
    clear HH
    obtain ⟨k,rfl⟩ : ∃ k : Nat,i=k:=⟨i.toNat,by omega⟩
    have hk : k<x.n:=by omega
    obtain ⟨q,v,hcu,-⟩:=h.cur k hk
    have HS:=Lib.hid (cu_count _ _ _ _ w hcu)
    obtain ⟨gp,off,cap,hpv,hc,hgp,hne,p0,p1,p2⟩:=h.part k hk
    rw [hpv] at c0
    clear h hpv hi hcu
    rw [Int.toNat_natCast]
    generalize x.rd k=s at *
    generalize x.n=n at *
    go_enter Tryz.func62,Tryz.ntmps62
    go_wp2_with (first|(go_at_call 116;(with_reducible refine HT.out.mono ?_);rintro e w' ⟨rfl,rfl⟩)|(go_at_call 118;(with_reducible refine HS.out.mono ?_);rintro e w' ⟨rfl,rfl⟩))
    go_ret
    exact ⟨rfl,rfl⟩
  · rw [if_neg hi] at hz
    subst hz
    have HT:=HH false (decide_eq_false hi)
    clear HH
    clear h hi
    go_enter Tryz.func62,Tryz.ntmps62
    go_wp2_with (first|(go_at_call 116;(with_reducible refine HT.out.mono ?_);rintro e w' ⟨rfl,rfl⟩))
    go_ret
    exact ⟨rfl,rfl⟩
def Lo.refused (x : Lo) (i : Int) : Bool:=decide (¬ (0≤i∧i<x.n)) || decide (1<x.is i.toNat) || decide (add x.G x.drift<x.L i.toNat)
theorem so_refused (tag : Nat→Nat) (W : Nat→Nat→Prop) (ev : Value) (V : SrcV) (g : Nat) (x : Lo) (i : Int) (o : Bool) (w : World) (h : SrcC w tag W ev V g x) (hn : x.n≤x.m) (hs : ∀ j,j<x.n→0≤x.is j∧x.is j≤3) (ho : x.refused i=o) :
    Calls Tryz.prog 168 #[.pointer (some ⟨g,0,none⟩),.int .i64 i] w fun e w'=>e = .returned (.bool o)∧∃ m,w'=w.drewN m:=by
  subst ho
  obtain ⟨hg,c0,z0,c1,z1,c2,z2,c3,z3,c4,z4,c5,z5⟩:=h.blk.cells6
  have HH:=fun o ho=>Lib.hid (so_has tag W ev V g x i o w h ho)
  unfold Lo.refused
  by_cases hi : 0≤i∧i<x.n
  · rw [decide_eq_false (show ¬ ¬ (0≤i∧i<x.n) by omega),Bool.false_or]
    have HT:=HH true (decide_eq_true hi)
    clear HH
    obtain ⟨k,rfl⟩ : ∃ k : Nat,i=k:=⟨i.toNat,by omega⟩
    have hk : k<x.n:=by omega
    rw [Int.toNat_natCast]
    have h3:=hs k hk
    have HS:=Lib.hid (id_over _ _ _ _ w (h.sta k hk) h3)
    have HA:=Lib.hid (al_paused _ _ _ _ _ _ k w h.ali (by omega))
    obtain ⟨gp,off,cap,hpv,hc,hgp,hne,p0,p1,p2⟩:=h.part k hk
    rw [hpv] at c0
    clear h hpv hi hs
    generalize x.is k=s at *
    generalize x.n=n at *
    generalize decide (add x.G x.drift<x.L k)=b at *
    by_cases h1 : 1<s
    · rw [decide_eq_true h1,Bool.true_or]
      rw [decide_eq_true (show (2 : Int)≤s by omega)] at HS
      go_enter Tryz.func168,Tryz.ntmps168
      go_wp2_with (first|(go_at_call 116;(with_reducible refine HT.out.mono ?_);rintro e w' ⟨rfl,rfl⟩)|(go_at_call 218;(with_reducible refine HS.out.mono ?_);rintro e w' ⟨rfl,rfl⟩))
      go_ret
      exact ⟨rfl,0,rfl⟩
    · rw [decide_eq_false h1,Bool.false_or]
      rw [decide_eq_false (show ¬ (2 : Int)≤s by omega)] at HS
      go_enter Tryz.func168,Tryz.ntmps168
      go_wp2_with (first|(go_at_call 116;(with_reducible refine HT.out.mono ?_);rintro e w' ⟨rfl,rfl⟩)|(go_at_call 218;(with_reducible refine HS.out.mono ?_);rintro e w' ⟨rfl,rfl⟩)|(go_at_call 219;(with_reducible refine HA.out.mono ?_);rintro e w' ⟨rfl,m,rfl⟩))
      go_ret
      exact ⟨rfl,_,rfl⟩
  · rw [decide_eq_true hi,Bool.true_or,Bool.true_or]
    have HT:=HH false (decide_eq_false hi)
    clear HH
    clear h hi hs
    go_enter Tryz.func168,Tryz.ntmps168
    go_wp2_with (first|(go_at_call 116;(with_reducible refine HT.out.mono ?_);rintro e w' ⟨rfl,rfl⟩))
    go_ret
    exact ⟨rfl,0,rfl⟩
section
variable {P : Program}
theorem sl_from_n {B : Nat} {w : World} {size : Nat} {v : Value} {n : Nat} {xs : List Value} (h : Sl B w size v n xs) {t e : TypeId} (ht : P.underlying t=some (.slice e)) (hz : ∀ w,(Go.sizeOf e).run P w = .ok size w) (i : Nat) (zi : Int) (hzi : zi=i) (hi : i≤n) (h1 : ∀ u∈xs,u.oneCell'=true) :
    ∃ a m c,m=n - i∧(∀ w',(Instr.slice t v (some (.int .i64 zi)) none none).run P w' = .ok (.slice a m c) w')∧(∀ w',Sl B w' size v n xs→Src P size t (.slice a m c) m (xs.drop (i*size)) w')∧(a=none→m=0):=by
  subst hzi
  have ht' : P.underlying t=some (.slice (P.elem t)):=by simp [Program.elem,ht]
  have he : P.elem t=e:=by simp [Program.elem,ht]
  obtain ⟨a,c,rfl⟩:=h.shape
  refine ⟨if n=i∧c=i then a else if c=i then a else a.map (·.add (i*size)),n - i,c - i,rfl,fun w'=>?_,fun w' h'=>?_,fun e=>?_⟩
  · rw [run_slice_l w' t a n c ht' .i64 (i : Int) (by omega) (by omega),he,hz]
    simp only [Result.andThen,sliced,Int.toNat_natCast]
    by_cases hc : c=i <;> simp [hc]
  · rcases h'.2 with ⟨h0,h00⟩|⟨g,off,cap,e0,hb,hg,hn,hm,h3,h4⟩
    · cases h0
      have : i=0:=by omega
      subst this
      have hx : xs=[]:=List.eq_nil_of_length_eq_zero (by have:=h.1;omega)
      subst hx
      simp
      exact Src.ofNil w' ht _
    · cases e0
      have hl:=h.1
      by_cases hc : c=i
      · have hni : n=i:=by omega
        subst hni
        rw [hc]
        simp only [Nat.sub_self,and_self,if_true]
        rw [List.drop_of_length_le (by omega)]
        exact Src.ofSlice w' ht _ _ _ [] (by simp) (fun j u hu=>by simp at hu) (fun u hu=>by cases hu)
      · rw [if_neg (by omega),if_neg hc]
        show Src P size t (.slice (some ((Addr.mk g off none).add (i*size))) (n - i) (c - i)) (n - i) _ w'
        refine Src.ofSlice w' ht _ _ _ _ (by rw [List.length_drop,hl,Nat.sub_mul]) (fun j u hu=>?_) (fun u hu=>h1 u (List.mem_of_mem_drop hu))
        rw [List.getElem?_drop] at hu
        have hj:=(List.getElem?_eq_some_iff.1 hu).1
        rw [Addr.add_lit,Addr.add_lit,← hu,Nat.add_assoc]
        exact h3 _ (by omega)
  · rcases h.2 with ⟨h0,h00⟩|⟨g,off,cap,e0,hb,hg,hn,hm,h3,h4⟩
    · omega
    · cases e0
      exfalso
      revert e
      split
      · intro e;cases e
      · split
        · intro e;cases e
        · intro e;cases e
theorem sl_nil_n {B : Nat} {w : World} {size : Nat} {a : Option Addr} {n c m : Nat} {xs : List Value} (h : Sl B w size (.slice a n c) m xs) (ha : a=none) : m=0:=by
  rcases h.2 with ⟨h0,h00⟩|⟨g,off,cap,e0,hb,hg,hn,hm,h3,h4⟩
  · exact h00
  · subst ha;cases e0
theorem src_sl {B : Nat} {w : World} {size : Nat} {a : Option Addr} {n c m : Nat} {xs : List Value} (h : Sl B w size (.slice a n c) m xs) {t e : TypeId} (ht : P.underlying t=some (.slice e)) (h1 : ∀ u∈xs,u.oneCell'=true) : Src P size t (.slice a n c) m xs w:=by
  rcases h.2 with ⟨h0,h00⟩|⟨g,off,cap,e0,hb,hg,hn,hm,h3,h4⟩
  · cases h0
    have hx : xs=[]:=List.eq_nil_of_length_eq_zero (by have:=h.1;rw [h00] at this;omega)
    subst hx;subst h00
    exact Src.ofNil w ht _
  · cases e0
    refine Src.ofSlice w ht _ _ _ _ h.1 (fun j u hu=>?_) h1
    have hj:=(List.getElem?_eq_some_iff.1 hu).1
    rw [Addr.add_lit,← hu]
    exact h3 _ (by have:=h.1;omega)
end
theorem evv_one (l : List Ev) : ∀ u∈l.map evv,u.oneCell'=true:=by
  intro u hu
  obtain ⟨v,_,rfl⟩:=List.mem_map.1 hu
  cases v <;> rfl
theorem so_events (tag : Nat→Nat) (W : Nat→Nat→Prop) (ev : Value) (V : SrcV) (g : Nat) (x : Lo) (w : World) (h : SrcC w tag W ev V g x) (hb : x.evs.length≤100000) :
    Calls Tryz.prog 59 #[.pointer (some ⟨g,0,none⟩)] w (ClPost 1 x.evs.length (x.evs.map evv) w):=by
  obtain ⟨hg,c0,z0,c1,z1,c2,z2,c3,z3,c4,z4,c5,z5⟩:=h.blk.cells6
  obtain ⟨a,c,rfl⟩:=h.evr.shape
  have HC:=Lib.hid (cl_ev a x.evs.length c (x.evs.map evv) w (fun w' hw=>src_sl (h.evr.onW hw) Tryz.underlying69 (evv_one _)) (fun e=>by have:=sl_nil_n h.evr e;exact ⟨this,by rw [List.eq_nil_of_length_eq_zero this];rfl⟩) hb)
  clear h
  generalize x.evs.length=n at *
  generalize x.evs.map evv=xs at *
  go_enter Tryz.func59,Tryz.ntmps59
  go_wp2_with (first|(go_at_call 114;(with_reducible refine HC.out.mono ?_);rintro e w1 ⟨v,rfl,q1,q2⟩))
  go_ret
  exact ⟨v,rfl,q1,q2⟩
theorem so_late (tag : Nat→Nat) (W : Nat→Nat→Prop) (ev : Value) (V : SrcV) (g : Nat) (x : Lo) (r : R) (o : Bool) (w : World) (h : SrcC w tag W ev V g x) (ho : lateOf x.now r=o) :
    Calls Tryz.prog 171 #[.pointer (some ⟨g,0,none⟩),.agg #[.int .i64 r.1,.int .i64 r.2.1,.string (bstr r.2.2)]] w fun e w'=>e = .returned (.bool o)∧Below w.heap.size w w':=by
  have hb0 : Below w.heap.size w (w.alloc (.cells #[.int .i64 r.1,.int .i64 r.2.1,.string (bstr r.2.2)] 54)):=(Below.refl _ _).alloc (Nat.le_refl _) _
  have HN:=fun q=>Lib.hid (so_now tag W ev V g x _ ((h.on hb0).drewN q))
  have hA:=At.alloc w [.int .i64 r.1,.int .i64 r.2.1,.string (bstr r.2.2)] 54
  unfold lateOf at ho
  obtain ⟨rk,rt,rx⟩:=r
  simp only at *
  have HB:=Lib.hid hb0
  clear h hb0
  generalize x.now=now at *
  by_cases h0 : now = -9223372036854775808
  · rw [decide_eq_false (by omega)] at ho
    subst ho
    subst h0
    go_enter Tryz.func171,Tryz.ntmps171
    go_wp2
    generalize w.alloc (.cells #[.int .i64 rk,.int .i64 rt,.string (bstr rx)] 54)=w0 at *
    obtain ⟨hg,c0,z0,c1,z1,c2,z2⟩:=hA.three
    go_quiet (first|(go_at_call 64;(with_reducible refine (HN _).out.mono ?_);rintro e wq ⟨rfl,rfl⟩;exact ⟨rfl,_,rfl⟩))
    go_wp2
    go_ret
    exact ⟨rfl,below_drewN HB.out _⟩
  · have h0c : (now != -9223372036854775808)=true:=by rw [bne_iff_ne];exact h0
    by_cases h1 : rt≤now
    · rw [decide_eq_true ⟨h0,h1⟩] at ho
      subst ho
      clear h0
      go_enter Tryz.func171,Tryz.ntmps171
      go_wp2
      generalize w.alloc (.cells #[.int .i64 rk,.int .i64 rt,.string (bstr rx)] 54)=w0 at *
      obtain ⟨hg,c0,z0,c1,z1,c2,z2⟩:=hA.three
      go_quiet (first|(go_at_call 64;(with_reducible refine (HN _).out.mono ?_);rintro e wq ⟨rfl,rfl⟩;exact ⟨rfl,_,rfl⟩))
      go_wp2
      go_ret
      exact ⟨rfl,below_drewN HB.out _⟩
    · rw [decide_eq_false (by omega)] at ho
      subst ho
      clear h0
      have h1' : now<rt:=by omega
      clear h1
      go_enter Tryz.func171,Tryz.ntmps171
      go_wp2
      generalize w.alloc (.cells #[.int .i64 rk,.int .i64 rt,.string (bstr rx)] 54)=w0 at *
      obtain ⟨hg,c0,z0,c1,z1,c2,z2⟩:=hA.three
      go_quiet (first|(go_at_call 64;(with_reducible refine (HN _).out.mono ?_);rintro e wq ⟨rfl,rfl⟩;exact ⟨rfl,_,rfl⟩))
      go_wp2
      go_ret
      exact ⟨ret_bool (by simp <;> omega),below_drewN HB.out _⟩
theorem so_tell (tag : Nat→Nat) (W : Nat→Nat→Prop) (ev : Value) (V : SrcV) (g : Nat) (x : Lo) (v : Ev) (u : Value) (hv : evv v=u) (w : World) (h : SrcC w tag W ev V g x) (hb : x.evs.length≤100000) :
    Calls Tryz.prog 162 #[.pointer (some ⟨g,0,none⟩),u] w fun e w'=>e = .returned (.tuple #[])∧SrPost tag V g { x with evs:=x.evs++[v] } w w':=by
  obtain ⟨hg,c0,z0,c1,z1,c2,z2,c3,z3,c4,z4,c5,z5⟩:=h.blk.cells6
  obtain ⟨a,c,rfl⟩:=h.evr.shape
  obtain ⟨i0,hi0,hz0,hz1,hz2⟩:=info_parts info_cl_ev
  obtain ⟨t,y,hy⟩:=evv_ifc v
  rw [hv] at hy
  subst hy
  have HV:=Lib.hid hv
  have HH:=Lib.hid h
  have hs:=h.evr.alloc (.cells #[.iface t y] 71)
  have hm1 : x.evs.length+1≤maxLen:=by unfold maxLen;omega
  have HX:=Lib.hid (rfl : x.evs.map evv=x.evs.map evv)
  clear h hv
  have hnb : x.evs.length=x.evs.length:=rfl
  go_enter Tryz.func162,Tryz.ntmps162
  go_wp2_with (at_builtin;refine wpList_append_sl _ rfl (.tmp 8) (.tmp 10) 69 69 rfl 71 i0 .nilIface 16 Tryz.underlying69 hi0 hz0 hz1 hz2 rfl rfl hs _ 1 [.iface t y] rfl (src_oneN Tryz.underlying69 _ (.iface t y) _ _ rfl rfl) hm1 (by omega) (by omega) ?_;intro v1 w1 k1 k2 k3;obtain ⟨a1,c1',rfl⟩:=k1.shape;have hcg:=HH.out.k1 (t:=5) ((Upd.refl _ _).alloc (.cells #[.iface t y] 71) |>.trans k2 (fun _ _ h=>h)) (fun b _ e=>HH.out.t5 b e) (by omega);obtain ⟨hg',d0,y0,d1,y1,d2,y2,d3,y3,d4,y4,d5,y5⟩:=hcg.cells6)
  go_end0
  have hu2 : Upd (fun b=>(Value.slice a x.evs.length c).ownBlock=some b) w w1:=((Upd.refl _ _).alloc (.cells #[.iface t y] 71)).trans k2 (fun _ _ h=>h)
  have r:=HH.out.toEv v (N:=(w.alloc (.cells #[.iface t y] 71)).heap.size) (by simp) (by rw [HV.out];exact k1) hu2 k3
  refine ⟨rfl,_,_,_,r,?_,fun b hb=>?_⟩
  · exact (hu2.mono (fun b _ e=>by have:=HH.out.t5 b e;omega)).setCell (p:=⟨g,4,none⟩) (fun _=>by have:=HH.out.t1;show tag g≠0;omega) _
  · unfold retag at hb
    split at hb
    · exact .inl hb
    · right;omega
end Go.Proofs.YtmimfkhkilijcaaGreatDoor
namespace Go.Proofs.YtmimfkhkilijcaaGreatDoor
open Go.ChangeShapes Go.WideShapes Go.ChangeAt Go.RowKit
def chc (x : Bool×Int) : List Value:=[.bool x.1,.int .i64 x.2]
theorem RowC.cells {w : World} {b off : Nat} {l : List (Bool×Int)} (h : RowG w 2 chc (some ⟨b,off,none⟩) l) (k : Nat) (hk : k<l.length) :
    b<w.heap.size∧w.cell? ⟨b,off+k*2,none⟩=some (.bool l[k].1)∧w.cell? ⟨b,off+k*2+1,none⟩=some (.int .i64 l[k].2):=by
  obtain ⟨h1,h2⟩:=RowG.cell h k hk
  exact ⟨h1,h2 0 (by omega),h2 1 (by omega)⟩
theorem RowG.map {α β : Type} {w : World} {m : Nat} {f : β→List Value} {g : α→β} {a : Option Addr} {l : List α} (h : RowG w m (fun x=>f (g x)) a l) : RowG w m f a (l.map g) :=
  ⟨fun i hi=>by
    have hi' : i<l.length:=by simpa using hi
    obtain ⟨b,off,h1,h2,h3⟩:=h.at_ i hi'
    exact ⟨b,off,h1,h2,fun j hj=>by rw [List.getElem_map];exact h3 j hj⟩⟩
abbrev ShC : Sh:=.pair .bool (.pair (.int .i64) .unit)
def toC (d : Bool×Int×Unit) : Bool×Int:=(d.1,d.2.1)
def chq (d : Bool×Int×Unit) : Prop:=in64 d.2.1
def chf (d : Bool×Int×Unit) : List Value:=chc (toC d)
theorem Rd.ch {w : World} {cs : List Value} {d : Bool×Int×Unit} (h : Rd w ShC cs d) : cs=chf d∧chq d:=by
  obtain ⟨t,n,u⟩:=d
  obtain ⟨c1,d1,rfl,h1,c2,d2,rfl,⟨rfl,h2⟩,h3⟩:=h
  have h1' : c1=[.bool t]:=h1
  have h3' : d2=[]:=h3
  subst h1' h3'
  exact ⟨rfl,bounds_i64 h2⟩
theorem Rd.chs {w : World} {a : Option Addr} {n c : Nat} {l : List (Bool×Int×Unit)} (h : Rd w (.sl ShC) [.slice a n c] l) :
    n=(l.map toC).length∧n≤c∧c≤maxLen∧RowG w 2 chc a (l.map toC)∧∀ x∈l.map toC,in64 x.2:=by
  have hR : n=l.length∧n≤c∧c≤maxLen∧RowG w 2 chf a l∧∀ x∈l,chq x:=Rd.rowG (s:=ShC) 2 rfl (by decide) chf chq (fun w cs d h=>Rd.ch h) h
  obtain ⟨h1,h2,h3,h4,h5⟩:=hR
  refine ⟨by simpa using h1,h2,h3,RowG.map (f:=chc) (g:=toC) h4,fun x hx=>?_⟩
  obtain ⟨y,hy,rfl⟩:=List.mem_map.1 hx
  exact h5 y hy
abbrev ShU : Sh:=.pair (.int .i64) (.pair (.int .i64) (.pair (.int .i64) (.pair (.int .i64) (.pair (.int .i64) .unit))))
def toU (d : Int×Int×Int×Int×Int×Unit) : Rul:=⟨d.1,d.2.1,d.2.2.1,d.2.2.2.1,d.2.2.2.2.1⟩
def ruq (d : Int×Int×Int×Int×Int×Unit) : Prop:=(toU d).Fits
def ruf (d : Int×Int×Int×Int×Int×Unit) : List Value:=(toU d).cells
theorem Rd.ru {w : World} {cs : List Value} {d : Int×Int×Int×Int×Int×Unit} (h : Rd w ShU cs d) : cs=ruf d∧ruq d:=by
  obtain ⟨k,b,p,n,s,u⟩:=d
  obtain ⟨c1,d1,rfl,⟨rfl,h1⟩,c2,d2,rfl,⟨rfl,h2⟩,c3,d3,rfl,⟨rfl,h3⟩,c4,d4,rfl,⟨rfl,h4⟩,c5,d5,rfl,⟨rfl,h5⟩,h6⟩:=h
  have h6' : d5=[]:=h6
  subst h6'
  exact ⟨rfl,⟨bounds_i64 h1,bounds_i64 h2,bounds_i64 h3,bounds_i64 h4,bounds_i64 h5⟩⟩
open PEv
theorem flat_nth {α : Type} (f : α→List Value) (m : Nat) (hf : ∀ x,(f x).length=m) : ∀ (l : List α) (i : Nat) (hi : i<l.length) (j : Nat),j<m→(l.flatMap f)[i*m+j]? = (f l[i])[j]?
  | x::l,0,_,j,hj=>by
    rw [List.flatMap_cons,Nat.zero_mul,Nat.zero_add,List.getElem?_append_left (by rw [hf];exact hj)];rfl
  | x::l,i+1,hi,j,hj=>by
    rw [List.flatMap_cons,List.getElem?_append_right (by rw [hf,Nat.succ_mul];omega),hf,show (i+1)*m+j - m=i*m+j by rw [Nat.succ_mul];omega]
    exact flat_nth f m hf l i (by simpa using hi) j hj
theorem rowg_of_sl {α : Type} {B : Nat} {w : World} {v : Value} {n m : Nat} {f : α→List Value} {l : List α} (h : Sl B w m v n (l.flatMap f)) (hn : n=l.length) (hf : ∀ x,(f x).length=m) : ∃ a c,v = .slice a n c∧RowG w m f a l:=by
  subst hn
  rcases h.2 with ⟨rfl,h0⟩|⟨g,off,cap,rfl,hb,hg,h1,h2,h3,h4⟩
  · rw [h0]
    exact ⟨_,_,rfl,⟨fun i hi=>by omega⟩⟩
  · refine ⟨_,_,rfl,⟨fun i hi=>⟨g,off,rfl,hg,fun j hj=>?_⟩⟩⟩
    have : i*m+j<l.length*m:=Nat.lt_of_lt_of_le (by rw [Nat.succ_mul];omega : i*m+j<(i+1)*m) (Nat.mul_le_mul_right _ hi)
    rw [Nat.add_assoc,h3 _ this,flat_nth f m hf l i hi j hj]
end Go.Proofs.YtmimfkhkilijcaaGreatDoor
