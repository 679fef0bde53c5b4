/- RepRdr; KConfB; KChoice; RepHead; AppNil; RepRule: what is reached of them. -/
import Derived.Test.YtmimfkhkilijcaaGreatDoorWq14
import Derived.Test.YtmimfkhkilijcaaGreatDoorWq16
import Derived.Test.YtmimfkhkilijcaaGreatDoorWq35
import Derived.Test.YtmimfkhkilijcaaGreatDoorWq32
import Derived.Test.YtmimfkhkilijcaaGreatDoorWq09
import Derived.Test.YtmimfkhkilijcaaGreatDoorWq10
import Derived.Test.YtmimfkhkilijcaaGreatDoorWq01
import Derived.Deep.RegionHeld3
import Derived.Deep.DeepCutAuto
import Derived.Test.YtmimfkhkilijcaaGreatDoorWq11
import Derived.Test.YtmimfkhkilijcaaGreatDoorWq27
import Derived.Laws.MakeOwn
import Derived.Deep.LoopGhost
import Derived.Test.YtmimfkhkilijcaaGreatDoorWq17
import Derived.Deep.RegionLaw
import Derived.Lib.AppendZerosOnto
set_option linter.unusedVariables false
set_option linter.unusedSimpArgs false
set_option maxRecDepth 100000
set_option maxHeartbeats 8000000
namespace Go.Proofs.YtmimfkhkilijcaaGreatDoor
open Go.ChangeShapes Go.WideShapes Go.ChangeAt Go.RowKit
open PWord PSign PHex PQuote
structure Own3 (B : Nat) (w : World) (g : Nat) (v1 v2 v3 : Value) (t d : Int) (h : List UInt8) (n1 n2 n3 : Nat) (x1 x2 x3 : List Value) : Prop where
  blk : At w g [v1,.int .i64 t,.int .i64 d,v2,v3,.string (bstr h)]
  lo : B≤g
  s1 : Sl B w 5 v1 n1 x1
  s2 : Sl B w 1 v2 n2 x2
  s3 : Sl B w 2 v3 n3 x3
  f1 : ∀ k,v1.ownBlock=some k→k≠g
  f2 : ∀ k,v2.ownBlock=some k→k≠g
  f3 : ∀ k,v3.ownBlock=some k→k≠g
  a12 : ∀ k,v1.ownBlock=some k→v2.ownBlock≠some k
  a13 : ∀ k,v1.ownBlock=some k→v3.ownBlock≠some k
  a23 : ∀ k,v2.ownBlock=some k→v3.ownBlock≠some k
section
variable {B : Nat} {w w1 w' : World} {g : Nat} {v1 v2 v3 v' : Value} {t d : Int} {h : List UInt8} {n1 n2 n3 n' : Nat} {x1 x2 x3 x' : List Value}
theorem Own3.on (o : Own3 B w g v1 v2 v3 t d h n1 n2 n3 x1 x2 x3) (hb : Below w.heap.size w w') : Own3 B w' g v1 v2 v3 t d h n1 n2 n3 x1 x2 x3 :=
  ⟨o.blk.on hb,o.lo,o.s1.onW hb,o.s2.onW hb,o.s3.onW hb,o.f1,o.f2,o.f3,o.a12,o.a13,o.a23⟩
theorem Own3.cells (o : Own3 B w g v1 v2 v3 t d h n1 n2 n3 x1 x2 x3) : g<w.heap.size∧w.cell? ⟨g,0,none⟩=some v1∧w.cell? ⟨g,1,none⟩=some (.int .i64 t)∧w.cell? ⟨g,2,none⟩=some (.int .i64 d)∧w.cell? ⟨g,3,none⟩=some v2∧w.cell? ⟨g,4,none⟩=some v3∧w.cell? ⟨g,5,none⟩=some (.string (bstr h)) :=
  ⟨o.blk.1,(o.blk.2 0 (by simp)).1,(o.blk.2 1 (by simp)).1,(o.blk.2 2 (by simp)).1,(o.blk.2 3 (by simp)).1,(o.blk.2 4 (by simp)).1,(o.blk.2 5 (by simp)).1⟩
theorem Own3.free (o : Own3 B w g v1 v2 v3 t d h n1 n2 n3 x1 x2 x3) : w.frozen? ⟨g,0,none⟩=false∧w.frozen? ⟨g,1,none⟩=false∧w.frozen? ⟨g,2,none⟩=false∧w.frozen? ⟨g,3,none⟩=false∧w.frozen? ⟨g,4,none⟩=false∧w.frozen? ⟨g,5,none⟩=false :=
  ⟨(o.blk.2 0 (by simp)).2,(o.blk.2 1 (by simp)).2,(o.blk.2 2 (by simp)).2,(o.blk.2 3 (by simp)).2,(o.blk.2 4 (by simp)).2,(o.blk.2 5 (by simp)).2⟩
theorem set_below {a : World} (hb : Below B a w) (hB : B≤w.heap.size) (hg : B≤g) (i : Nat) (v : Value) : Below B a (w.setCell ⟨g,i,none⟩ v) :=
  hb.upd ((Upd.refl (fun k=>k=g) w).setCell (p:=⟨g,i,none⟩) (fun _=>rfl) v) hB (fun k _ e=>by rw [e];exact hg)
theorem Own3.push1 (o : Own3 B w g v1 v2 v3 t d h n1 n2 n3 x1 x2 x3) (hB : B≤w.heap.size) (hb : Below w.heap.size w w1) (k1 : Sl B w' 5 v' n' x') (k2 : Upd (fun k=>v1.ownBlock=some k) w1 w') (k3 : ∀ k,v'.ownBlock=some k→v1.ownBlock=some k∨w1.heap.size≤k) :
    Own3 B (w'.setCell ⟨g,0,none⟩ v') g v' v2 v3 t d h n' n2 n3 x' x2 x3∧Below B w1 (w'.setCell ⟨g,0,none⟩ v')∧At w' g [v1,.int .i64 t,.int .i64 d,v2,v3,.string (bstr h)]:=by
  have o1:=o.on hb
  have hg1:=o1.blk.1
  have hgv : ∀ k,v'.ownBlock=some k→k≠g:=fun k hk=>by
    rcases k3 k hk with h5|h5
    · exact o.f1 k h5
    · omega
  have hA:=o1.blk.upd k2 (fun e=>o.f1 g e rfl)
  have hu : Upd (fun k=>k=g) w' (w'.setCell ⟨g,0,none⟩ v'):=(Upd.refl (fun k=>k=g) w').setCell (p:=⟨g,0,none⟩) (fun _=>rfl) v'
  have hB1 : B≤w1.heap.size:=Nat.le_trans hB hb.size
  refine ⟨⟨hA.set 0 (by simp) v',o.lo,(k1.upd hu (fun k hk e=>hgv k hk e)),((o1.s2.upd k2 (fun k hk e=>o1.a12 k e hk)).upd hu (fun k hk e=>o1.f2 k hk e)),((o1.s3.upd k2 (fun k hk e=>o1.a13 k e hk)).upd hu (fun k hk e=>o1.f3 k hk e)),hgv,o1.f2,o1.f3,fun k hk e=>(k3 k hk).elim (fun h5=>o1.a12 k h5 e) (fun h5=>by have:=(o1.s2.lt k e).2;omega),fun k hk e=>(k3 k hk).elim (fun h5=>o1.a13 k h5 e) (fun h5=>by have:=(o1.s3.lt k e).2;omega),o1.a23⟩,?_,hA⟩
  exact set_below ((Below.refl B w1).upd k2 hB1 (fun k hk e=>(o1.s1.lt k e).1)) (Nat.le_trans hB1 k2.size) o.lo _ _
theorem Own3.push2 (o : Own3 B w g v1 v2 v3 t d h n1 n2 n3 x1 x2 x3) (hB : B≤w.heap.size) (hb : Below w.heap.size w w1) (k1 : Sl B w' 1 v' n' x') (k2 : Upd (fun k=>v2.ownBlock=some k) w1 w') (k3 : ∀ k,v'.ownBlock=some k→v2.ownBlock=some k∨w1.heap.size≤k) :
    Own3 B (w'.setCell ⟨g,3,none⟩ v') g v1 v' v3 t d h n1 n' n3 x1 x' x3∧Below B w1 (w'.setCell ⟨g,3,none⟩ v')∧At w' g [v1,.int .i64 t,.int .i64 d,v2,v3,.string (bstr h)]:=by
  have o1:=o.on hb
  have hg1:=o1.blk.1
  have hgv : ∀ k,v'.ownBlock=some k→k≠g:=fun k hk=>by
    rcases k3 k hk with h5|h5
    · exact o.f2 k h5
    · omega
  have hA:=o1.blk.upd k2 (fun e=>o.f2 g e rfl)
  have hu : Upd (fun k=>k=g) w' (w'.setCell ⟨g,3,none⟩ v'):=(Upd.refl (fun k=>k=g) w').setCell (p:=⟨g,3,none⟩) (fun _=>rfl) v'
  have hB1 : B≤w1.heap.size:=Nat.le_trans hB hb.size
  refine ⟨⟨hA.set 3 (by simp) v',o.lo,((o1.s1.upd k2 (fun k hk e=>o1.a12 k hk e)).upd hu (fun k hk e=>o1.f1 k hk e)),(k1.upd hu (fun k hk e=>hgv k hk e)),((o1.s3.upd k2 (fun k hk e=>o1.a23 k e hk)).upd hu (fun k hk e=>o1.f3 k hk e)),o1.f1,hgv,o1.f3,fun k hk e=>(k3 k e).elim (fun h5=>o1.a12 k hk h5) (fun h5=>by have:=(o1.s1.lt k hk).2;omega),o1.a13,fun k hk e=>(k3 k hk).elim (fun h5=>o1.a23 k h5 e) (fun h5=>by have:=(o1.s3.lt k e).2;omega)⟩,?_,hA⟩
  exact set_below ((Below.refl B w1).upd k2 hB1 (fun k hk e=>(o1.s2.lt k e).1)) (Nat.le_trans hB1 k2.size) o.lo _ _
theorem Own3.push3 (o : Own3 B w g v1 v2 v3 t d h n1 n2 n3 x1 x2 x3) (hB : B≤w.heap.size) (hb : Below w.heap.size w w1) (k1 : Sl B w' 2 v' n' x') (k2 : Upd (fun k=>v3.ownBlock=some k) w1 w') (k3 : ∀ k,v'.ownBlock=some k→v3.ownBlock=some k∨w1.heap.size≤k) :
    Own3 B (w'.setCell ⟨g,4,none⟩ v') g v1 v2 v' t d h n1 n2 n' x1 x2 x'∧Below B w1 (w'.setCell ⟨g,4,none⟩ v')∧At w' g [v1,.int .i64 t,.int .i64 d,v2,v3,.string (bstr h)]:=by
  have o1:=o.on hb
  have hg1:=o1.blk.1
  have hgv : ∀ k,v'.ownBlock=some k→k≠g:=fun k hk=>by
    rcases k3 k hk with h5|h5
    · exact o.f3 k h5
    · omega
  have hA:=o1.blk.upd k2 (fun e=>o.f3 g e rfl)
  have hu : Upd (fun k=>k=g) w' (w'.setCell ⟨g,4,none⟩ v'):=(Upd.refl (fun k=>k=g) w').setCell (p:=⟨g,4,none⟩) (fun _=>rfl) v'
  have hB1 : B≤w1.heap.size:=Nat.le_trans hB hb.size
  refine ⟨⟨hA.set 4 (by simp) v',o.lo,((o1.s1.upd k2 (fun k hk e=>o1.a13 k hk e)).upd hu (fun k hk e=>o1.f1 k hk e)),((o1.s2.upd k2 (fun k hk e=>o1.a23 k hk e)).upd hu (fun k hk e=>o1.f2 k hk e)),(k1.upd hu (fun k hk e=>hgv k hk e)),o1.f1,o1.f2,hgv,o1.a12,fun k hk e=>(k3 k e).elim (fun h5=>o1.a13 k hk h5) (fun h5=>by have:=(o1.s1.lt k hk).2;omega),fun k hk e=>(k3 k e).elim (fun h5=>o1.a23 k hk h5) (fun h5=>by have:=(o1.s2.lt k hk).2;omega)⟩,?_,hA⟩
  exact set_below ((Below.refl B w1).upd k2 hB1 (fun k hk e=>(o1.s3.lt k e).1)) (Nat.le_trans hB1 k2.size) o.lo _ _
theorem Own3.first (o : Own3 B w g v1 v2 v3 t d h n1 n2 n3 x1 x2 x3) (hB : B≤w.heap.size) (k1 : Sl B w 5 v' n' x') (hf : ∀ k,v'.ownBlock=some k→k≠g∧v2.ownBlock≠some k∧v3.ownBlock≠some k) (t' d' : Int) (h' : List UInt8) :
    Own3 B ((((w.setCell ⟨g,0,none⟩ v').setCell ⟨g,1,none⟩ (.int .i64 t')).setCell ⟨g,2,none⟩ (.int .i64 d')).setCell ⟨g,5,none⟩ (.string (bstr h'))) g v' v2 v3 t' d' h' n' n2 n3 x' x2 x3∧Below B w ((((w.setCell ⟨g,0,none⟩ v').setCell ⟨g,1,none⟩ (.int .i64 t')).setCell ⟨g,2,none⟩ (.int .i64 d')).setCell ⟨g,5,none⟩ (.string (bstr h'))):=by
  have hu : Upd (fun k=>k=g) w ((((w.setCell ⟨g,0,none⟩ v').setCell ⟨g,1,none⟩ (.int .i64 t')).setCell ⟨g,2,none⟩ (.int .i64 d')).setCell ⟨g,5,none⟩ (.string (bstr h'))) :=
    ((((Upd.refl (fun k=>k=g) w).setCell (p:=⟨g,0,none⟩) (fun _=>rfl) v').setCell (p:=⟨g,1,none⟩) (fun _=>rfl) _).setCell (p:=⟨g,2,none⟩) (fun _=>rfl) _).setCell (p:=⟨g,5,none⟩) (fun _=>rfl) _
  exact ⟨⟨(((o.blk.set 0 (by simp) v').set 1 (by simp) (.int .i64 t')).set 2 (by simp) (.int .i64 d')).set 5 (by simp) (.string (bstr h')),o.lo,k1.upd hu (fun k hk e=>(hf k hk).1 e),o.s2.upd hu (fun k hk e=>o.f2 k hk e),o.s3.upd hu (fun k hk e=>o.f3 k hk e),fun k hk=>(hf k hk).1,o.f2,o.f3,fun k hk=>(hf k hk).2.1,fun k hk=>(hf k hk).2.2,o.a23⟩,
    (Below.refl B w).upd hu hB (fun k _ e=>by rw [e];exact o.lo)⟩
end
theorem rlv_flat : ∀ rs : List Rul,rlv rs=rs.flatMap Rul.cells
  | []=>rfl
  | r::rs=>by show r.cells++rlv rs=_;rw [rlv_flat rs];rfl
def RdrC (B : Nat) (w : World) (g : Nat) (r : Rdr) : Prop :=
  ∃ v1 v2 v3,Own3 B w g v1 v2 v3 r.s.cfg.timeout r.s.cfg.drift r.head r.s.cfg.rules.length r.s.logs.length r.s.chs.length (rlv r.s.cfg.rules) (sv (r.s.logs.map bstr)) (r.s.chs.flatMap chc)
theorem RdrC.on {B : Nat} {w w' : World} {g : Nat} {r : Rdr} (h : RdrC B w g r) (hb : Below w.heap.size w w') : RdrC B w' g r:=by
  obtain ⟨v1,v2,v3,o⟩:=h
  exact ⟨v1,v2,v3,o.on hb⟩
def RdPost (B g : Nat) (r : Rdr) (o : Option Rdr) (w : World) (e : Ending) (w' : World) : Prop :=
  e = .returned (.bool o.isSome)∧RdrC B w' g (o.getD r)∧Below B w w'
def HdOk (r : Rdr) : Prop:=r.head≠[]→∃ td,headOf r.head=some td
theorem hdOk_rd {U : List UInt8→Option (List UInt8)} {r r' : Rdr} {x : List UInt8} (hr : HdOk r) (h : rd U r x=some r') : HdOk r':=by
  unfold rd at h
  by_cases hh : r.head=[]
  · rw [if_pos hh] at h
    unfold rdHead at h
    split at h
    · cases h
    · next td htd=>cases h;exact fun _=>⟨td,htd⟩
  · rw [if_neg hh] at h
    have hk : r'.head=r.head:=by
      unfold rdMore at h
      split at h
      · next h1 =>
        cases h
        unfold rdRule at h1
        split at h1
        · split at h1
          · cases h1
          · cases h1;rfl
        · cases h1
      · split at h
        · next h1 =>
          cases h
          unfold rdLog at h1
          split at h1
          · split at h1
            · cases h1
            · cases h1;rfl
          · cases h1
        · unfold rdCh at h
          split at h
          · cases h
          · cases h;rfl
    intro _
    rw [hk]
    exact hr hh
def Rdr.size (r : Rdr) : Nat:=r.s.cfg.rules.length+r.s.logs.length+r.s.chs.length
theorem rd_size {U : List UInt8→Option (List UInt8)} {r r' : Rdr} {x : List UInt8} (h : rd U r x=some r') : r'.size≤r.size+1:=by
  unfold Rdr.size
  unfold rd at h
  by_cases hh : r.head=[]
  · rw [if_pos hh] at h
    unfold rdHead at h
    split at h
    · cases h
    · cases h;simp
  · rw [if_neg hh] at h
    unfold rdMore at h
    split at h
    · next h1 =>
      cases h
      unfold rdRule at h1
      split at h1
      · split at h1
        · cases h1
        · cases h1;simp;omega
      · cases h1
    · split at h
      · next h1 =>
        cases h
        unfold rdLog at h1
        split at h1
        · split at h1
          · cases h1
          · cases h1;simp;omega
        · cases h1
      · unfold rdCh at h
        split at h
        · cases h
        · cases h;simp;omega
end Go.Proofs.YtmimfkhkilijcaaGreatDoor
namespace Go.Proofs.YtmimfkhkilijcaaGreatDoor
open Go.ChangeShapes Go.WideShapes Go.ChangeAt Go.RowKit
open PWord
open Go.Lib (itoa)
theorem rule0r (r : Rul) (h : r.kind=0) : rule r=[98,111,117,110,100,101,100,32]++itoa r.bound++[10]:=by unfold rule rline;rw [if_pos h];rfl
theorem rule1r (r : Rul) (h : r.kind=1) : rule r=[109,97,114,107,101,100,32]++itoa r.sign++[10]:=by unfold rule rline;rw [if_neg (by omega),if_pos h];rfl
theorem rule2r (r : Rul) (h : r.kind=2) : rule r=[112,101,114,99,101,110,116,32]++itoa r.pct++[32]++itoa r.win++[10]:=by
  unfold rule rline
  rw [if_neg (by omega),if_neg (by omega),if_pos h]
  simp [line2,lineOf,glue]
theorem rule3r (r : Rul) (h0 : r.kind≠0) (h1 : r.kind≠1) (h2 : r.kind≠2) : rule r=[]:=by unfold rule rline;rw [if_neg h0,if_neg h1,if_neg h2]
def ptext (c : Cfg) (k : Nat) : List UInt8:=hline c.timeout c.drift++[10]++((c.rules.take k).map rule).flatten
theorem ptext_all (c : Cfg) : ptext c c.rules.length=print c:=by unfold ptext print;rw [List.take_length]
theorem ptext_next (c : Cfg) (k : Nat) (hk : k<c.rules.length) : ptext c (k+1)=ptext c k++rule c.rules[k]:=by
  unfold ptext
  rw [List.take_succ_eq_append_getElem hk]
  simp only [List.map_append,List.map_cons,List.map_nil,List.flatten_append,List.flatten_cons,List.flatten_nil,List.append_nil,List.append_assoc]
theorem rule_len (r : Rul) (hf : r.Fits) : (rule r).length≤67:=by
  obtain ⟨f0,f1,f2,f3,f4⟩:=hf
  by_cases k0 : r.kind=0
  · rw [rule0r r k0];have:=itoa_len f1;simp;omega
  by_cases k1 : r.kind=1
  · rw [rule1r r k1];have:=itoa_len f4;simp;omega
  by_cases k2 : r.kind=2
  · rw [rule2r r k2];have h1:=itoa_len f2;have h2:=itoa_len f3;simp;omega
  rw [rule3r r k0 k1 k2];simp
theorem hline_len (t d : Int) (ht : in64 t) (hd : in64 d) : (hline t d).length≤66:=by
  have:=lineOf_len tSource [t,d] (by decide) (by simpa using ⟨ht,hd⟩)
  simpa [hline] using this
theorem ptext_len (c : Cfg) (hf : c.Fits) : ∀ k,k≤c.rules.length→(ptext c k).length≤(k+1)*67:=by
  intro k
  induction k with
  | zero=>intro _;have:=hline_len c.timeout c.drift hf.timeout hf.drift;simp [ptext];omega
  | succ k ih =>
    intro hk
    rw [ptext_next c k (by omega),List.length_append]
    have h1:=ih (by omega)
    have h2:=rule_len c.rules[k] (hf.rules _ (List.getElem_mem _))
    omega
end Go.Proofs.YtmimfkhkilijcaaGreatDoor
namespace Go.Proofs.YtmimfkhkilijcaaGreatDoor
open Go.ChangeShapes Go.WideShapes Go.ChangeAt Go.RowKit
open PWord
theorem ref_only (r : Rul) (o : Bool) (ho : only r=o) (w : World) :
    Calls Tryz.prog 26 #[r.val] w fun e w'=>e = .returned (.bool o)∧Below w.heap.size w w':=by
  have HO:=Lib.hid ho
  clear ho
  obtain ⟨k,b,p,n,s⟩:=r
  unfold Rul.val
  simp only at *
  have hA:=At.alloc w [.int .i64 k,.int .i64 b,.int .i64 p,.int .i64 n,.int .i64 s] 59
  have hb0 : Below w.heap.size w (w.alloc (.cells #[.int .i64 k,.int .i64 b,.int .i64 p,.int .i64 n,.int .i64 s] 59)):=(Below.refl _ _).alloc (Nat.le_refl _) _
  obtain ⟨hg,c0,z0,c1,z1,c2,z2,c3,z3,c4,z4⟩:=hA.five
  clear hA z0 z1 z2 z3 z4
  by_cases k0 : k=0
  · subst k0
    by_cases e1 : s=0
    · by_cases e2 : p=0
      · by_cases e3 : n=0
        · obtain rfl : o=true:=by rw [← HO.out];simp [only,e1,e2,e3]
          go_enter Tryz.func26,Tryz.ntmps26
          go_wp2
          go_ret
          exact ⟨by first|rfl|(refine ret_bool ?_;simp_all),(Below.refl _ _).alloc (Nat.le_refl _) _⟩
        · obtain rfl : o=false:=by rw [← HO.out];simp [only,e3]
          go_enter Tryz.func26,Tryz.ntmps26
          go_wp2
          go_ret
          exact ⟨by first|rfl|(refine ret_bool ?_;simp_all),(Below.refl _ _).alloc (Nat.le_refl _) _⟩
      · obtain rfl : o=false:=by rw [← HO.out];simp [only,e2]
        go_enter Tryz.func26,Tryz.ntmps26
        go_wp2
        go_ret
        exact ⟨by first|rfl|(refine ret_bool ?_;simp_all),(Below.refl _ _).alloc (Nat.le_refl _) _⟩
    · obtain rfl : o=false:=by rw [← HO.out];simp [only,e1]
      go_enter Tryz.func26,Tryz.ntmps26
      go_wp2
      go_ret
      exact ⟨by first|rfl|(refine ret_bool ?_;simp_all),(Below.refl _ _).alloc (Nat.le_refl _) _⟩
  by_cases k1 : k=1
  · subst k1
    by_cases e1 : b=0
    · by_cases e2 : p=0
      · by_cases e3 : n=0
        · obtain rfl : o=true:=by rw [← HO.out];simp [only,e1,e2,e3]
          go_enter Tryz.func26,Tryz.ntmps26
          go_wp2
          go_ret
          exact ⟨by first|rfl|(refine ret_bool ?_;simp_all),(Below.refl _ _).alloc (Nat.le_refl _) _⟩
        · obtain rfl : o=false:=by rw [← HO.out];simp [only,e3]
          go_enter Tryz.func26,Tryz.ntmps26
          go_wp2
          go_ret
          exact ⟨by first|rfl|(refine ret_bool ?_;simp_all),(Below.refl _ _).alloc (Nat.le_refl _) _⟩
      · obtain rfl : o=false:=by rw [← HO.out];simp [only,e2]
        go_enter Tryz.func26,Tryz.ntmps26
        go_wp2
        go_ret
        exact ⟨by first|rfl|(refine ret_bool ?_;simp_all),(Below.refl _ _).alloc (Nat.le_refl _) _⟩
    · obtain rfl : o=false:=by rw [← HO.out];simp [only,e1]
      go_enter Tryz.func26,Tryz.ntmps26
      go_wp2
      go_ret
      exact ⟨by first|rfl|(refine ret_bool ?_;simp_all),(Below.refl _ _).alloc (Nat.le_refl _) _⟩
  by_cases k2 : k=2
  · subst k2
    by_cases e1 : b=0
    · by_cases e2 : s=0
      · obtain rfl : o=true:=by rw [← HO.out];simp [only,e1,e2]
        go_enter Tryz.func26,Tryz.ntmps26
        go_wp2
        go_ret
        exact ⟨by first|rfl|(refine ret_bool ?_;simp_all),(Below.refl _ _).alloc (Nat.le_refl _) _⟩
      · obtain rfl : o=false:=by rw [← HO.out];simp [only,e2]
        go_enter Tryz.func26,Tryz.ntmps26
        go_wp2
        go_ret
        exact ⟨by first|rfl|(refine ret_bool ?_;simp_all),(Below.refl _ _).alloc (Nat.le_refl _) _⟩
    · obtain rfl : o=false:=by rw [← HO.out];simp [only,e1]
      go_enter Tryz.func26,Tryz.ntmps26
      go_wp2
      go_ret
      exact ⟨by first|rfl|(refine ret_bool ?_;simp_all),(Below.refl _ _).alloc (Nat.le_refl _) _⟩
  obtain rfl : o=false:=by rw [← HO.out];simp [only,k0,k1,k2]
  go_enter Tryz.func26,Tryz.ntmps26
  go_wp2
  go_ret
  exact ⟨by first|rfl|(refine ret_bool ?_;simp_all),(Below.refl _ _).alloc (Nat.le_refl _) _⟩
open Go.Lib (itoa)
theorem At.put2 {w : World} {g : Nat} {a b : Value} (h : At w g [a,b]) :
    (∀ x,(w.setCell ⟨g,0,none⟩ x).cell? ⟨g,0,none⟩=some x)∧(∀ x y,((w.setCell ⟨g,0,none⟩ x).setCell ⟨g,1,none⟩ y).cell? ⟨g,1,none⟩=some y) :=
  ⟨fun x=>((h.set 0 (by simp) x).2 0 (by simp)).1,fun x y=>(((h.set 0 (by simp) x).set 1 (by simp) y).2 1 (by simp)).1⟩
theorem tx_name (a b : List UInt8) (h : a.length+b.length≤9223372036854775807) : ∃ t,bstr (a++b)=t∧∀ w,(Op.stringOp .add (bstr a) (bstr b)).run Tryz.prog w = .ok (.string t) w:=⟨_,rfl,fun w=>tx_run w a b h⟩
theorem ch_poll (n : Int) (w : World) : Calls Tryz.prog 193 #[.int .i64 n] w fun e w'=>e = .returned (.agg #[.bool false,.int .i64 n])∧Below w.heap.size w w':=by
  have hb0 : Below w.heap.size w (w.alloc (.cells #[.bool false,.int .i64 n] 50)):=(Below.refl _ _).alloc (Nat.le_refl _) _
  obtain ⟨hg,c0,z0,c1,z1⟩:=(At.alloc w [.bool false,.int .i64 n] 50).two
  go_enter Tryz.func193,Tryz.ntmps193
  go_wp2
  exact bodyPost_ret (v:=.agg #[.bool false,.int .i64 n]) (by simp [results,Tryz.results193,go_sem]) rfl ⟨rfl,hb0⟩
theorem ch_tick (n : Int) (w : World) : Calls Tryz.prog 194 #[.int .i64 n] w fun e w'=>e = .returned (.agg #[.bool true,.int .i64 n])∧Below w.heap.size w w':=by
  have hb0 : Below w.heap.size w (w.alloc (.cells #[.bool true,.int .i64 n] 50)):=(Below.refl _ _).alloc (Nat.le_refl _) _
  go_enter Tryz.func194,Tryz.ntmps194
  go_wp2
  exact bodyPost_ret (v:=.agg #[.bool true,.int .i64 n]) (by simp [results,Tryz.results194,go_sem]) rfl ⟨rfl,hb0⟩
theorem ch_line (t : Bool) (n : Int) (hn : in64 n) (w : World) (he : EnvW w) :
    Calls Tryz.prog 39 #[.agg #[.bool t,.int .i64 n]] w fun e w'=>e = .returned (.string (bstr (cline t n)))∧Below w.heap.size w w':=by
  have hl:=itoa_len hn
  have hb0 : Below w.heap.size w (w.alloc (.cells #[.bool t,.int .i64 n] 50)):=(Below.refl _ _).alloc (Nat.le_refl _) _
  have HI:=Lib.hid (li_itoa n hn _ (he.on hb0))
  cases t
  · obtain ⟨t1,ht1,hc1⟩:=tx_name [112,111,108,108,32] (itoa n) (by simp only [List.length_cons,List.length_nil];omega)
    have ht : bstr (cline false n)=t1:=by rw [← ht1];rfl
    rw [ht]
    clear ht ht1 hl
    have hc0:=fun w=>tx_run w [112,111,108,108] [32] (by decide)
    generalize bstr (itoa n)=B at *
    go_enter Tryz.func39,Tryz.ntmps39
    go_wp2_with (go_at_call 84;refine HI.out.mono ?_;rintro e w2 ⟨rfl,hb2⟩)
    go_ret
    exact ⟨rfl,on_below hb0 hb2⟩
  · obtain ⟨t1,ht1,hc1⟩:=tx_name [116,105,99,107,32] (itoa n) (by simp only [List.length_cons,List.length_nil];omega)
    have ht : bstr (cline true n)=t1:=by rw [← ht1];rfl
    rw [ht]
    clear ht ht1 hl
    have hc0:=fun w=>tx_run w [116,105,99,107] [32] (by decide)
    generalize bstr (itoa n)=B at *
    go_enter Tryz.func39,Tryz.ntmps39
    go_wp2_with (go_at_call 84;refine HI.out.mono ?_;rintro e w2 ⟨rfl,hb2⟩)
    go_ret
    exact ⟨rfl,on_below hb0 hb2⟩
def ReadPost (o : Option (Bool×Int)) (w : World) (e : Ending) (w' : World) : Prop :=
  e = .returned (.tuple #[.agg #[.bool (o.getD (false,0)).1,.int .i64 (o.getD (false,0)).2],.bool o.isSome])∧Below w.heap.size w w'
def readP (a : List UInt8) (o : Option Int) : Option (Bool×Int) :=
  match o with
  | none=>none
  | some n=>if a=tPoll then some (false,n) else if a=tTick then some (true,n) else none
theorem read_eq (l : List UInt8) : PWord.read l=readP (Lib.cut l [32]).1 (PWord.numOf (Lib.cut l [32]).2.1):=by unfold PWord.read readP;rfl
theorem nums_one (l : List UInt8) : nums [l]=(PWord.numOf l).map fun n=>[n]:=by
  rw [nums_cons]
  cases PWord.numOf l <;> rfl
theorem cut_len2 (l : List UInt8) : (Lib.cut l [32]).2.1.length≤l.length:=by
  by_cases h : (32 : UInt8)∈l
  · obtain ⟨a,b,rfl,ha⟩:=part_at 32 l h
    rw [cut_some 32 a b ha]
    simp
    omega
  · rw [cut_none 32 l h];simp
theorem rows_one {w : World} {N : Nat} {x : ByteArray} (h : w.cell? ⟨N,0,none⟩=some (.string x)) : RowS w (some ⟨N,0,none⟩) [x]:=by
  refine ⟨fun i hi=>⟨N,0,rfl,cell_lt h,?_⟩⟩
  obtain rfl : i=0:=by simpa using hi
  exact h
def NumOne (n : Int) (w : World) (e : Ending) (w' : World) : Prop:=∃ g off c,e = .returned (.tuple #[.slice (some ⟨g,off,none⟩) 1 c,.bool true])∧w'.cell? ⟨g,off,none⟩=some (.int .i64 n)∧Below w.heap.size w w'
def NumNot (w : World) (e : Ending) (w' : World) : Prop:=∃ a c,e = .returned (.tuple #[.slice a 0 c,.bool false])∧Below w.heap.size w w'
theorem num_one (b : List UInt8) (hb : b.length≤1000000) (n : Int) (hn : PWord.numOf b=some n) (N : Nat) (w : World) (he : EnvW w) (h : w.cell? ⟨N,0,none⟩=some (.string (bstr b))) :
    Calls Tryz.prog 126 #[.slice (some ⟨N,0,none⟩) 1 1] w (NumOne n w):=by
  have hx:=cf_numbers (some ⟨N,0,none⟩) 1 1 [bstr b] w he (rows_one h) rfl (by simp) (fun x hx=>by simp at hx;subst hx;rw [tx_size];exact hb)
  rw [show bl [bstr b]=[b] from rfl,nums_one,hn] at hx
  refine hx.mono ?_
  rintro e w' ⟨v,he,hv,hbw⟩
  obtain ⟨-,a,c,rfl,hr⟩:=rowi_of_sl (l:=[n]) hv (fun x hx=>by simp at hx;subst hx;exact (numOf_some hn).2)
  obtain ⟨g,off,rfl,-,hc⟩:=hr.at_ 0 (by simp)
  exact ⟨g,off,c,he,by simpa using hc,hbw⟩
theorem num_not (b : List UInt8) (hb : b.length≤1000000) (hn : PWord.numOf b=none) (N : Nat) (w : World) (he : EnvW w) (h : w.cell? ⟨N,0,none⟩=some (.string (bstr b))) :
    Calls Tryz.prog 126 #[.slice (some ⟨N,0,none⟩) 1 1] w (NumNot w):=by
  have hx:=cf_numbers (some ⟨N,0,none⟩) 1 1 [bstr b] w he (rows_one h) rfl (by simp) (fun x hx=>by simp at hx;subst hx;rw [tx_size];exact hb)
  rw [show bl [bstr b]=[b] from rfl,nums_one,hn] at hx
  refine hx.mono ?_
  rintro e w' ⟨v,he,hv,hbw⟩
  obtain ⟨a,c,rfl⟩:=hv.shape
  exact ⟨a,c,he,hbw⟩
theorem ch_read (s : ByteArray) (w : World) (he : EnvW w) (hs : s.size≤1000000) :
    Calls Tryz.prog 136 #[.string s] w (ReadPost (PWord.read s.data.toList) w):=by
  have hcl:=cut_len2 s.data.toList
  have hsl : s.data.toList.length=s.size:=by simp
  rw [read_eq]
  have hb0 : Below w.heap.size w (w.alloc (.cells #[.bool false,.int .i64 0] 50)):=(Below.refl _ _).alloc (Nat.le_refl _) _
  have hA:=At.alloc w [.bool false,.int .i64 0] 50
  have he0:=he.on hb0
  have HC:=Lib.hid (li_cut s _ hs he0)
  generalize Lib.cut s.data.toList [32]=p at *
  obtain ⟨a,b,y⟩:=p
  simp only at *
  cases ho : PWord.numOf b with
  | none =>
    have HNUM:=Lib.hid (num_not b (by omega) ho)
    clear he hsl hcl ho
    show Calls Tryz.prog 136 #[.string s] w (ReadPost none w)
    go_enter Tryz.func136,Tryz.ntmps136
    go_wp2_with (first|(go_at_call 41;(with_reducible refine HC.out.mono ?_);rintro e w1 ⟨y1,rfl,hb1⟩;have he1:=(he0.on hb1).on ((Below.refl _ _).alloc (Nat.le_refl _) (.cells #[.string (bstr b)] 9));have hc1:=(At.alloc w1 [.string (bstr b)] 9).one.2.1)|(go_at_call 126;(with_reducible refine (HNUM.out _ _ he1 hc1).mono ?_);rintro e w2 ⟨a2,c2,rfl,hb2⟩;have hb3:=on_below ((on_below hb0 hb1).alloc (by have:=hb1.size;simp at this;omega) (.cells #[.string (bstr b)] 9)) hb2;have hA3:=((hA.on hb1).on ((Below.refl _ _).alloc (Nat.le_refl _) (.cells #[.string (bstr b)] 9))).on hb2;obtain ⟨hg,c0,z0,c1,z1⟩:=hA3.two;obtain ⟨p0,p1⟩:=hA3.put2))
    exact bodyPost_ret (v:=.tuple #[.agg #[.bool false,.int .i64 0],.bool false]) (by simp [results,Tryz.results136,go_sem,p0,p1,hg]) rfl ⟨rfl,((hb3.setCell (Nat.le_refl _) _).setCell (Nat.le_refl _) _)⟩
  | some n =>
    have HNUM:=Lib.hid (num_one b (by omega) n ho)
    clear he hsl hcl ho
    by_cases k0 : a=tPoll
    · have hr : readP a (some n)=some (false,n):=by simp [readP,k0]
      rw [hr]
      subst k0
      have HP:=Lib.hid (fun w=>ch_poll n w)
      go_enter Tryz.func136,Tryz.ntmps136
      go_wp2_with (first|(go_at_call 41;(with_reducible refine HC.out.mono ?_);rintro e w1 ⟨y1,rfl,hb1⟩;have he1:=(he0.on hb1).on ((Below.refl _ _).alloc (Nat.le_refl _) (.cells #[.string (bstr b)] 9));have hc1:=(At.alloc w1 [.string (bstr b)] 9).one.2.1)|(go_at_call 126;(with_reducible refine (HNUM.out _ _ he1 hc1).mono ?_);rintro e w2 ⟨g2,o2,c2,rfl,hq,hb2⟩;have hb3:=on_below ((on_below hb0 hb1).alloc (by have:=hb1.size;simp at this;omega) (.cells #[.string (bstr b)] 9)) hb2;have hA3:=((hA.on hb1).on ((Below.refl _ _).alloc (Nat.le_refl _) (.cells #[.string (bstr b)] 9))).on hb2;obtain ⟨hg,c0,z0,c1,z1⟩:=hA3.two;obtain ⟨p0,p1⟩:=hA3.put2)|(go_at_call 193;(with_reducible refine (HP.out _).mono ?_);rintro e w4 ⟨rfl,hb4⟩;obtain ⟨hg4,d0,y0,d1,y1⟩:=(hA3.on hb4).two;obtain ⟨q0,q1⟩:=(hA3.on hb4).put2))
      exact bodyPost_ret (v:=.tuple #[.agg #[.bool false,.int .i64 n],.bool true]) (by simp [results,Tryz.results136,go_sem,q0,q1,hg4]) rfl ⟨rfl,(((on_below hb3 hb4).setCell (Nat.le_refl _) _).setCell (Nat.le_refl _) _)⟩
    by_cases k1 : a=tTick
    · have hr : readP a (some n)=some (true,n):=by simp [readP,k1]
      rw [hr]
      subst k1
      have HP:=Lib.hid (fun w=>ch_tick n w)
      go_enter Tryz.func136,Tryz.ntmps136
      go_wp2_with (first|(go_at_call 41;(with_reducible refine HC.out.mono ?_);rintro e w1 ⟨y1,rfl,hb1⟩;have he1:=(he0.on hb1).on ((Below.refl _ _).alloc (Nat.le_refl _) (.cells #[.string (bstr b)] 9));have hc1:=(At.alloc w1 [.string (bstr b)] 9).one.2.1)|(go_at_call 126;(with_reducible refine (HNUM.out _ _ he1 hc1).mono ?_);rintro e w2 ⟨g2,o2,c2,rfl,hq,hb2⟩;have hb3:=on_below ((on_below hb0 hb1).alloc (by have:=hb1.size;simp at this;omega) (.cells #[.string (bstr b)] 9)) hb2;have hA3:=((hA.on hb1).on ((Below.refl _ _).alloc (Nat.le_refl _) (.cells #[.string (bstr b)] 9))).on hb2;obtain ⟨hg,c0,z0,c1,z1⟩:=hA3.two;obtain ⟨p0,p1⟩:=hA3.put2)|(go_at_call 194;(with_reducible refine (HP.out _).mono ?_);rintro e w4 ⟨rfl,hb4⟩;obtain ⟨hg4,d0,y0,d1,y1⟩:=(hA3.on hb4).two;obtain ⟨q0,q1⟩:=(hA3.on hb4).put2))
      exact bodyPost_ret (v:=.tuple #[.agg #[.bool true,.int .i64 n],.bool true]) (by simp [results,Tryz.results136,go_sem,q0,q1,hg4]) rfl ⟨rfl,(((on_below hb3 hb4).setCell (Nat.le_refl _) _).setCell (Nat.le_refl _) _)⟩
    have hr : readP a (some n)=none:=by simp [readP,k0,k1]
    rw [hr]
    have e0 : (a == [112,111,108,108])=false:=by rw [beq_eq_false_iff_ne];exact k0
    have e1 : (a == [116,105,99,107])=false:=by rw [beq_eq_false_iff_ne];exact k1
    clear hr k0 k1
    go_enter Tryz.func136,Tryz.ntmps136
    go_wp2_with (first|(go_at_call 41;(with_reducible refine HC.out.mono ?_);rintro e w1 ⟨y1,rfl,hb1⟩;have he1:=(he0.on hb1).on ((Below.refl _ _).alloc (Nat.le_refl _) (.cells #[.string (bstr b)] 9));have hc1:=(At.alloc w1 [.string (bstr b)] 9).one.2.1)|(go_at_call 126;(with_reducible refine (HNUM.out _ _ he1 hc1).mono ?_);rintro e w2 ⟨g2,o2,c2,rfl,hq,hb2⟩;have hb3:=on_below ((on_below hb0 hb1).alloc (by have:=hb1.size;simp at this;omega) (.cells #[.string (bstr b)] 9)) hb2;have hA3:=((hA.on hb1).on ((Below.refl _ _).alloc (Nat.le_refl _) (.cells #[.string (bstr b)] 9))).on hb2;obtain ⟨hg,c0,z0,c1,z1⟩:=hA3.two;obtain ⟨p0,p1⟩:=hA3.put2))
    exact bodyPost_ret (v:=.tuple #[.agg #[.bool false,.int .i64 0],.bool false]) (by simp [results,Tryz.results136,go_sem,p0,p1,hg]) rfl ⟨rfl,((hb3.setCell (Nat.le_refl _) _).setCell (Nat.le_refl _) _)⟩
end Go.Proofs.YtmimfkhkilijcaaGreatDoor
namespace Go.Proofs.YtmimfkhkilijcaaGreatDoor
open Go.ChangeShapes Go.WideShapes Go.ChangeAt Go.RowKit
open PWord
theorem info_chC : (Tryz.prog.info? 50).map (fun i=>(i.zero,i.size,i.bytes))=some (some (.agg #[.bool false,.int .i64 0]),2,16):=by kernel_rfl
open PSign PHex PQuote
theorem bl_one (x : List UInt8) : bl [bstr x]=[x]:=rfl
theorem bl_two (x y : List UInt8) : bl [bstr x,bstr y]=[x,y]:=rfl
theorem rd_headC (x : List UInt8) (hx : x.length≤1000000) (B g : Nat) (w : World) (he : EnvW w) (hnm : Names w) (h : RdrC B w g noRdr) (hB : B≤w.heap.size) (o : Option Rdr) (ho : rdHead x=o) :
    Calls Tryz.prog 86 #[.pointer (some ⟨g,0,none⟩),.string (bstr x)] w (RdPost B g noRdr o w):=by
  have hb1 : Below w.heap.size w (w.alloc (.cells #[.string (bstr x)] 9)):=(Below.refl _ _).alloc (Nat.le_refl _) _
  have hc1:=(At.alloc w [.string (bstr x)] 9).one.2.1
  have HP:=cf_parse (some ⟨w.heap.size,0,none⟩) 1 1 [bstr x] (w.alloc (.cells #[.string (bstr x)] 9)) (he.on hb1) (hnm.on hb1) (rows_one hc1) rfl (Nat.le_refl _) (by unfold maxLen;omega) (by simp) (fun s hs=>by rw [List.mem_singleton.1 hs,tx_size];exact hx)
  rw [bl_one] at HP
  obtain ⟨v1,v2,v3,O⟩:=h
  unfold rdHead at ho
  cases hh : headOf x with
  | none =>
    rw [hh] at ho
    obtain rfl : none=o:=ho
    have hpx : parse [x]=(noCfg,1):=by rw [parse_cons,hh]
    rw [hpx] at HP
    have HQ:=Lib.hid HP
    clear hpx hh hc1 hx HP
    go_enter Tryz.func86,Tryz.ntmps86
    go_wp2_with (first|(go_at_call 134;(with_reducible refine HQ.out.mono ?_);intro e w2 h2;obtain ⟨v,rfl,hs2,hb2⟩:=h2;obtain ⟨a3,k3,rfl⟩:=hs2.shape;have hb3:=on_below hb1 hb2;have hO:=O.on hb3)|fail)
    go_ret
    have hw2:=Nat.le_trans hB hb3.size
    exact ⟨rfl,⟨v1,v2,v3,hO.on ((Below.refl _ _).alloc (Nat.le_refl _) _)⟩,(hb3.mono hB).alloc hw2 _⟩
  | some td =>
    obtain ⟨t,d⟩:=td
    rw [hh] at ho
    obtain rfl : some (⟨⟨⟨[],t,d⟩,[],[]⟩,x⟩ : Rdr)=o:=ho
    have hpx : parse [x]=(⟨[],t,d⟩,0):=by rw [parse_cons,hh];rfl
    rw [hpx] at HP
    have HQ:=Lib.hid HP
    clear hpx hh hc1 hx HP
    obtain ⟨hg,c0,c1,c2,c3,c4,c5⟩:=O.cells
    go_enter Tryz.func86,Tryz.ntmps86
    go_wp2_with (first|(go_at_call 134;(with_reducible refine HQ.out.mono ?_);intro e w2 h2;obtain ⟨v,rfl,hs2,hb2⟩:=h2;obtain ⟨a3,k3,rfl⟩:=hs2.shape;have hb3:=on_below hb1 hb2;have hO:=O.on hb3;obtain ⟨hg2,e0,e1,e2,e3,e4,e5⟩:=hO.cells;obtain ⟨z0,z1,z2,z3,z4,z5⟩:=hO.free;have hgl : g<w2.heap.size:=hg2)|fail)
    go_ret
    have hw2:=Nat.le_trans hB hb3.size
    have hw1 : (w.alloc (.cells #[.string (bstr x)] 9)).heap.size=w.heap.size+1:=World.size_alloc _ _
    have hF:=Own3.first hO hw2 (hs2.base (by omega)) (fun k hk=>by
      have h1:=(hs2.lt k hk).1
      refine ⟨by omega,fun e=>?_,fun e=>?_⟩
      · have:=(O.s2.lt k e).2;omega
      · have:=(O.s3.lt k e).2;omega) t d x
    exact ⟨rfl,⟨_,_,_,hF.1.on ((Below.refl _ _).alloc (Nat.le_refl _) _)⟩,((hb3.mono hB).trans hF.2).alloc (Nat.le_trans hw2 (by have:=hF.2.size;omega)) _⟩
end Go.Proofs.YtmimfkhkilijcaaGreatDoor
namespace Go.Proofs.YtmimfkhkilijcaaGreatDoor
open Go.ChangeShapes Go.WideShapes Go.ChangeAt Go.RowKit
theorem step_append_own25 {P : Program} {ops : Array Oper} {o : Oper} {a : Act} {w : World} {K : Act→World→Prop} {Q : Exit→Act→World→Prop} {E : Prop}
    (hg : o.guard=none) (s x : Operand) (t tx : TypeId) (hop : o.op=Op.call { callee:=Callee.builtin Builtin.append,args:=#[s,x],argTypes:=#[t,tx] })
    {B : Nat} {size : Nat} (e : TypeId) (i : TypeInfo) (z : Value) (bytes : Nat) (ht : P.underlying t=some (.slice e)) (hi : P.info? e=some i) (hz : i.zero=some z) (hsize : i.size=size) (hby : i.bytes=bytes) (hzs : z.cells.size=size)
    (v xv : Value) {n : Nat} {xs : List Value} (m : Nat) (news : List Value) (hv : a.eval s=v) (hx : a.eval x=xv) (h : Sl B w size v n xs) (hs : Src P size tx xv m news w)
    (h63 : n+m≤maxLen) (hbytes : (n+m)*bytes≤140737488355328) (hB : B≤w.heap.size)
    (hK : ∀ a1 c1 w',Sl B w' size (.slice a1 (n+m) c1) (n+m) (xs++news)→Upd (fun k=>v.ownBlock=some k) w w'→(∀ k,(Value.slice a1 (n+m) c1).ownBlock=some k→v.ownBlock=some k∨w.heap.size≤k)→K (a.put o.dst (.slice a1 (n+m) c1)) w') :
    if Region.wanted o (yielded ops a.tmps)=true then Oper.wp P o a w K Q else E:=by
  obtain ⟨v',w',hr,r1,r2,r3⟩:=run_append_sl (P:=P) w t tx o.type e i z bytes ht hi hz hsize hby hzs h xv m news hs h63 hbytes hB
  obtain ⟨a1,c1,rfl⟩:=r1.shape
  exact step_append_run hg s x t tx hop v xv hv hx hr (hK a1 c1 w' r1 r2 r3)
open PWord PSign PHex PQuote
theorem rul_one (u : Rul) : ∀ y∈u.cells,y.oneCell'=true:=by
  intro y hy
  simp only [Rul.cells,List.mem_cons,List.not_mem_nil,or_false] at hy
  rcases hy with rfl|rfl|rfl|rfl|rfl <;> rfl
theorem rows_two26 (w : World) (a b : ByteArray) (e : TypeId) : RowS (w.alloc (.cells #[.string a,.string b] e)) (some ⟨w.heap.size,0,none⟩) [a,b]:=by
  have hA:=At.alloc w [.string a,.string b] e
  refine ⟨fun i hi=>⟨w.heap.size,0,rfl,hA.1,?_⟩⟩
  rw [Nat.zero_add]
  have:=(hA.2 i (by simpa using hi)).1
  rw [this]
  simp at hi
  have : i=0∨i=1:=by omega
  rcases this with rfl|rfl <;> rfl
theorem rd_ruleC (r : Rdr) (x : List UInt8) (hx : x.length≤1000000) (hhl : r.head.length≤1000000) (hsz : r.size≤200000) (t d : Int) (hh : headOf r.head=some (t,d)) (B g : Nat) (w : World) (he : EnvW w) (hnm : Names w) (h : RdrC B w g r) (hB : B≤w.heap.size) (o : Option Rdr) (ho : rdRule r x=o) :
    Calls Tryz.prog 87 #[.pointer (some ⟨g,0,none⟩),.string (bstr x)] w (RdPost B g r o w):=by
  obtain ⟨v1,v2,v3,O⟩:=h
  obtain ⟨⟨⟨rs,rt,rdd⟩,ls,cs⟩,hd⟩:=r
  simp only at hh hhl O
  unfold Rdr.size at hsz
  simp only at hsz
  obtain ⟨a2,k2',rfl⟩:=O.s2.shape
  obtain ⟨a3,k3',rfl⟩:=O.s3.shape
  obtain ⟨hg,c0,c1,c2,c3,c4,c5⟩:=O.cells
  by_cases hl : ls=[]
  · by_cases hc : cs=[]
    · subst hl;subst hc
      obtain ⟨a1,k1',rfl⟩:=O.s1.shape
      have hb1 : Below w.heap.size w (w.alloc (.cells #[.string (bstr hd),.string (bstr x)] 9)):=(Below.refl _ _).alloc (Nat.le_refl _) _
      have HP:=cf_parse (some ⟨w.heap.size,0,none⟩) 2 2 [bstr hd,bstr x] (w.alloc (.cells #[.string (bstr hd),.string (bstr x)] 9)) (he.on hb1) (hnm.on hb1) (rows_two26 _ _ _ _) rfl (Nat.le_refl _) (by unfold maxLen;omega) (by simp) (fun s hs=>by
        simp only [List.mem_cons,List.not_mem_nil,or_false] at hs
        rcases hs with rfl|rfl <;> rw [tx_size] <;> assumption)
      rw [bl_two] at HP
      unfold rdRule at ho
      rw [if_pos ⟨rfl,rfl⟩] at ho
      cases hu : ruleOf x with
      | none =>
        rw [hu] at ho
        obtain rfl : none=o:=ho
        have hpx : parse [hd,x]=(noCfg,2):=by rw [parse_cons,hh];simp [prules,hu]
        rw [hpx] at HP
        have HQ:=Lib.hid HP
        clear hpx hh hx hhl HP hu
        go_enter Tryz.func87,Tryz.ntmps87
        go_wp2_with (first|(go_at_call 134;(with_reducible refine HQ.out.mono ?_);intro e w2 h2;obtain ⟨v,rfl,hs2,hb2⟩:=h2;obtain ⟨ax,kx,rfl⟩:=hs2.shape;have hb3:=on_below hb1 hb2;have hO:=O.on hb3)|fail)
        go_ret
        exact ⟨rfl,⟨_,_,_,hO.on ((Below.refl _ _).alloc (Nat.le_refl _) _)⟩,(hb3.mono hB).alloc (Nat.le_trans hB hb3.size) _⟩
      | some u =>
        rw [hu] at ho
        obtain rfl : some (⟨⟨⟨rs++[u],rt,rdd⟩,[],[]⟩,hd⟩ : Rdr)=o:=ho
        have hpx : parse [hd,x]=(⟨[u],t,d⟩,0):=by rw [parse_cons,hh];simp [prules,hu]
        rw [hpx] at HP
        have HQ:=Lib.hid HP
        have hu1:=rul_one u
        obtain ⟨i0,hi,hz0,hz1,hz2⟩:=info_parts info_rul
        have hm1 : rs.length+1≤maxLen:=by unfold maxLen;omega
        clear hpx hh hx hhl HP hu
        go_enter Tryz.func87,Tryz.ntmps87
        go_wp2_with (first|(go_at_call 134;(with_reducible refine HQ.out.mono ?_);intro e w2 h2;obtain ⟨v,rfl,hs2,hb2⟩:=h2;obtain ⟨ax,kx,rfl⟩:=hs2.shape;have hb3:=on_below hb1 hb2;have hO:=O.on hb3)|fail)
        have hs3 : Sl (w.alloc (.cells #[.string (bstr hd),.string (bstr x)] 9)).heap.size w2 5 (.slice ax 1 kx) 1 u.cells:=by
          have h9 : rlv [u]=u.cells:=List.append_nil _
          have:=hs2
          rw [h9] at this
          exact this
        obtain ⟨w3,hw3⟩ : ∃ w3,w2.alloc (.cells #[.slice ax 1 kx,.int .i64 t,.int .i64 d] 24)=w3:=⟨_,rfl⟩
        have hba : Below w2.heap.size w2 (w2.alloc (.cells #[.slice ax 1 kx,.int .i64 t,.int .i64 d] 24)):=(Below.refl _ _).alloc (Nat.le_refl _) _
        have hbx:=(At.alloc w2 [.slice ax 1 kx,.int .i64 t,.int .i64 d] 24).three
        rw [hw3] at hba hbx ⊢
        obtain ⟨hgb,e0,-,e1,-,e2,-⟩:=hbx
        have hO3:=hO.on hba
        have hs4:=hs3.onW hba
        have hc3:=on_below hb3 hba
        have hB3:=Nat.le_trans hB hc3.size
        obtain ⟨hg3,d0,d1,d2,d3,d4,d5⟩:=hO3.cells
        clear hw3 hs2 hs3
        go_region_law (first|(refine step_append_own25 rfl (.tmp 41) (.tmp 43) 22 22 rfl 59 i0 _ 40 Tryz.underlying22 hi hz0 hz1 hz2 rfl (.slice a1 rs.length k1') (.slice ax 1 kx) 1 u.cells (by simp [Act.eval,Act.put]) (by simp [Act.eval,Act.put]) (hO3.s1.onW (Below.refl _ _).drew) (src_sl (hs4.onW (Below.refl _ _).drew) Tryz.underlying22 hu1) hm1 (by omega) hB3 ?_;intro ay ky w7 k1 k2 k3;have hM:=Own3.push1 hO3 hB3 (Below.refl w3.heap.size w3).drew k1 k2 k3;have hA7:=hM.2.2;have y0:=(hA7.2 0 (by simp)).1;have y1:=(hA7.2 0 (by simp)).2;have y2:=hA7.1)|fail)
        all_goals go_wp2
        all_goals go_ret
        all_goals exact ⟨rfl,⟨_,_,_,by
          show Own3 B _ g _ _ _ rt rdd hd (rs++[u]).length _ _ (rlv (rs++[u])) _ _
          rw [rlv_snoc,List.length_append]
          exact hM.1⟩,(hc3.mono hB).drew.trans hM.2.1⟩
    · have hcl : (0 : Int)<(cs.length : Int):=by have:=List.length_pos_iff.2 hc;omega
      have ho2 : o=none:=by
        rw [← ho];unfold rdRule;rw [if_neg (fun e=>hc e.2)]
      subst ho2
      subst hl
      go_enter Tryz.func87,Tryz.ntmps87
      go_wp2
      go_ret
      exact ⟨rfl,⟨_,_,_,O⟩,Below.refl _ _⟩
  · have hcl : (0 : Int)<(ls.length : Int):=by have:=List.length_pos_iff.2 hl;omega
    have ho2 : o=none:=by
      rw [← ho];unfold rdRule;rw [if_neg (fun e=>hl e.1)]
    subst ho2
    go_enter Tryz.func87,Tryz.ntmps87
    go_wp2
    go_ret
    exact ⟨rfl,⟨_,_,_,O⟩,Below.refl _ _⟩
end Go.Proofs.YtmimfkhkilijcaaGreatDoor
