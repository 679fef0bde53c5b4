/- KJuC: what is reached of them. -/
import Derived.Test.YtmimfkhkilijcaaGreatDoorWq01
import Derived.Maps.OwnOps
import Derived.Maps.Views
import Derived.Test.YtmimfkhkilijcaaGreatDoorWq38
import Derived.Test.YtmimfkhkilijcaaGreatDoorWq18
import Derived.Deep.RegionHeld3
import Derived.BigQuiet
import Derived.BigRegion
import Derived.Test.YtmimfkhkilijcaaGreatDoorWq39
import Derived.Test.YtmimfkhkilijcaaGreatDoorWq12
set_option linter.unusedVariables false
set_option linter.unusedSimpArgs false
set_option maxRecDepth 100000
set_option maxHeartbeats 8000000
namespace Go.Proofs.YtmimfkhkilijcaaGreatDoor
open Go.ChangeShapes Go.WideShapes Go.ChangeAt Go.RowKit
open Go.Maps
theorem ikey : Keyed Tryz.prog 3:=int_keyed Tryz.underlying3
theorem zeroB (w : World) : (zeroValue 4).run Tryz.prog w = .ok (.bool false) w:=by kernel_rfl
theorem pb_inv {P : Program} {e : TypeId} (he : P.underlying e=some .bool) {v : Value} {z : DataW Unit×List MemPlace} (h : plainElem P e v=some z) : ∃ b,v = .bool b∧z=(.lit (.bool b),[]):=by
  unfold plainElem at h
  rw [he] at h
  cases v <;> simp at h
  exact ⟨_,rfl,h.symm⟩
def MapB (w : World) (b n : Nat) (ov : Int→Bool) : Prop:=∃ D : DataW Unit,w.ownsMap Tryz.prog 3 (plainElem Tryz.prog 4) b n D∧IsMap D∧∀ i : Int,D.atKey (.int .i64 i) (.lit (.bool false)) = .lit (.bool (ov i))
theorem MapB.made (w : World) : MapB (w.alloc (.map #[] 0)) w.heap.size 0 (fun _=>false):=⟨.map [],World.ownsMap_made _ _ _ _,isMap_empty,fun i=>rfl⟩
theorem MapB.lt {w : World} {b n : Nat} {ov : Int→Bool} (h : MapB w b n ov) : b<w.heap.size:=by
  obtain ⟨D,h1,_⟩:=h
  exact h1.lt
theorem MapB.upd {S : Nat→Prop} {w w' : World} {b n : Nat} {ov : Int→Bool} (h : MapB w b n ov) (hu : Upd S w w') (hn : ¬ S b) : MapB w' b n ov:=by
  obtain ⟨D,⟨es,clock,hb,F,hs,hD⟩,h2,h3⟩:=h
  have hlt : b<w.heap.size:=(Array.getElem?_eq_some_iff.1 hb).1
  exact ⟨D,⟨es,clock,(hu.block b hlt hn).trans hb,F,hs,hD⟩,h2,h3⟩
theorem MapB.on {w w' : World} {b n : Nat} {ov : Int→Bool} (h : MapB w b n ov) (hb : Below w.heap.size w w') : MapB w' b n ov :=
  h.upd (S:=fun k=>w.heap.size≤k) (Upd.of_below hb (fun _ _ h=>h)) (by have:=h.lt;omega)
theorem wf64 {i : Int} (h : -9223372036854775808≤i∧i≤9223372036854775807) : (Lit.int .i64 i).wf=true:=by simp [Lit.wf,IntKind.min,IntKind.max,IntKind.bits,IntKind.signed];omega
theorem MapB.look {w : World} {b n : Nat} {ov : Int→Bool} (h : MapB w b n ov) (i : Int) (hi : -9223372036854775808≤i∧i≤9223372036854775807) (o : Bool) (ho : ov i=o) : (Instr.lookup 200 (.map (some b)) (.int .i64 i) false).run Tryz.prog w = .ok (.bool o) w:=by
  obtain ⟨D,h1,h2,h3⟩:=h
  obtain ⟨v,ps,hrun,hv⟩:=h1.lookup ikey Tryz.underlying200 (zeroB w) (plainElem_bool Tryz.underlying4 false) (keyOf_int_mk Tryz.underlying3 (wf64 hi))
  obtain ⟨x,rfl,hx⟩:=pb_inv Tryz.underlying4 hv
  rw [hrun]
  have h4:=h3 i
  simp only [Prod.mk.injEq] at hx
  rw [hx.1] at h4
  simp at h4
  rw [h4,ho]
theorem MapB.put {w : World} {b n : Nat} {ov : Int→Bool} (h : MapB w b n ov) (hn : n<maxLen) (i : Int) (hi : -9223372036854775808≤i∧i≤9223372036854775807) :
    ∃ w',(Instr.mapUpdate 200 (.map (some b)) (.int .i64 i) (.bool true)).run Tryz.prog w = .ok () w'∧MapB w' b (n+1) (fun j=>if j=i then true else ov j)∧Upd (fun k=>k=b) w w':=by
  obtain ⟨D,h1,h2,h3⟩:=h
  obtain ⟨w',hrun,r1,r2⟩:=h1.update ikey Tryz.underlying200 hn (keyOf_int_mk Tryz.underlying3 (wf64 hi)) (plainElem_bool Tryz.underlying4 true)
  refine ⟨w',hrun,⟨_,r1,h2.put _ _,fun j=>?_⟩,⟨r2.os,r2.tape,r2.output,r2.size,fun k hk hne=>r2.block k hk (fun e=>hne (by simpa using e))⟩⟩
  by_cases e : j=i
  · subst e
    show _=DataW.lit (Lit.bool (if j=j then true else ov j))
    rw [if_pos rfl]
    exact atKey_put_same h2 (show WideAt.IsKeyLit (Lit.int .i64 j) from trivial) _ _
  · show _=DataW.lit (Lit.bool (if j=i then true else ov j))
    rw [if_neg e,← h3 j]
    exact atKey_put_other (by intro h;exact e (by simpa using h)) _ _
end Go.Proofs.YtmimfkhkilijcaaGreatDoor
namespace Go.Proofs.YtmimfkhkilijcaaGreatDoor
open Go.ChangeShapes Go.WideShapes Go.ChangeAt Go.RowKit
open PHist PRing PSat PClamp PBound PFrame PSign PTree PEv
theorem RowR.kept25 {S : Nat→Prop} {w w' : World} {a : Option Addr} {l : List R} (h : RowR w a l) (hu : Upd S w w') (hn : ∀ q,a=some q→¬ S q.block) : RowR w' a l :=
  ⟨h.len,fun i hi=>by
    obtain ⟨b,off,h1,h2,h3,h4,h5⟩:=h.at_ i hi
    have hs : ¬ S b:=hn _ h1
    exact ⟨b,off,h1,Nat.lt_of_lt_of_le h2 hu.size,by rw [hu.cell (p:=⟨b,off+i*3,none⟩) h2 hs];exact h3,by rw [hu.cell (p:=⟨b,off+i*3+1,none⟩) h2 hs];exact h4,by rw [hu.cell (p:=⟨b,off+i*3+2,none⟩) h2 hs];exact h5⟩,h.tm⟩
structure Pp where
  a : Option Addr
  c : Nat
  l : List R
  e : Nat
def Pp.cells (p : Pp) : List Value:=[.slice p.a p.l.length p.c,.int .i64 (p.e : Int)]
def pps (l : List Pp) : List Value:=l.flatMap Pp.cells
theorem pps_snoc (l : List Pp) (p : Pp) : pps (l++[p])=pps l++p.cells:=by simp [pps]
theorem pps_at : ∀ (l : List Pp) (i j : Nat) (h : i<l.length),j<2→(pps l)[i*2+j]? = (l[i].cells)[j]?
  | p::l,0,j,_,hj=>by
    show (p.cells++pps l)[0*2+j]? = _
    rw [List.getElem?_append_left (by show 0*2+j<2;omega),Nat.zero_mul,Nat.zero_add];rfl
  | p::l,i+1,j,h,hj=>by
    show (p.cells++pps l)[(i+1)*2+j]? = _
    rw [List.getElem?_append_right (by show 2≤_;omega)]
    show (pps l)[(i+1)*2+j - 2]? = _
    rw [show (i+1)*2+j - 2=i*2+j by omega,pps_at l i j (by simpa using h) hj]
    rfl
theorem pps_set : ∀ (l : List Pp) (i : Nat) (h : i<l.length) (a : Option Addr) (c : Nat) (r : List R),(pps l).set (i*2) (.slice a r.length c)=pps (l.set i ⟨a,c,r,l[i].e⟩)
  | p::l,0,_,a,c,r=>rfl
  | p::l,i+1,h,a,c,r=>by
    have hi : i<l.length:=Nat.lt_of_succ_lt_succ h
    show (p.cells++pps l).set ((i+1)*2) _=p.cells++pps (l.set i ⟨a,c,r,l[i].e⟩)
    rw [← pps_set l i hi a c r,List.set_append_right _ _ (by show 2≤_;omega)]
    show _++(pps l).set ((i+1)*2 - 2) _=_
    rw [show (i+1)*2 - 2=i*2 by omega]
structure PpOk (w : World) (p : Pp) : Prop where
  row : RowR w p.a p.l
  le : p.l.length≤p.c
  cm : p.c≤maxLen
theorem PpOk.upd {S : Nat→Prop} {w w' : World} {p : Pp} (h : PpOk w p) (hu : Upd S w w') (hn : ∀ q,p.a=some q→0<p.l.length→¬ S q.block) : PpOk w' p:=by
  refine ⟨?_,h.le,h.cm⟩
  rcases Nat.eq_zero_or_pos p.l.length with h0|h0
  · exact ⟨h.row.len,fun i hi=>by omega,h.row.tm⟩
  · exact h.row.kept25 hu fun q hq=>hn q hq h0
theorem PpOk.lt {w : World} {p : Pp} (h : PpOk w p) : ∀ q,p.a=some q→0<p.l.length→q.block<w.heap.size:=by
  intro q hq h0
  obtain ⟨b,off,e,h1,_⟩:=h.row.at_ 0 h0
  rw [e] at hq
  cases hq
  exact h1
structure CrsR (B : Nat) (w : World) (g mb : Nat) (v : Value) (ps : List Pp) (ov : Int→Bool) (m : Nat) : Prop where
  blk : At w g [v,.map (some mb)]
  row : Sl B w 2 v ps.length (pps ps)
  map : MapB w mb m ov
  ok : ∀ p∈ps,PpOk w p
  ap : ∀ p∈ps,∀ q,p.a=some q→0<p.l.length→q.block≠g∧q.block≠mb∧v.ownBlock≠some q.block
  gm : g≠mb
  vg : v.ownBlock≠some g
  vm : v.ownBlock≠some mb
  og : B≤g
  om : B≤mb
  fw : ps.length≤10000
section
variable {B : Nat} {w w' : World} {g mb : Nat} {v : Value} {ps : List Pp} {ov : Int→Bool} {m : Nat}
theorem CrsR.on (h : CrsR B w g mb v ps ov m) (hb : Below w.heap.size w w') : CrsR B w' g mb v ps ov m :=
  ⟨h.blk.on hb,h.row.onW hb,h.map.on hb,fun p hp=>(h.ok p hp).upd (S:=fun k=>w.heap.size≤k) (Upd.of_below hb (fun _ _ h=>h)) (fun q hq h0=>by have:=(h.ok p hp).lt q hq h0;omega),h.ap,h.gm,h.vg,h.vm,h.og,h.om,h.fw⟩
theorem CrsR.part (h : CrsR B w g mb v ps ov m) (i : Nat) (hi : i<ps.length) : ∃ b off c,v = .slice (some ⟨b,off,none⟩) ps.length c∧b<w.heap.size∧b≠g∧b≠mb∧B≤b∧w.cell? ⟨b,off+i*2,none⟩=some (.slice ps[i].a ps[i].l.length ps[i].c)∧w.cell? ⟨b,off+i*2+1,none⟩=some (.int .i64 (ps[i].e : Int))∧w.frozen? ⟨b,off+i*2,none⟩=false:=by
  rcases h.row.2 with ⟨h1,h2⟩|⟨b,off,c,rfl,h2,h3,h4,h5,h6,h7⟩
  · omega
  · refine ⟨b,off,c,rfl,h3,fun e=>h.vg (by rw [e];rfl),fun e=>h.vm (by rw [e];rfl),h2,?_,?_,(h7 _ (by omega)).2⟩
    · rw [h6 (i*2) (by omega)]
      have:=pps_at ps i 0 hi (by omega)
      rw [Nat.add_zero] at this
      rw [this];rfl
    · rw [Nat.add_assoc,h6 (i*2+1) (by omega),pps_at ps i 1 hi (by omega)];rfl
theorem CrsR.less {b off c : Nat} (h : CrsR B w g mb (.slice (some ⟨b,off,none⟩) ps.length c) ps ov m) (i : Nat) (hi : i<ps.length) (a' : Option Addr) (c' : Nat) (r : List R) (hr : RowR w a' r) (hle : r.length≤c') (hcm : c'≤maxLen) (hap : ∀ q,a'=some q→0<r.length→∃ q0,ps[i].a=some q0∧0<ps[i].l.length∧q0.block=q.block) :
    CrsR B (w.setCell ⟨b,off+i*2,none⟩ (.slice a' r.length c')) g mb (.slice (some ⟨b,off,none⟩) ps.length c) (ps.set i ⟨a',c',r,ps[i].e⟩) ov m∧Upd (fun k=>k=b) w (w.setCell ⟨b,off+i*2,none⟩ (.slice a' r.length c')):=by
  have hu : Upd (fun k=>k=b) w (w.setCell ⟨b,off+i*2,none⟩ (.slice a' r.length c')):=(Upd.refl (fun k=>k=b) w).setCell (p:=⟨b,off+i*2,none⟩) (fun _=>rfl) _
  have hbg : b≠g:=fun e=>h.vg (by rw [e];rfl)
  have hbm : b≠mb:=fun e=>h.vm (by rw [e];rfl)
  have hapn : ∀ q,a'=some q→0<r.length→q.block≠g∧q.block≠mb∧(Value.slice (some ⟨b,off,none⟩) ps.length c).ownBlock≠some q.block:=by
    intro q hq h0
    obtain ⟨q0,e1,e2,e3⟩:=hap q hq h0
    rw [← e3]
    exact h.ap _ (List.getElem_mem hi) q0 e1 e2
  have hl : (ps.set i ⟨a',c',r,ps[i].e⟩).length=ps.length:=List.length_set
  refine ⟨⟨h.blk.upd hu (fun e=>hbg e.symm),?_,h.map.upd hu (fun e=>hbm e.symm),fun p hp=>?_,fun p hp=>?_,h.gm,h.vg,h.vm,h.og,h.om,by rw [hl];exact h.fw⟩,hu⟩
  · rw [hl,← pps_set ps i hi a' c' r]
    exact h.row.put (i*2) _ (by omega)
  · rcases List.mem_or_eq_of_mem_set hp with hp|rfl
    · exact (h.ok p hp).upd hu fun q hq h0 e=>(h.ap p hp q hq h0).2.2 (by rw [e];rfl)
    · exact PpOk.upd (p:=⟨a',c',r,ps[i].e⟩) ⟨hr,hle,hcm⟩ hu fun q hq h0 e=>(hapn q hq h0).2.2 (by rw [e];rfl)
  · rcases List.mem_or_eq_of_mem_set hp with hp|rfl
    · exact h.ap p hp
    · exact hapn
theorem CrsR.put (h : CrsR B w g mb v ps ov m) (i : Int) (hi : -9223372036854775808≤i∧i≤9223372036854775807) (hm : m<maxLen) :
    ∃ w',(Instr.mapUpdate 200 (.map (some mb)) (.int .i64 i) (.bool true)).run Tryz.prog w = .ok () w'∧CrsR B w' g mb v ps (putI ov i) (m+1)∧Upd (fun k=>k=mb) w w':=by
  obtain ⟨w',hrun,r1,hu⟩:=h.map.put hm i hi
  exact ⟨w',hrun,⟨h.blk.upd hu h.gm,h.row.upd hu (fun k hk e=>h.vm (by rw [hk,e])),r1,fun p hp=>(h.ok p hp).upd hu (fun q hq h0 e=>(h.ap p hp q hq h0).2.1 e),h.ap,h.gm,h.vg,h.vm,h.og,h.om,h.fw⟩,hu⟩
end
structure CrsC (B : Nat) (w : World) (g : Nat) (n : Nat) (er : Nat→Nat) (c : Crs) (m mb : Nat) (v : Value) (ps : List Pp) : Prop where
  raw : CrsR B w g mb v ps c.over m
  n : ps.length=n
  left : ∀ i (h : i<ps.length),c.left i=ps[i].l
  er : ∀ i (h : i<ps.length),er i=ps[i].e
theorem CrsC.on {B : Nat} {w w' : World} {g n : Nat} {er : Nat→Nat} {c : Crs} {m mb : Nat} {v : Value} {ps : List Pp} (h : CrsC B w g n er c m mb v ps) (hb : Below w.heap.size w w') : CrsC B w' g n er c m mb v ps:=⟨h.raw.on hb,h.n,h.left,h.er⟩
theorem recs_tail {P : Program} {a : Option Addr} {n c : Nat} {t e : TypeId} (hc : n≤c) (hm : c≤maxLen) (ht : P.underlying t=some (.slice e)) (hz : ∀ w,(Go.sizeOf e).run P w = .ok 3 w) (hn : 1≤n) :
    ∃ a' c',(∀ w',(Instr.slice t (.slice a n c) (some (.int .i64 1)) none none).run P w' = .ok (.slice a' (n - 1) c') w')∧n - 1≤c'∧c'≤maxLen∧(∀ w' rs,rs.length=n→RowR w' a rs→RowR w' a' rs.tail)∧∀ q,a'=some q→∃ q0,a=some q0∧q0.block=q.block:=by
  have ht' : P.underlying t=some (.slice (P.elem t)):=by simp [Program.elem,ht]
  have he : P.elem t=e:=by simp [Program.elem,ht]
  unfold maxLen at hm
  refine ⟨if c=1 then a else a.map (·.add 3),c - 1,fun w'=>?_,by omega,by unfold maxLen;omega,fun w' rs hw h'=>?_,fun q hq=>?_⟩
  · have:=run_slice_l (P:=P) w' t a n c ht' .i64 (1 : Int) (by omega) (by omega)
    rw [he,hz] at this
    rw [this]
    simp only [Result.andThen,sliced]
    rfl
  · refine ⟨by rw [List.length_tail];have:=h'.len;omega,fun i hi'=>?_,fun r hr=>h'.tm r (List.mem_of_mem_tail hr)⟩
    rw [List.length_tail] at hi'
    obtain ⟨b,off,rfl,hb,c0,c1,c2⟩:=h'.at_ (i+1) (by omega)
    refine ⟨b,off+3,?_,hb,?_⟩
    · rw [if_neg (by omega)]
      show some ((Addr.mk b off none).add 3)=_
      rw [Addr.add_lit]
    · rw [List.getElem_tail,show off+3+i*3=off+(i+1)*3 by omega]
      exact ⟨c0,c1,c2⟩
  · split at hq
    · exact ⟨q,hq,rfl⟩
    · cases a with
      | none=>cases hq
      | some q0 =>
        refine ⟨q0,rfl,?_⟩
        have : q0.add 3=q:=by simpa using hq
        rw [← this]
        obtain ⟨b,off,sp⟩:=q0
        rfl
theorem risesAt_drop (m : Int) (l : List Ev) (k : Nat) (h : k<l.length) (e : Ev) (he : l[k]=e) : risesAt m (l.drop k)=risesAt m (e::l.drop (k+1)):=by
  rw [List.drop_eq_getElem_cons h,he]
theorem taggedAt_drop (m : Int) (l : List Ev) (k : Nat) (h : k<l.length) (e : Ev) (he : l[k]=e) : taggedAt m (l.drop k)=taggedAt m (e::l.drop (k+1)):=by
  rw [List.drop_eq_getElem_cons h,he]
theorem ju_rises (a : Option Addr) (n c : Nat) (l : List Ev) (w : World) (hr : RowE w a l) (hn : n=l.length) (hl : n≤1000000) (z : Bool) (hz : risesAt (-9223372036854775808) l=z) :
    Calls Tryz.prog 30 #[.slice a n c] w fun e w'=>e = .returned (.bool z)∧Below w.heap.size w w':=by
  have HN:=Lib.hid hn
  have HZ : Hid (risesAt (-9223372036854775808) (l.drop 0)=z):=hz
  clear hn hz
  go_enter Tryz.func30,Tryz.ntmps30
  go_wp2
  go_loopw [3,10] (fun v i wr=>∃ (k : Nat) (m : Int),i = .int .i64 k∧k≤n∧v = .int .i64 m∧Hid (risesAt m (l.drop k)=z)∧Below w.heap.size w wr) (fun _ i _=>n - (intOf i).toNat)
  case atStart=>exact ⟨0,_,rfl,Nat.zero_le _,rfl,HZ,Below.refl _ _⟩
  case round =>
    clear HZ
    obtain ⟨k,m,rfl,hk,rfl,HZ,hb⟩:=hrel
    by_cases hlt : k<n
    · have hk1 : k<l.length:=by rw [← HN.out];exact hlt
      obtain ⟨b,off,rfl,hbl,q0⟩:=(hr.on hb).at_ k hk1
      have hd:=fun e he=>risesAt_drop m l k hk1 e he
      generalize hev : l[k]=ev at *
      have hwB:=hb.size
      have HD:=Lib.hid ((hd ev rfl).symm.trans HZ.out)
      clear hd hev HZ
      cases ev with
      | mark x =>
        have t1:=ta_m_yes x
        simp only [evv] at q0
        by_cases hx : x≤m
        · have hz0 : z=false:=by
            have h : (decide (m<x) && risesAt x (l.drop (k+1)))=z:=HD.out
            rw [decide_eq_false (by omega)] at h
            exact h.symm
          subst hz0
          go_wp2
          go_ret
          exact ⟨rfl,hb.alloc hwB _⟩
        · have HD2 : Hid (risesAt x (l.drop (k+1))=z):=by
            have h : (decide (m<x) && risesAt x (l.drop (k+1)))=z:=HD.out
            rw [decide_eq_true (by omega),Bool.true_and] at h
            exact h
          clear HD
          go_wp2
          go_roundw
          case rel=>exact ⟨k+1,x,by go_num,hlt,rfl,HD2,hb.alloc hwB _⟩
          case measure=>simp [intOf] <;> omega
      | fault p e =>
        have t1:=ta_m_no2 (.agg #[.int .i64 p,.int .i64 e])
        simp only [evv] at q0
        have HD2 : Hid (risesAt m (l.drop (k+1))=z):=HD.out
        clear HD
        go_wp2
        go_roundw
        case rel=>exact ⟨k+1,m,by go_num,hlt,rfl,HD2,hb.alloc hwB _⟩
        case measure=>simp [intOf] <;> omega
      | el late p kk t x =>
        have t1:=ta_m_no1 (.agg #[.int .i64 p,.int .i64 kk,.int .i64 t,.string (bstr x),.bool late])
        simp only [evv] at q0
        have HD2 : Hid (risesAt m (l.drop (k+1))=z):=HD.out
        clear HD
        go_wp2
        go_roundw
        case rel=>exact ⟨k+1,m,by go_num,hlt,rfl,HD2,hb.alloc hwB _⟩
        case measure=>simp [intOf] <;> omega
    · obtain rfl : k=n:=by omega
      have hz1:=HZ.out
      rw [List.drop_of_length_le (by rw [← HN.out];exact Nat.le_refl _)] at hz1
      obtain rfl : z=true:=hz1.symm
      go_wp2
      go_ret
      exact ⟨rfl,hb⟩
theorem ju_tagged (a : Option Addr) (n c : Nat) (l : List Ev) (w : World) (hr : RowE w a l) (hn : n=l.length) (hl : n≤1000000) (z : Bool) (hz : taggedAt (-9223372036854775808) l=z) :
    Calls Tryz.prog 31 #[.slice a n c] w fun e w'=>e = .returned (.bool z)∧Below w.heap.size w w':=by
  have HN:=Lib.hid hn
  have HZ : Hid (taggedAt (-9223372036854775808) (l.drop 0)=z):=hz
  clear hn hz
  go_enter Tryz.func31,Tryz.ntmps31
  go_wp2
  go_loopw [3,10] (fun v i wr=>∃ (k : Nat) (m : Int),i = .int .i64 k∧k≤n∧v = .int .i64 m∧Hid (taggedAt m (l.drop k)=z)∧Below w.heap.size w wr) (fun _ i _=>n - (intOf i).toNat)
  case atStart=>exact ⟨0,_,rfl,Nat.zero_le _,rfl,HZ,Below.refl _ _⟩
  case round =>
    clear HZ
    obtain ⟨k,m,rfl,hk,rfl,HZ,hb⟩:=hrel
    by_cases hlt : k<n
    · have hk1 : k<l.length:=by rw [← HN.out];exact hlt
      obtain ⟨b,off,rfl,hbl,q0⟩:=(hr.on hb).at_ k hk1
      have hd:=fun e he=>taggedAt_drop m l k hk1 e he
      generalize hev : l[k]=ev at *
      have hwB:=hb.size
      have HD:=Lib.hid ((hd ev rfl).symm.trans HZ.out)
      clear hd hev HZ
      cases ev with
      | mark x =>
        have t1:=ta_m_yes x
        simp only [evv] at q0
        have HD2 : Hid (taggedAt x (l.drop (k+1))=z):=HD.out
        clear HD
        go_wp2
        go_roundw
        case rel=>exact ⟨k+1,x,by go_num,hlt,rfl,HD2,hb.alloc hwB _⟩
        case measure=>simp [intOf] <;> omega
      | fault p e =>
        have t1:=ta_m_no2 (.agg #[.int .i64 p,.int .i64 e])
        have t2:=ta_e_no2 (.agg #[.int .i64 p,.int .i64 e])
        simp only [evv] at q0
        have HD2 : Hid (taggedAt m (l.drop (k+1))=z):=HD.out
        clear HD
        go_wp2
        go_roundw
        case rel=>exact ⟨k+1,m,by go_num,hlt,rfl,HD2,hb⟩
        case measure=>simp [intOf] <;> omega
      | el late p kk t x =>
        have t1:=ta_m_no1 (.agg #[.int .i64 p,.int .i64 kk,.int .i64 t,.string (bstr x),.bool late])
        have t2:=ta_e_yes p kk t (bstr x) late
        simp only [evv] at q0
        by_cases hm : m = -9223372036854775808
        · have HD2 : Hid (((late == false) && taggedAt m (l.drop (k+1)))=z):=by
            have h : ((late == lateT m t) && taggedAt m (l.drop (k+1)))=z:=HD.out
            rw [show lateT m t=false from decide_eq_false (fun h=>h.1 hm)] at h
            exact h
          clear HD
          subst hm
          cases late
          · have HD3 : Hid (taggedAt (-9223372036854775808) (l.drop (k+1))=z):=HD2.out
            clear HD2
            go_wp2
            go_roundw
            case rel=>exact ⟨k+1,_,by go_num,hlt,rfl,HD3,hb.alloc hwB _⟩
            case measure=>simp [intOf] <;> omega
          · obtain rfl : z=false:=HD2.out.symm
            go_wp2
            go_ret
            exact ⟨rfl,hb.alloc hwB _⟩
        · have hmb : (m != -9223372036854775808)=true:=by rw [bne_iff_ne];exact hm
          by_cases ht : t≤m
          · have HD2 : Hid (((late == true) && taggedAt m (l.drop (k+1)))=z):=by
              have h : ((late == lateT m t) && taggedAt m (l.drop (k+1)))=z:=HD.out
              rw [show lateT m t=true from decide_eq_true ⟨hm,ht⟩] at h
              exact h
            clear HD
            cases late
            · obtain rfl : z=false:=HD2.out.symm
              go_wp2
              go_ret
              exact ⟨rfl,hb.alloc hwB _⟩
            · have HD3 : Hid (taggedAt m (l.drop (k+1))=z):=HD2.out
              clear HD2
              go_wp2
              go_roundw
              case rel=>exact ⟨k+1,_,by go_num,hlt,rfl,HD3,hb.alloc hwB _⟩
              case measure=>simp [intOf] <;> omega
          · have HD2 : Hid (((late == false) && taggedAt m (l.drop (k+1)))=z):=by
              have h : ((late == lateT m t) && taggedAt m (l.drop (k+1)))=z:=HD.out
              rw [show lateT m t=false from decide_eq_false (fun h=>ht h.2)] at h
              exact h
            clear HD
            cases late
            · have HD3 : Hid (taggedAt m (l.drop (k+1))=z):=HD2.out
              clear HD2
              go_wp2
              go_roundw
              case rel=>exact ⟨k+1,_,by go_num,hlt,rfl,HD3,hb.alloc hwB _⟩
              case measure=>simp [intOf] <;> omega
            · obtain rfl : z=false:=HD2.out.symm
              go_wp2
              go_ret
              exact ⟨rfl,hb.alloc hwB _⟩
    · obtain rfl : k=n:=by omega
      have hz1:=HZ.out
      rw [List.drop_of_length_le (by rw [← HN.out];exact Nat.le_refl _)] at hz1
      obtain rfl : z=true:=hz1.symm
      go_wp2
      go_ret
      exact ⟨rfl,hb⟩
theorem lates_take (l : List Ev) (k : Nat) (h : k<l.length) : lates (l.take (k+1))=lates (l.take k)+(if Ev.lateB l[k] then 1 else 0):=by
  rw [List.take_succ_eq_append_getElem h,lates_append]
  congr 1
  unfold lates
  generalize l[k]=v
  cases he : Ev.lateB v <;> simp [he]
theorem ju_lates (a : Option Addr) (n c : Nat) (l : List Ev) (w : World) (hr : RowE w a l) (hn : n=l.length) (hl : n≤1000000) (z : Nat) (hz : lates l=z) :
    Calls Tryz.prog 35 #[.slice a n c] w fun e w'=>e = .returned (.int .i64 (z : Int))∧Below w.heap.size w w':=by
  have HN:=Lib.hid hn
  have HZ:=Lib.hid hz
  clear hn hz
  go_enter Tryz.func35,Tryz.ntmps35
  go_wp2
  go_loopw [3,10] (fun v i wr=>∃ (k m : Nat),i = .int .i64 k∧k≤n∧v = .int .i64 m∧Hid (lates (l.take k)=m)∧Below w.heap.size w wr) (fun _ i _=>n - (intOf i).toNat)
  case atStart=>exact ⟨0,0,rfl,Nat.zero_le _,rfl,rfl,Below.refl _ _⟩
  case round =>
    obtain ⟨k,m,rfl,hk,rfl,HM,hb⟩:=hrel
    by_cases hlt : k<n
    · have hk1 : k<l.length:=by rw [← HN.out];exact hlt
      obtain ⟨b,off,rfl,hbl,q0⟩:=(hr.on hb).at_ k hk1
      have hd:=lates_take l k hk1
      have hmk : m≤k:=by have:=lates_le (l.take k);rw [HM.out,List.length_take] at this;omega
      rw [HM.out] at hd
      generalize hev : l[k]=ev at *
      have hwB:=hb.size
      clear HM hev
      cases ev with
      | mark x =>
        have t1:=ta_e_no1 (.agg #[.int .i64 x])
        simp only [evv] at q0
        have HD2 : Hid (lates (l.take (k+1))=m):=hd
        clear hd
        go_wp2
        go_roundw
        case rel=>exact ⟨k+1,m,by go_num,hlt,rfl,HD2,hb.alloc hwB _⟩
        case measure=>simp [intOf] <;> omega
      | fault p e =>
        have t1:=ta_e_no2 (.agg #[.int .i64 p,.int .i64 e])
        simp only [evv] at q0
        have HD2 : Hid (lates (l.take (k+1))=m):=hd
        clear hd
        go_wp2
        go_roundw
        case rel=>exact ⟨k+1,m,by go_num,hlt,rfl,HD2,hb.alloc hwB _⟩
        case measure=>simp [intOf] <;> omega
      | el late p kk t x =>
        have t1:=ta_e_yes p kk t (bstr x) late
        simp only [evv] at q0
        cases late
        · have HD2 : Hid (lates (l.take (k+1))=m):=hd
          clear hd
          go_wp2
          go_roundw
          case rel=>exact ⟨k+1,m,by go_num,hlt,rfl,HD2,hb.alloc hwB _⟩
          case measure=>simp [intOf] <;> omega
        · have HD2 : Hid (lates (l.take (k+1))=m+1):=hd
          clear hd
          go_wp2
          go_roundw
          case rel=>exact ⟨k+1,m+1,by go_num,hlt,by go_num,HD2,hb.alloc hwB _⟩
          case measure=>simp [intOf] <;> omega
    · obtain rfl : k=n:=by omega
      have hz1:=HM.out
      rw [List.take_of_length_le (by rw [← HN.out];exact Nat.le_refl _),HZ.out] at hz1
      subst hz1
      clear HM HZ
      go_wp2
      go_ret
      exact ⟨rfl,hb⟩
theorem co_goes {B : Nat} {w : World} {g n : Nat} {er : Nat→Nat} {c : Crs} {m mb : Nat} {v : Value} {ps : List Pp} (h : CrsC B w g n er c m mb v ps) (i : Int) (o : Bool) (ho : c.goesOn n i=o) :
    Calls Tryz.prog 187 #[.pointer (some ⟨g,0,none⟩),.int .i64 i] w fun e w'=>e = .returned (.bool o)∧w=w':=by
  obtain ⟨hg,c0,z0,c1,z1⟩:=h.raw.blk.two
  obtain ⟨a,cp,hv⟩:=h.raw.row.shape
  have hn:=h.n
  have hf:=h.raw.fw
  subst hv
  rw [hn] at c0 hf
  unfold Crs.goesOn at ho
  by_cases h0 : 0≤i
  · by_cases h1 : i<n
    · rw [decide_eq_true ⟨h0,h1⟩,Bool.true_and] at ho
      have hl:=h.raw.map.look i (by omega) (!o) (by rw [← ho,Bool.not_not])
      clear ho hn h
      go_enter Tryz.func187,Tryz.ntmps187
      go_wp2
      go_ret
      exact ⟨by simp,rfl⟩
    · rw [decide_eq_false (by omega),Bool.false_and] at ho
      subst ho
      clear hn h
      go_enter Tryz.func187,Tryz.ntmps187
      go_wp2
      go_ret
      exact ⟨rfl,rfl⟩
  · rw [decide_eq_false (by omega),Bool.false_and] at ho
    subst ho
    clear hn h
    go_enter Tryz.func187,Tryz.ntmps187
    go_wp2
    go_ret
    exact ⟨rfl,rfl⟩
def ElPost25 (B g n : Nat) (er : Nat→Nat) (m : Nat) (b : Bool) (c : Crs) (w : World) (e : Ending) (w' : World) : Prop :=
  e = .returned (.bool b)∧Below B w w'∧(b=true→∃ mb v ps,CrsC B w' g n er c m mb v ps)
theorem goes_lt {c : Crs} {n : Nat} {i : Int} (h : c.goesOn n i=true) : 0≤i∧i.toNat<n:=by
  unfold Crs.goesOn at h
  rw [Bool.and_eq_true,decide_eq_true_iff] at h
  omega
theorem CrsC.went {B : Nat} {w : World} {g n : Nat} {er : Nat→Nat} {c : Crs} {m mb b off cp : Nat} {ps : List Pp} (h : CrsC B w g n er c m mb (.slice (some ⟨b,off,none⟩) ps.length cp) ps) (i : Nat) (q : Pp) (hq : ∃ hip : i<ps.length,ps[i]=q) (a' : Option Addr) (c' : Nat) (r : List R) (hr : q.l.tail=r) (hrow : RowR w a' r) (hle : r.length≤c') (hcm : c'≤maxLen) (hap : ∀ p,a'=some p→∃ p0,q.a=some p0∧p0.block=p.block) (N : Nat) (hN : N=r.length) :
    (∃ mb' v' ps',CrsC B (w.setCell ⟨b,off+i*2,none⟩ (.slice a' N c')) g n er (c.el i) m mb' v' ps')∧Below B w (w.setCell ⟨b,off+i*2,none⟩ (.slice a' N c')):=by
  subst hN
  obtain ⟨hip,rfl⟩:=hq
  obtain ⟨b',off',c2,e,hbl,hbg,hbm,hBb,-,-,-⟩:=h.raw.part i hip
  cases e
  obtain ⟨h1,h2⟩:=h.raw.less i hip a' c' r hrow hle hcm (fun p hp h0=>by
    obtain ⟨p0,e1,e2⟩:=hap p hp
    refine ⟨p0,e1,?_,e2⟩
    rw [← hr,List.length_tail] at h0
    omega)
  have hl : (ps.set i ⟨a',c',r,ps[i].e⟩).length=ps.length:=List.length_set
  refine ⟨⟨mb,_,_,⟨h1,by rw [hl];exact h.n,fun j hj=>?_,fun j hj=>?_⟩⟩,(Below.refl B w).upd h2 (Nat.le_trans h.raw.og (Nat.le_of_lt h.raw.blk.1)) (fun k _ e=>by rw [e];exact hBb)⟩
  · rw [hl] at hj
    show put c.left (i : Int).toNat (c.left (i : Int).toNat).tail j=_
    rw [Int.toNat_natCast,List.getElem_set]
    unfold PTree.put
    by_cases e : i=j
    · subst e
      rw [if_pos rfl,if_pos rfl,h.left i hip]
      exact hr
    · rw [if_neg (fun h=>e h.symm),if_neg e]
      exact h.left j hj
  · rw [hl] at hj
    rw [List.getElem_set]
    by_cases e : i=j
    · subst e
      rw [if_pos rfl];exact h.er i hip
    · rw [if_neg e];exact h.er j hj
theorem co_element {B : Nat} {w : World} {g n : Nat} {er : Nat→Nat} {c : Crs} {m mb : Nat} {v : Value} {ps : List Pp} (h : CrsC B w g n er c m mb v ps) (late : Bool) (p k t : Int) (x : List UInt8) (o : Bool) (ho : c.mayE n p (k,t,x)=o) :
    Calls Tryz.prog 129 #[.pointer (some ⟨g,0,none⟩),.agg #[.int .i64 p,.int .i64 k,.int .i64 t,.string (bstr x),.bool late]] w (ElPost25 B g n er m o (c.el p) w):=by
  have hBw : B≤w.heap.size:=Nat.le_trans h.raw.og (Nat.le_of_lt h.raw.blk.1)
  have hb0 : Below w.heap.size w (w.alloc (.cells #[.int .i64 p,.int .i64 k,.int .i64 t,.string (bstr x),.bool late] 130)):=(Below.refl _ _).alloc (Nat.le_refl _) _
  have h2:=h.on hb0
  have hA:=At.alloc w [.int .i64 p,.int .i64 k,.int .i64 t,.string (bstr x),.bool late] 130
  cases hgo : c.goesOn n p
  · have ho2 : o=false:=by
      unfold Crs.mayE at ho
      rw [hgo,Bool.false_and] at ho
      exact ho.symm
    subst ho2
    have HG:=Lib.hid (co_goes h2 p false hgo)
    go_enter Tryz.func129,Tryz.ntmps129
    go_wp2_with (go_at_call 187;(with_reducible refine HG.out.mono ?_);rintro e w' ⟨rfl,rfl⟩)
    go_ret
    exact ⟨rfl,(Below.refl B w).alloc hBw _,fun h=>by cases h⟩
  · obtain ⟨p0,pn⟩:=goes_lt hgo
    obtain ⟨i,rfl⟩ : ∃ i : Nat,p=(i : Int):=⟨p.toNat,by omega⟩
    rw [Int.toNat_natCast] at pn
    have hip : i<ps.length:=by rw [h.n];exact pn
    obtain ⟨b,off,cp,rfl,hbl,hbg,hbm,hBb,r0,r1,rz⟩:=h2.raw.part i hip
    have HG:=Lib.hid (co_goes h2 (i : Int) true hgo)
    have hpok:=h2.raw.ok _ (List.getElem_mem hip)
    have hap:=h2.raw.ap _ (List.getElem_mem hip)
    have hn:=h.n
    have hfw:=h.raw.fw
    obtain ⟨hg,c0,z0,c1,z1⟩:=h2.raw.blk.two
    have hmay : o=decide ((c.left i).head? = some (k,t,x)):=by
      unfold Crs.mayE at ho
      rw [hgo,Bool.true_and,Int.toNat_natCast] at ho
      exact ho.symm
    rw [h.left i hip] at hmay
    obtain ⟨q,hq⟩ : ∃ q,ps[i]=q:=⟨_,rfl⟩
    rw [hq] at hmay hpok hap r0 r1
    have HQ : Hid (∃ hip : i<ps.length,ps[i]=q):=⟨hip,hq⟩
    have HO:=Lib.hid hmay
    have HC:=Lib.hid h2
    rw [hn] at c0 hfw
    clear hmay ho h h2 hq hip hn p0 hgo
    obtain ⟨qa,qc,ql,qe⟩:=q
    simp only at r0 r1 hap
    cases ql with
    | nil =>
      have ho2 : o=false:=by rw [HO.out];rfl
      subst ho2
      simp only [List.length_nil] at r0
      go_enter Tryz.func129,Tryz.ntmps129
      go_wp2_with (go_at_call 187;(with_reducible refine HG.out.mono ?_);rintro e w' ⟨rfl,rfl⟩)
      go_region
      go_wp2
      go_region
      go_wp2
      go_ret
      exact ⟨rfl,(((Below.refl B w).alloc hBw _).drew).drew,fun h=>by cases h⟩
    | cons r l' =>
      obtain ⟨rk,rt,rx⟩:=r
      obtain ⟨b2,o2,hqa,hb2,s0,s1,s2⟩:=hpok.row.at_ 0 (by simp)
      have hqa2 : qa=some ⟨b2,o2,none⟩:=hqa
      subst hqa2
      have hlen : (⟨some ⟨b2,o2,none⟩,qc,(rk,rt,rx)::l',qe⟩ : Pp).l.length=l'.length+1:=rfl
      rw [hlen] at r0
      rw [Nat.zero_mul,Nat.add_zero] at s0 s1 s2
      have s0 : (w.alloc (.cells #[.int .i64 (i : Int),.int .i64 k,.int .i64 t,.string (bstr x),.bool late] 130)).cell? ⟨b2,o2,none⟩=some (.int .i64 rk):=s0
      have s1 : (w.alloc (.cells #[.int .i64 (i : Int),.int .i64 k,.int .i64 t,.string (bstr x),.bool late] 130)).cell? ⟨b2,o2+1,none⟩=some (.int .i64 rt):=s1
      have s2 : (w.alloc (.cells #[.int .i64 (i : Int),.int .i64 k,.int .i64 t,.string (bstr x),.bool late] 130)).cell? ⟨b2,o2+2,none⟩=some (.string (bstr rx)):=s2
      have hll:=hpok.row.len
      have hle:=hpok.le
      have hcm:=hpok.cm
      rw [hlen] at hll hle
      obtain ⟨a',c',hrun,g1,g2,g3,g4⟩:=recs_tail (P:=Tryz.prog) (a:=some ⟨b2,o2,none⟩) (n:=l'.length+1) (c:=qc) (t:=60) (e:=54) hle hcm Tryz.underlying60 (by intro w;kernel_rfl) (by omega)
      have hrow:=g3 _ ((rk,rt,rx)::l') rfl hpok.row
      have hO2 : o=decide ((rk,rt,rx)=(k,t,x)):=by rw [HO.out];simp
      clear HO hlen hap
      have hNN : l'.length+1 - 1=l'.length:=by omega
      rw [hNN] at hrun
      have hgd : ((l'.length : Int)+1 == 0)=false:=by simp;omega
      by_cases e1 : rk=k
      · by_cases e2 : rt=t
        · by_cases e3 : rx=x
          · obtain rfl : o=true:=by rw [hO2,e1,e2,e3];simp
            have HRow:=Lib.hid hrow
            have HG4:=Lib.hid g4
            subst e1 e2 e3
            clear hO2 hrow g3 g4 hNN
            go_enter Tryz.func129,Tryz.ntmps129
            go_wp2_with (go_at_call 187;(with_reducible refine HG.out.mono ?_);rintro e w' ⟨rfl,rfl⟩)
            go_region
            go_wp2
            go_region
            go_wp2
            go_ret
            have hbd : Below (w.alloc (.cells #[.int .i64 (i : Int),.int .i64 rk,.int .i64 rt,.string (bstr rx),.bool late] 130)).heap.size (w.alloc (.cells #[.int .i64 (i : Int),.int .i64 rk,.int .i64 rt,.string (bstr rx),.bool late] 130)) ((w.alloc (.cells #[.int .i64 (i : Int),.int .i64 rk,.int .i64 rt,.string (bstr rx),.bool late] 130)).drew).drew:=((Below.refl _ _).drew).drew
            obtain ⟨t1,t2⟩:=(HC.out.on hbd).went i _ HQ.out a' c' l' rfl (HRow.out.on hbd) (by omega) g2 (fun p hp=>HG4.out p hp) l'.length rfl
            exact ⟨rfl,((((Below.refl B w).alloc hBw _).drew).drew).trans t2,fun _=>t1⟩
          · clear hrow g3 g4 hNN
            obtain rfl : o=false:=by rw [hO2];exact decide_eq_false (fun h=>e3 (by simp at h;exact h.2.2))
            clear hO2
            go_enter Tryz.func129,Tryz.ntmps129
            go_wp2_with (go_at_call 187;(with_reducible refine HG.out.mono ?_);rintro e w' ⟨rfl,rfl⟩)
            go_region
            go_wp2
            go_region
            go_wp2
            go_ret
            exact ⟨rfl,(((Below.refl B w).alloc hBw _).drew).drew,fun h=>by cases h⟩
        · clear hrow g3 g4 hNN
          obtain rfl : o=false:=by rw [hO2];exact decide_eq_false (fun h=>e2 (by simp at h;exact h.2.1))
          clear hO2
          go_enter Tryz.func129,Tryz.ntmps129
          go_wp2_with (go_at_call 187;(with_reducible refine HG.out.mono ?_);rintro e w' ⟨rfl,rfl⟩)
          go_region
          go_wp2
          go_region
          go_wp2
          go_ret
          exact ⟨rfl,(((Below.refl B w).alloc hBw _).drew).drew,fun h=>by cases h⟩
      · clear hrow g3 g4 hNN
        obtain rfl : o=false:=by rw [hO2];exact decide_eq_false (fun h=>e1 (by simp at h;exact h.1))
        clear hO2
        go_enter Tryz.func129,Tryz.ntmps129
        go_wp2_with (go_at_call 187;(with_reducible refine HG.out.mono ?_);rintro e w' ⟨rfl,rfl⟩)
        go_region
        go_wp2
        go_region
        go_wp2
        go_ret
        exact ⟨rfl,(((Below.refl B w).alloc hBw _).drew).drew,fun h=>by cases h⟩
theorem CrsC.fell {B : Nat} {w : World} {g n : Nat} {er : Nat→Nat} {c : Crs} {m mb : Nat} {v : Value} {ps : List Pp} (h : CrsC B w g n er c m mb v ps) (i : Int) (hi : -9223372036854775808≤i∧i≤9223372036854775807) (hm : m<maxLen) :
    ∃ w',(Instr.mapUpdate 200 (.map (some mb)) (.int .i64 i) (.bool true)).run Tryz.prog w = .ok () w'∧CrsC B w' g n er (c.fl i) (m+1) mb v ps∧Below B w w':=by
  obtain ⟨w',h1,h2,h3⟩:=h.raw.put i hi hm
  exact ⟨w',h1,⟨h2,h.n,h.left,h.er⟩,(Below.refl B w).upd h3 (Nat.le_trans h.raw.og (Nat.le_of_lt h.raw.blk.1)) (fun k _ e=>by rw [e];exact h.raw.om)⟩
theorem co_fault {B : Nat} {w : World} {g n : Nat} {er : Nat→Nat} {c : Crs} {m mb : Nat} {v : Value} {ps : List Pp} (h : CrsC B w g n er c m mb v ps) (p f : Int) (hm : m<1000000) (o : Bool) (ho : c.mayF n er p f=o) :
    Calls Tryz.prog 130 #[.pointer (some ⟨g,0,none⟩),.agg #[.int .i64 p,.int .i64 f]] w (ElPost25 B g n er (m+1) o (c.fl p) w):=by
  have hBw : B≤w.heap.size:=Nat.le_trans h.raw.og (Nat.le_of_lt h.raw.blk.1)
  have hb0 : Below w.heap.size w (w.alloc (.cells #[.int .i64 p,.int .i64 f] 127)):=(Below.refl _ _).alloc (Nat.le_refl _) _
  have h2:=h.on hb0
  have hA:=At.alloc w [.int .i64 p,.int .i64 f] 127
  cases hgo : c.goesOn n p
  · have ho2 : o=false:=by
      unfold Crs.mayF at ho
      rw [hgo,Bool.false_and] at ho
      exact ho.symm
    subst ho2
    have HG:=Lib.hid (co_goes h2 p false hgo)
    go_enter Tryz.func130,Tryz.ntmps130
    go_wp2_with (go_at_call 187;(with_reducible refine HG.out.mono ?_);rintro e w' ⟨rfl,rfl⟩)
    go_ret
    exact ⟨rfl,(Below.refl B w).alloc hBw _,fun h=>by cases h⟩
  · obtain ⟨p0,pn⟩:=goes_lt hgo
    obtain ⟨i,rfl⟩ : ∃ i : Nat,p=(i : Int):=⟨p.toNat,by omega⟩
    rw [Int.toNat_natCast] at pn
    have hip : i<ps.length:=by rw [h.n];exact pn
    obtain ⟨b,off,cp,rfl,hbl,hbg,hbm,hBb,r0,r1,rz⟩:=h2.raw.part i hip
    have HG:=Lib.hid (co_goes h2 (i : Int) true hgo)
    have hpok:=h2.raw.ok _ (List.getElem_mem hip)
    have hn:=h.n
    have hfw:=h.raw.fw
    obtain ⟨hg,c0,z0,c1,z1⟩:=h2.raw.blk.two
    have hmay : o=decide (er i≠0∧(er i : Int)=f∧c.left i=[]):=by
      unfold Crs.mayF at ho
      rw [hgo,Bool.true_and,Int.toNat_natCast] at ho
      exact ho.symm
    rw [h.left i hip,h.er i hip] at hmay
    obtain ⟨q,hq⟩ : ∃ q,ps[i]=q:=⟨_,rfl⟩
    rw [hq] at hmay hpok r0 r1
    have HO:=Lib.hid hmay
    have HC:=Lib.hid h2
    rw [hn] at c0 hfw
    clear hmay ho h h2 hq hip hn p0 hgo
    obtain ⟨qa,qc,ql,qe⟩:=q
    simp only at r0 r1
    have hll:=hpok.row.len
    simp only at hll
    have HO2 : Hid (o=decide (qe≠0∧(qe : Int)=f∧ql.length=0)):=by
      show o=_
      rw [HO.out]
      exact decide_eq_decide.2 (by simp)
    have hll2 : ql.length≤9223372036854775807:=by unfold maxLen at hll;omega
    clear HO hll hpok
    generalize ql.length=N at *
    obtain ⟨w1,hw1⟩ : ∃ w1,w.alloc (.cells #[.int .i64 (i : Int),.int .i64 f] 127)=w1:=⟨_,rfl⟩
    have hbB : Below B w w1:=by rw [← hw1];exact (Below.refl B w).alloc hBw _
    rw [hw1] at HG HC hA c0 c1 r0 r1 hg hbl
    have hbz:=(Below.refl _ w1).alloc (Nat.le_refl _) (.cells #[.slice none 0 0,.int .i64 0] 207)
    have hBw1 : B≤w1.heap.size:=Nat.le_trans hBw hbB.size
    obtain ⟨hA0,a0,-,a1,-⟩:=hA.two
    obtain ⟨-,a2,-,a3,-⟩:=(hA.on hbz).two
    have d0:=cell_kept hbz c0
    have d1:=cell_kept hbz c1
    have d2:=cell_kept hbz r0
    have d3:=cell_kept hbz r1
    have HW1:=Lib.hid hw1
    have HCZ:=Lib.hid (HC.out.on hbz)
    clear hw1 hA hb0 z0 z1 rz hbz
    by_cases e1 : qe=0
    · obtain rfl : o=false:=by rw [HO2.out];exact decide_eq_false (fun h=>h.1 e1)
      subst e1
      clear HO2
      go_enter Tryz.func130,Tryz.ntmps130
      go_wp2_with fail
      rw [HW1.out]
      go_wp2_with (go_at_call 187;(with_reducible refine HG.out.mono ?_);rintro e w' ⟨rfl,rfl⟩)
      go_region
      go_wp2
      go_ret
      exact ⟨rfl,(hbB.alloc hBw1 _).drew,fun h=>by cases h⟩
    · have hqe : ((qe : Int) == 0)=false:=by simp;exact e1
      by_cases e2 : (qe : Int)=f
      · by_cases e3 : N=0
        · obtain rfl : o=true:=by rw [HO2.out];exact decide_eq_true ⟨e1,e2,e3⟩
          subst e3 e2
          clear HO2
          go_enter Tryz.func130,Tryz.ntmps130
          go_wp2_with fail
          rw [HW1.out]
          go_wp2_with (go_at_call 187;(with_reducible refine HG.out.mono ?_);rintro e w' ⟨rfl,rfl⟩)
          go_region
          go_wp2
          have hbe : Below w1.heap.size w1 (w1.alloc (.cells #[.slice qa 0 qc,.int .i64 (qe : Int)] 207)).drew:=((Below.refl _ w1).alloc (Nat.le_refl _) _).drew
          obtain ⟨w2,hw2⟩ : ∃ w2,(w1.alloc (.cells #[.slice qa 0 qc,.int .i64 (qe : Int)] 207)).drew=w2:=⟨_,rfl⟩
          rw [hw2] at hbe ⊢
          have f0:=cell_kept hbe c0
          have f1:=cell_kept hbe c1
          have f2:=cell_kept hbe a0
          obtain ⟨w3,hrun,hC3,hb3⟩:=(HC.out.on (hbe.drew)).fell (i : Int) (by omega) (by unfold maxLen;omega)
          have hbf:=(hbB.trans (hbe.mono hBw1)).trans ((Below.refl B w2).drew.trans hb3)
          clear hw2 hbe HCZ d0 d1 d2 d3
          go_region
          go_wp2
          go_ret
          exact ⟨rfl,hbf,fun _=>⟨_,_,_,hC3⟩⟩
        · obtain rfl : o=false:=by rw [HO2.out];exact decide_eq_false (fun h=>e3 h.2.2)
          subst e2
          have hN0 : (0 : Int)<(N : Int):=by omega
          clear HO2
          go_enter Tryz.func130,Tryz.ntmps130
          go_wp2_with fail
          rw [HW1.out]
          go_wp2_with (go_at_call 187;(with_reducible refine HG.out.mono ?_);rintro e w' ⟨rfl,rfl⟩)
          go_region
          go_wp2
          go_ret
          exact ⟨rfl,(hbB.alloc hBw1 _).drew,fun h=>by cases h⟩
      · obtain rfl : o=false:=by rw [HO2.out];exact decide_eq_false (fun h=>e2 h.2.1)
        clear HO2
        go_enter Tryz.func130,Tryz.ntmps130
        go_wp2_with fail
        rw [HW1.out]
        go_wp2_with (go_at_call 187;(with_reducible refine HG.out.mono ?_);rintro e w' ⟨rfl,rfl⟩)
        go_region
        go_wp2
        go_ret
        exact ⟨rfl,(hbB.alloc hBw1 _).drew,fun h=>by cases h⟩
def FolPost (B g n : Nat) (er : Nat→Nat) (M : Nat) (r : Option Crs) (w : World) (e : Ending) (w' : World) : Prop :=
  e = .returned (.bool r.isSome)∧Below B w w'∧∀ c,r=some c→∃ m mb v ps,m≤M∧CrsC B w' g n er c m mb v ps
theorem all_drop (n : Nat) (er : Nat→Nat) (c : Crs) (l : List Ev) (k : Nat) (h : k<l.length) (e : Ev) (he : l[k]=e) : c.all n er (l.drop k)=(c.one n er e).bind fun c'=>c'.all n er (l.drop (k+1)):=by
  rw [List.drop_eq_getElem_cons h,he,all_cons]
theorem co_follow (w0 w : World) (hb0 : Below w0.heap.size w0 w) (a : Option Addr) (N cp : Nat) (l : List Ev) (hr : RowE w0 a l) (hN : N=l.length) (hl : N≤100000) (g n : Nat) (er : Nat→Nat) (c : Crs) (m mb : Nat) (v : Value) (ps : List Pp) (h : CrsC w0.heap.size w g n er c m mb v ps) (hm : m≤100000) (r : Option Crs) (hres : c.all n er l=r) :
    Calls Tryz.prog 75 #[.pointer (some ⟨g,0,none⟩),.slice a N cp] w (FolPost w0.heap.size g n er (m+N) r w):=by
  have HN:=Lib.hid hN
  have HB0:=Lib.hid hb0
  have HZ : Hid (c.all n er (l.drop 0)=r):=hres
  clear hN hres hb0
  go_enter Tryz.func75,Tryz.ntmps75
  go_wp2
  go_loopw [7,12] (fun _ i wr=>∃ (k : Nat) (c : Crs) (m2 mb : Nat) (v : Value) (ps : List Pp),i = .int .i64 k∧k≤N∧CrsC w0.heap.size wr g n er c m2 mb v ps∧m2≤m+k∧Hid (c.all n er (l.drop k)=r)∧Below w0.heap.size w wr) (fun _ i _=>N - (intOf i).toNat)
  case atStart=>exact ⟨0,c,m,mb,v,ps,rfl,Nat.zero_le _,h,Nat.le_refl _,HZ,Below.refl _ _⟩
  case round =>
    clear HZ h
    obtain ⟨k,c,m2,mb,v,ps,rfl,hk,hC,hm2,HZ,hb⟩:=hrel
    by_cases hlt : k<N
    · have hk1 : k<l.length:=by rw [← HN.out];exact hlt
      obtain ⟨b,off,rfl,hbl,q0⟩:=(hr.on (HB0.out.trans hb)).at_ k hk1
      have hd:=fun e he=>all_drop n er c l k hk1 e he
      generalize hev : l[k]=ev at *
      have hwB:=Nat.le_trans hC.raw.og (Nat.le_of_lt hC.raw.blk.1)
      have HD:=Lib.hid ((hd ev rfl).symm.trans HZ.out)
      have HC:=Lib.hid hC
      clear hd hev HZ hC
      cases ev with
      | mark x =>
        have t1:=ta_e_no1 (.agg #[.int .i64 x])
        have t2:=ta_f_no2 (.agg #[.int .i64 x])
        simp only [evv] at q0
        have HD2 : Hid (c.all n er (l.drop (k+1))=r):=HD.out
        clear HD
        go_wp2
        go_roundw
        case rel=>exact ⟨k+1,c,m2,mb,v,ps,by go_num,hlt,HC.out,by omega,HD2,hb⟩
        case measure=>simp [intOf] <;> omega
      | fault p e =>
        have t1:=ta_e_no2 (.agg #[.int .i64 p,.int .i64 e])
        have t2:=ta_f_yes p e
        simp only [evv] at q0
        have hbx : Below wr.heap.size wr (wr.alloc (.cells #[.int .i64 p,.int .i64 e] 127)):=(Below.refl _ _).alloc (Nat.le_refl _) _
        have hbB : Below w0.heap.size w (wr.alloc (.cells #[.int .i64 p,.int .i64 e] 127)):=hb.alloc hwB _
        cases hmay : c.mayF n er p e
        · have HD2 : Hid (r=none):=by
            have h1 : (if c.mayF n er p e=true then some (c.fl p) else none).bind (fun c'=>c'.all n er (l.drop (k+1)))=r:=HD.out
            rw [hmay] at h1
            exact h1.symm
          have HF:=Lib.hid (co_fault (HC.out.on hbx) p e (by omega) false hmay)
          clear HD hmay
          go_wp2_with (go_at_call 130;(with_reducible refine HF.out.mono ?_);intro e2 w2 hF;obtain ⟨rfl,f1,f2⟩:=hF)
          go_ret
          refine ⟨by rw [HD2.out];rfl,hbB.trans f1,fun c hc=>?_⟩
          rw [HD2.out] at hc
          cases hc
        · have HD2 : Hid ((c.fl p).all n er (l.drop (k+1))=r):=by
            have h1 : (if c.mayF n er p e=true then some (c.fl p) else none).bind (fun c'=>c'.all n er (l.drop (k+1)))=r:=HD.out
            rw [hmay] at h1
            exact h1
          have HF:=Lib.hid (co_fault (HC.out.on hbx) p e (by omega) true hmay)
          clear HD hmay
          go_wp2_with (go_at_call 130;(with_reducible refine HF.out.mono ?_);intro e2 w2 hF;obtain ⟨rfl,f1,f2⟩:=hF;obtain ⟨mb2,v2,ps2,f3⟩:=f2 rfl)
          go_roundw
          case rel=>exact ⟨k+1,c.fl p,m2+1,mb2,v2,ps2,by go_num,hlt,f3,by omega,HD2,hbB.trans f1⟩
          case measure=>simp [intOf] <;> omega
      | el late p kk t x =>
        have t1:=ta_e_yes p kk t (bstr x) late
        simp only [evv] at q0
        have hbx : Below wr.heap.size wr (wr.alloc (.cells #[.int .i64 p,.int .i64 kk,.int .i64 t,.string (bstr x),.bool late] 130)):=(Below.refl _ _).alloc (Nat.le_refl _) _
        have hbB : Below w0.heap.size w (wr.alloc (.cells #[.int .i64 p,.int .i64 kk,.int .i64 t,.string (bstr x),.bool late] 130)):=hb.alloc hwB _
        cases hmay : c.mayE n p (kk,t,x)
        · have HD2 : Hid (r=none):=by
            have h1 : (if c.mayE n p (kk,t,x)=true then some (c.el p) else none).bind (fun c'=>c'.all n er (l.drop (k+1)))=r:=HD.out
            rw [hmay] at h1
            exact h1.symm
          have HF:=Lib.hid (co_element (HC.out.on hbx) late p kk t x false hmay)
          clear HD hmay
          go_wp2_with (go_at_call 129;(with_reducible refine HF.out.mono ?_);intro e2 w2 hF;obtain ⟨rfl,f1,f2⟩:=hF)
          go_ret
          refine ⟨by rw [HD2.out];rfl,hbB.trans f1,fun c hc=>?_⟩
          rw [HD2.out] at hc
          cases hc
        · have HD2 : Hid ((c.el p).all n er (l.drop (k+1))=r):=by
            have h1 : (if c.mayE n p (kk,t,x)=true then some (c.el p) else none).bind (fun c'=>c'.all n er (l.drop (k+1)))=r:=HD.out
            rw [hmay] at h1
            exact h1
          have HF:=Lib.hid (co_element (HC.out.on hbx) late p kk t x true hmay)
          clear HD hmay
          go_wp2_with (go_at_call 129;(with_reducible refine HF.out.mono ?_);intro e2 w2 hF;obtain ⟨rfl,f1,f2⟩:=hF;obtain ⟨mb2,v2,ps2,f3⟩:=f2 rfl)
          go_roundw
          case rel=>exact ⟨k+1,c.el p,m2,mb2,v2,ps2,by go_num,hlt,f3,by omega,HD2,hbB.trans f1⟩
          case measure=>simp [intOf] <;> omega
    · obtain rfl : k=N:=by omega
      have hz1:=HZ.out
      rw [List.drop_of_length_le (by rw [← HN.out];exact Nat.le_refl _)] at hz1
      have HR : Hid (some c=r):=hz1
      clear hz1
      go_wp2
      go_ret
      refine ⟨by rw [← HR.out];rfl,hb,fun c2 hc=>?_⟩
      rw [← HR.out] at hc
      cases hc
      exact ⟨m2,mb,v,ps,hm2,hC⟩
theorem CrsC.more {B : Nat} {w w1 w3 : World} {g n : Nat} {er : Nat→Nat} {c : Crs} {m mb : Nat} {v v' : Value} {ps : List Pp} (h : CrsC B w g n er c m mb v ps) (hb : Below w.heap.size w w1) (p : Pp) (hp : PpOk w1 p) (hpa : ∀ q,p.a=some q→w.heap.size≤q.block) (hcl : c.left n=p.l) (her : er n=p.e) (hfw : n<10000)
    (k1 : Sl B w3 2 v' (n+1) (pps ps++p.cells)) (k2 : Upd (fun k=>v.ownBlock=some k) w1 w3) (k3 : ∀ k,v'.ownBlock=some k→v.ownBlock=some k∨w1.heap.size≤k) :
    CrsC B (w3.setCell ⟨g,0,none⟩ v') g (n+1) er c m mb v' (ps++[p])∧Below B w1 (w3.setCell ⟨g,0,none⟩ v'):=by
  have h1:=h.on hb
  have hg1 : g<w1.heap.size:=h1.raw.blk.1
  have hm1 : mb<w1.heap.size:=h1.raw.map.lt
  have hgv : v'.ownBlock≠some g:=fun e=>(k3 g e).elim h.raw.vg (fun h=>by omega)
  have hmv : v'.ownBlock≠some mb:=fun e=>(k3 mb e).elim h.raw.vm (fun h=>by omega)
  have hu : Upd (fun k=>k=g) w3 (w3.setCell ⟨g,0,none⟩ v'):=(Upd.refl (fun k=>k=g) w3).setCell (p:=⟨g,0,none⟩) (fun _=>rfl) _
  have hn:=h.n
  have hB1 : B≤w1.heap.size:=Nat.le_trans h1.raw.og (Nat.le_of_lt hg1)
  have hbx : Below B w1 w3:=(Below.refl B w1).upd k2 hB1 (fun k hk e=>(h1.raw.row.lt k e).1)
  have hapN : ∀ q,p.a=some q→0<p.l.length→q.block≠g∧q.block≠mb∧v'.ownBlock≠some q.block:=by
    intro q hq h0
    have q1:=hpa q hq
    have q2:=hp.lt q hq h0
    have g0 : g<w.heap.size:=h.raw.blk.1
    have m0 : mb<w.heap.size:=h.raw.map.lt
    refine ⟨by omega,by omega,fun e=>?_⟩
    rcases k3 _ e with h5|h5
    · have:=(h.raw.row.lt _ h5).2;omega
    · omega
  have hapO : ∀ p2∈ps,∀ q,p2.a=some q→0<p2.l.length→q.block≠g∧q.block≠mb∧v'.ownBlock≠some q.block:=by
    intro p2 hp2 q hq h0
    obtain ⟨a1,a2,a3⟩:=h.raw.ap p2 hp2 q hq h0
    refine ⟨a1,a2,fun e=>?_⟩
    rcases k3 _ e with h5|h5
    · exact a3 h5
    · have:=(h1.raw.ok p2 hp2).lt q hq h0;omega
  refine ⟨⟨⟨?_,?_,?_,fun p2 hp2=>?_,fun p2 hp2=>?_,h.raw.gm,hgv,hmv,h.raw.og,h.raw.om,by rw [List.length_append,hn];show n+1≤10000;omega⟩,by rw [List.length_append,hn];rfl,fun i hi=>?_,fun i hi=>?_⟩,hbx.upd hu (Nat.le_trans hB1 hbx.size) (fun k _ e=>by rw [e];exact h.raw.og)⟩
  · exact (h1.raw.blk.upd k2 h.raw.vg).set 0 (by simp) v'
  · rw [List.length_append,hn,pps_snoc]
    exact k1.upd hu (fun k hk e=>hgv (by rw [hk,e]))
  · exact (h1.raw.map.upd k2 h.raw.vm).upd hu (fun e=>h.raw.gm e.symm)
  · rcases List.mem_append.1 hp2 with hp2|hp2
    · exact ((h1.raw.ok p2 hp2).upd k2 (fun q hq h0=>(h.raw.ap p2 hp2 q hq h0).2.2)).upd hu (fun q hq h0 e=>(hapO p2 hp2 q hq h0).1 e)
    · rw [List.mem_singleton.1 hp2]
      refine (hp.upd k2 (fun q hq h0 e=>?_)).upd hu (fun q hq h0 e=>(hapN q hq h0).1 e)
      have q1:=hpa q hq
      have:=(h.raw.row.lt _ e).2
      omega
  · rcases List.mem_append.1 hp2 with hp2|hp2
    · exact hapO p2 hp2
    · rw [List.mem_singleton.1 hp2];exact hapN
  · rw [List.length_append,hn] at hi
    have hi : i<n+1:=hi
    rw [List.getElem_append]
    split
    · next hlt=>exact h.left i hlt
    · next hge =>
      have e : i=n:=by omega
      subst e
      simp [hn];exact hcl
  · rw [List.length_append,hn] at hi
    have hi : i<n+1:=hi
    rw [List.getElem_append]
    split
    · next hlt=>exact h.er i hlt
    · next hge =>
      have e : i=n:=by omega
      subst e
      simp [hn];exact her
def lgsOf (ls : List ByteArray) : List Lg:=(ls.map fun s=>s.data.toList).map lgOf
theorem lgsOf_len (ls : List ByteArray) : (lgsOf ls).length=ls.length:=by unfold lgsOf;rw [List.length_map,List.length_map]
theorem lgsOf_at (ls : List ByteArray) (i : Nat) (hi : i<ls.length) : lgAt (lgsOf ls) i=lgOf ls[i].data.toList:=by
  unfold lgsOf
  rw [lgAt_map (by rw [List.length_map];exact hi),List.getElem_map]
def OpenPost (n : Nat) (er : Nat→Nat) (c : Crs) (w : World) (e : Ending) (w' : World) : Prop:=∃ g mb v ps,e = .returned (.pointer (some ⟨g,0,none⟩))∧CrsC w.heap.size w' g n er c 0 mb v ps∧Below w.heap.size w w'
theorem info_part25 : (Tryz.prog.info? 207).map (fun i=>(i.zero,i.size,i.bytes))=some (some (.agg #[.slice none 0 0,.int .i64 0]),2,32):=by kernel_rfl
theorem co_open (ls : List ByteArray) (b : Option Addr) (n cp : Nat) (w : World) (hr : RowS w b ls) (hn : n=ls.length) (h8 : n≤1000) (hs : ∀ s∈ls,s.size≤100000) :
    Calls Tryz.prog 74 #[.slice b n cp] w (OpenPost n (erOf (lgsOf ls)) (Crs.start (lgsOf ls)) w):=by
  have HN:=Lib.hid hn
  have HS:=Lib.hid hs
  clear hn hs
  obtain ⟨i0,hi,hz0,hz1,hz2⟩:=info_parts info_part25
  have hmm:=fun w=>@run_makeMap Tryz.prog w
  have hb1 : Below w.heap.size w (w.alloc (.map #[] 0)):=(Below.refl _ _).alloc (Nat.le_refl _) _
  have hb2 : Below w.heap.size w ((w.alloc (.map #[] 0)).alloc (.cells #[.slice none 0 0,.map (some w.heap.size)] 203)):=hb1.alloc (by simp) _
  have hstart : CrsC w.heap.size ((w.alloc (.map #[] 0)).alloc (.cells #[.slice none 0 0,.map (some w.heap.size)] 203)) (w.heap.size+1) 0 (erOf (lgsOf ls)) (Crs.start (lgsOf ls)) 0 w.heap.size (.slice none 0 0) []:=by
    have hA:=At.alloc (w.alloc (.map #[] 0)) [.slice none 0 0,.map (some w.heap.size)] 203
    rw [World.size_alloc] at hA
    have hM:=(MapB.made w).on ((Below.refl _ _).alloc (Nat.le_refl _) (.cells #[.slice none 0 0,.map (some w.heap.size)] 203))
    exact ⟨⟨hA,Sl.nil _ _ _,hM,fun p hp=>absurd hp List.not_mem_nil,fun p hp=>absurd hp List.not_mem_nil,by omega,by simp [Value.ownBlock],by simp [Value.ownBlock],by omega,Nat.le_refl _,Nat.zero_le _⟩,rfl,fun i hi=>(Nat.not_lt_zero _ hi).elim,fun i hi=>(Nat.not_lt_zero _ hi).elim⟩
  go_enter Tryz.func74,Tryz.ntmps74
  go_wp2
  generalize hw2 : (w.alloc (.map #[] 0)).alloc (.cells #[.slice none 0 0,.map (some w.heap.size)] 203)=w2 at *
  obtain ⟨g,hgg⟩ : ∃ g,w.heap.size+1=g:=⟨_,rfl⟩
  rw [hgg] at hstart ⊢
  have HB2:=Lib.hid hb2
  clear hw2 hgg hb1 hb2 hmm
  go_loopw [14] (fun i wr=>∃ (k : Nat) (v : Value) (ps : List Pp),i = .int .i64 k∧k≤n∧CrsC w.heap.size wr g k (erOf (lgsOf ls)) (Crs.start (lgsOf ls)) 0 w.heap.size v ps∧Below w.heap.size w wr) (fun i _=>n - (intOf i).toNat)
  case atStart=>exact ⟨0,_,_,rfl,Nat.zero_le _,hstart,HB2.out⟩
  case round =>
    clear hstart
    obtain ⟨k,v,ps,rfl,hk,hC,hb⟩:=hrel
    by_cases hlt : k<n
    · have hk1 : k<ls.length:=by rw [← HN.out];exact hlt
      have hrow:=hr.below hb
      obtain ⟨bs,offs,rfl,-,-⟩:=hrow.at_ k hk1
      obtain ⟨hbb,r0⟩:=hrow.cell k hk1
      have hsz:=HS.out _ (List.getElem_mem hk1)
      have hlg:=lgsOf_at ls k hk1
      generalize ls[k]=s at *
      have HP:=Lib.hid (log_parse2 s wr hsz)
      have hlg1 : (Crs.start (lgsOf ls)).left k=(parse s.data.toList).1:=by show (lgAt (lgsOf ls) k).1=_;rw [hlg];rfl
      have hlg2 : erOf (lgsOf ls) k=(parse s.data.toList).2.2:=by unfold erOf;rw [hlg];rfl
      have HL1:=Lib.hid hlg1
      have HL2:=Lib.hid hlg2
      clear hlg hlg1 hlg2 hrow
      generalize parse s.data.toList=pr at *
      obtain ⟨rs,pn,pe⟩:=pr
      obtain ⟨hg,c0,z0,c1,z1⟩:=hC.raw.blk.two
      obtain ⟨av,cv,hv⟩:=hC.raw.row.shape
      have hnl:=hC.n
      have hwB:=hb.size
      rw [hnl] at hv
      subst hv
      have HC:=Lib.hid hC
      clear hC hnl
      go_wp2_with (first|(go_at_call 128;(with_reducible refine HP.out.mono ?_);intro e w3 hP;obtain ⟨a,c,rfl,q1,q2,q3,q4,q5⟩:=hP;have hC3:=HC.out.on q2;have hS3 : Sl w.heap.size w3 2 (.slice av k cv) k (pps ps):=(congrArg (fun N=>Sl w.heap.size w3 2 (.slice av k cv) N (pps ps)) hC3.n).mp hC3.raw.row;obtain ⟨hg3,f0,y0,f1,y1⟩:=hC3.raw.blk.two;have hw3:=Nat.le_trans hwB q2.size;have hbx : Below w3.heap.size w3 (w3.alloc (.cells #[.slice a rs.length c,.int .i64 (pe : Int)] 207)):=(Below.refl _ _).alloc (Nat.le_refl _) _)|(at_builtin;refine wpList_append_sl _ rfl (.tmp 28) (.tmp 32) 201 201 rfl 207 i0 _ 32 Tryz.underlying201 hi hz0 hz1 hz2 rfl rfl (hS3.alloc _) _ 1 [.slice a rs.length c,.int .i64 (pe : Int)] rfl (src_cells Tryz.underlying201 _ _ _ _ rfl 2 rfl (by intro u hu;simp at hu;rcases hu with rfl|rfl <;> rfl)) (by unfold maxLen;omega) (by omega) (by simp;omega) ?_;intro v1 w5 k1 k2 k3;obtain ⟨hg5,g0,u0,g1,u1⟩:=((HC.out.on (q2.trans (hbx.mono q2.size))).raw.blk.upd k2 HC.out.raw.vg).two;obtain ⟨av1,cv1,rfl⟩:=k1.shape))
      obtain ⟨m1,m2⟩:=HC.out.more (q2.trans (hbx.mono q2.size)) ⟨a,c,rs,pe⟩ ⟨q1.on hbx,q3,q4⟩ (fun q hq=>q5 q hq) HL1.out HL2.out (by omega) k1 k2 k3
      go_roundw
      case rel=>exact ⟨k+1,_,_,by go_num,hlt,m1,((hb.trans (q2.mono hwB)).alloc hw3 _).trans m2⟩
      case measure=>simp [intOf] <;> omega
    · obtain rfl : k=n:=by omega
      go_wp2
      go_ret
      exact ⟨_,_,_,_,rfl,hC,hb⟩
theorem ju_kept (a : Option Addr) (N cp : Nat) (l : List Ev) (b : Option Addr) (n c2 : Nat) (ls : List ByteArray) (w : World) (hr : RowE w a l) (hN : N=l.length) (hl : N≤100000) (hrs : RowS w b ls) (hn : n=ls.length) (h8 : n≤1000) (hs : ∀ s∈ls,s.size≤100000) (o : Bool) (ho : keptB (lgsOf ls) l=o) :
    Calls Tryz.prog 32 #[.slice a N cp,.slice b n c2] w fun e w'=>e = .returned (.bool o)∧Below w.heap.size w w':=by
  have HP:=Lib.hid (co_open ls b n c2 w hrs hn h8 hs)
  have ho2 : ((Crs.start (lgsOf ls)).all n (erOf (lgsOf ls)) l).isSome=o:=by
    unfold keptB at ho
    rw [lgsOf_len,← hn] at ho
    exact ho
  have HF:=fun (w1 : World) (hb : Below w.heap.size w w1) (g mb : Nat) (v : Value) (ps : List Pp) (h : CrsC w.heap.size w1 g n (erOf (lgsOf ls)) (Crs.start (lgsOf ls)) 0 mb v ps)=>Lib.hid (co_follow w w1 hb a N cp l hr hN hl g n (erOf (lgsOf ls)) (Crs.start (lgsOf ls)) 0 mb v ps h (Nat.zero_le _) _ rfl)
  have HO:=Lib.hid ho2
  clear ho ho2 hr hN hrs hn hs
  go_enter Tryz.func32,Tryz.ntmps32
  go_wp2_with (first|(go_at_call 74;(with_reducible refine HP.out.mono ?_);intro e w1 hP;obtain ⟨g,mb,v,ps,rfl,hC,hb1⟩:=hP;have HF2:=HF w1 hb1 g mb v ps hC)|(go_at_call 75;(with_reducible refine HF2.out.mono ?_);intro e w2 hF;obtain ⟨rfl,f1,-⟩:=hF))
  go_ret
  exact ⟨ret_bool HO.out,hb1.trans f1⟩
end Go.Proofs.YtmimfkhkilijcaaGreatDoor
