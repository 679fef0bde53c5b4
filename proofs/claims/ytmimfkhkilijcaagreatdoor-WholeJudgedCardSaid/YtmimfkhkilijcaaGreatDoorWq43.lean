/- KRefS; Mod1; Mod2; Mod3; ModS: what is reached of them. -/
import Derived.Test.YtmimfkhkilijcaaGreatDoorWq32
import Derived.Test.YtmimfkhkilijcaaGreatDoorWq20
import Derived.Test.YtmimfkhkilijcaaGreatDoorWq12
import Derived.Deep.RegionHeld3
import Derived.Test.YtmimfkhkilijcaaGreatDoorWq01
import Derived.Laws.ResultCell
import Derived.Laws.Rows
import Derived.Test.YtmimfkhkilijcaaGreatDoorWq17
import Derived.Deep.RegionLaw
import Derived.Test.YtmimfkhkilijcaaGreatDoorWq25
import Derived.Test.YtmimfkhkilijcaaGreatDoorWq26
import Derived.Test.YtmimfkhkilijcaaGreatDoorWq18
set_option linter.unusedVariables false
set_option linter.unusedSimpArgs false
set_option maxRecDepth 100000
set_option maxHeartbeats 8000000
namespace Go.Proofs.YtmimfkhkilijcaaGreatDoor
open Go.ChangeShapes Go.WideShapes Go.ChangeAt Go.RowKit
section
variable {P : Program}
theorem loadVar_at {w : World} {g : Nat} {cs : List Value} {ty : TypeId} {d : TypeDesc} (h : At w g cs) (hu : P.underlying ty=some d) (hd : (match d with | .struct _ | .array _ _=>true|_=>false)=true) (hi : (P.info? ty).map (·.size)=some cs.length) :
    (loadVar ty ⟨g,0,none⟩).run P w = .ok (.agg cs.toArray) w:=by
  have hl : (loadCells ⟨g,0,none⟩ cs.length).run P w = .ok cs.toArray w :=
    run_loadCells_list (P:=P) w ⟨g,0,none⟩ cs (fun j v hv=>by
      obtain ⟨hj,rfl⟩:=List.getElem?_eq_some_iff.1 hv
      rw [Addr.add_lit,Nat.zero_add]
      exact (h.2 j hj).1)
  cases hq : P.info? ty with
  | none=>simp [hq] at hi
  | some i =>
    have hs : i.size=cs.length:=by simpa [hq] using hi
    have hagg : (isAgg ty).run P w = .ok true w:=by
      unfold isAgg
      rw [Sem.run_bind,run_underlying hu w]
      cases d <;> simp_all
    simp [loadVar,Sem.run_bind,hagg,sizeOf,typeInfo,hq,hs,hl]
theorem results_at1 {fn : Func} {p : Tmp} {ty : TypeId} (h : fn.results = #[.cell p ty]) (tmps : Array Value) {w : World} {g : Nat} {cs : List Value} {d : TypeDesc} (hp : tmps.getD p undef = .pointer (some ⟨g,0,none⟩)) (ha : At w g cs)
    (hu : P.underlying ty=some d) (hd : (match d with | .struct _ | .array _ _=>true|_=>false)=true) (hi : (P.info? ty).map (·.size)=some cs.length) : (results fn tmps).run P w = .ok (.agg cs.toArray) w:=by
  have hp' : tmps[p]?.getD undef = .pointer (some ⟨g,0,none⟩):=by simpa using hp
  simp [results,h,hp',asAddr,loadVar_at ha hu hd hi]
theorem results_at2 {fn : Func} {p u : Tmp} {ty : TypeId} (h : fn.results = #[.cell p ty,.tmp u]) (tmps : Array Value) {w : World} {g : Nat} {cs : List Value} {d : TypeDesc} (hp : tmps.getD p undef = .pointer (some ⟨g,0,none⟩)) (ha : At w g cs)
    (hu : P.underlying ty=some d) (hd : (match d with | .struct _ | .array _ _=>true|_=>false)=true) (hi : (P.info? ty).map (·.size)=some cs.length) : (results fn tmps).run P w = .ok (.tuple #[.agg cs.toArray,tmps.getD u undef]) w:=by
  have hp' : tmps[p]?.getD undef = .pointer (some ⟨g,0,none⟩):=by simpa using hp
  simp [results,h,hp',asAddr,loadVar_at ha hu hd hi,Result.andThen]
theorem results_at3 {fn : Func} {p u v : Tmp} {ty : TypeId} (h : fn.results = #[.cell p ty,.tmp u,.tmp v]) (tmps : Array Value) {w : World} {g : Nat} {cs : List Value} {d : TypeDesc} (hp : tmps.getD p undef = .pointer (some ⟨g,0,none⟩)) (ha : At w g cs)
    (hu : P.underlying ty=some d) (hd : (match d with | .struct _ | .array _ _=>true|_=>false)=true) (hi : (P.info? ty).map (·.size)=some cs.length) : (results fn tmps).run P w = .ok (.tuple #[.agg cs.toArray,tmps.getD u undef,tmps.getD v undef]) w:=by
  have hp' : tmps[p]?.getD undef = .pointer (some ⟨g,0,none⟩):=by simpa using hp
  simp [results,h,hp',asAddr,loadVar_at ha hu hd hi,Result.andThen]
end
theorem Upd.all6 {S : Nat→Prop} {a w : World} (h : Upd S a w) {g : Nat} (hg : g<a.heap.size→S g) (x0 x1 x2 x3 x4 x5 : Value) : Upd S a ((((((w.setCell ⟨g,0,none⟩ x0).setCell ⟨g,1,none⟩ x1).setCell ⟨g,2,none⟩ x2).setCell ⟨g,3,none⟩ x3).setCell ⟨g,4,none⟩ x4).setCell ⟨g,5,none⟩ x5) :=
  (((((h.setCell (p:=⟨g,0,none⟩) hg x0).setCell (p:=⟨g,1,none⟩) hg x1).setCell (p:=⟨g,2,none⟩) hg x2).setCell (p:=⟨g,3,none⟩) hg x3).setCell (p:=⟨g,4,none⟩) hg x4).setCell (p:=⟨g,5,none⟩) hg x5
open PHist PRing PSat PClamp PBound PFrame PSign PTree PEv
theorem Sl.drew {B : Nat} {w : World} {size : Nat} {v : Value} {n : Nat} {xs : List Value} (h : Sl B w size v n xs) : Sl B w.drew size v n xs:=h.upd (S:=fun _=>False) ((Upd.refl _ _).drew) (fun _ _ h=>h)
theorem sl_free {B : Nat} {w : World} {size g off n c m : Nat} {xs : List Value} (h : Sl B w size (.slice (some ⟨g,off,none⟩) n c) m xs) (i : Nat) (hi : i<m) : B≤g∧g<w.heap.size∧∀ q,q<size→w.frozen? ⟨g,off+i*size+q,none⟩=false:=by
  rcases h.2 with ⟨h1,h2⟩|⟨g',off',cap,h1,h2,h3,h4,h5,h6,h7⟩
  · omega
  · cases h1
    refine ⟨h2,h3,fun q hq=>?_⟩
    rw [Nat.add_assoc]
    refine (h7 (i*size+q) ?_).2
    have h8:=Nat.mul_le_mul_right size (show i+1≤c by omega)
    rw [Nat.succ_mul] at h8
    omega
end Go.Proofs.YtmimfkhkilijcaaGreatDoor
namespace Go.Proofs.YtmimfkhkilijcaaGreatDoor
open Go.ChangeShapes Go.WideShapes Go.ChangeAt Go.RowKit
theorem step_append_mine {P : Program} {ops : Array Oper} {o : Oper} {a : Act} {w : World} {K : Act→World→Prop} {Q : Exit→Act→World→Prop} {E : Prop}
    (hg : o.guard=none) (s x : Operand) (t tx : TypeId) (hop : o.op=Op.call { callee:=Callee.builtin Builtin.append,args:=#[s,x],argTypes:=#[t,tx] })
    {B : Nat} {size : Nat} (e : TypeId) (i : TypeInfo) (z : Value) (bytes : Nat) (ht : P.underlying t=some (.slice e)) (hi : P.info? e=some i) (hz : i.zero=some z) (hsize : i.size=size) (hby : i.bytes=bytes) (hzs : z.cells.size=size)
    (v xv : Value) {n : Nat} {xs : List Value} (m : Nat) (news : List Value) (hv : a.eval s=v) (hx : a.eval x=xv) (h : Sl B w size v n xs) (hs : Src P size tx xv m news w)
    (h63 : n+m≤maxLen) (hbytes : (n+m)*bytes≤140737488355328) (hB : B≤w.heap.size)
    (hK : ∀ a1 c1 w',Sl B w' size (.slice a1 (n+m) c1) (n+m) (xs++news)→Upd (fun k=>v.ownBlock=some k) w w'→(∀ k,(Value.slice a1 (n+m) c1).ownBlock=some k→v.ownBlock=some k∨w.heap.size≤k)→K (a.put o.dst (.slice a1 (n+m) c1)) w') :
    if Region.wanted o (yielded ops a.tmps)=true then Oper.wp P o a w K Q else E:=by
  obtain ⟨v',w',hr,r1,r2,r3⟩:=run_append_sl (P:=P) w t tx o.type e i z bytes ht hi hz hsize hby hzs h xv m news hs h63 hbytes hB
  obtain ⟨a1,c1,rfl⟩:=r1.shape
  exact step_append_run hg s x t tx hop v xv hv hx hr (hK a1 c1 w' r1 r2 r3)
open PHist PRing PSat PClamp PBound PFrame PSign PTree PEv
theorem RowR.upd2 {S : Nat→Prop} {w w' : World} {a : Option Addr} {l : List R} (h : RowR w a l) (hu : Upd S w w') (hn : ∀ q,a=some q→¬ S q.block) : RowR w' a l :=
  ⟨h.len,fun i hi=>by
    obtain ⟨b,off,h1,h2,h3,h4,h5⟩:=h.at_ i hi
    have hs : ¬ S b:=hn _ h1
    exact ⟨b,off,h1,Nat.lt_of_lt_of_le h2 hu.size,by rw [hu.cell (p:=⟨b,off+i*3,none⟩) h2 hs];exact h3,by rw [hu.cell (p:=⟨b,off+i*3+1,none⟩) h2 hs];exact h4,by rw [hu.cell (p:=⟨b,off+i*3+2,none⟩) h2 hs];exact h5⟩,h.tm⟩
theorem PvOk.upd {S : Nat→Prop} {w w' : World} {v : Pv} (h : PvOk w v) (hu : Upd S w w') (hn : ∀ q,v.a=some q→0<v.p.recs.length→¬ S q.block) : PvOk w' v:=by
  refine ⟨?_,h.le,h.cap⟩
  rcases Nat.eq_zero_or_pos v.p.recs.length with h0|h0
  · exact ⟨h.row.len,fun i hi=>by omega,h.row.tm⟩
  · exact h.row.upd2 hu fun q hq=>hn q hq h0
theorem mo_over (v : Pv) (w : World) (h0 : 0≤v.p.is) (h3 : v.p.is≤3) :
    Calls Tryz.prog 253 #[v.val] w fun e w'=>e = .returned (.bool (decide (1<v.p.is)))∧Below w.heap.size w w':=by
  obtain ⟨⟨⟨kd,bd,pc,wn,sg⟩,recs,er,rd,is,tl⟩,a,c⟩:=v
  simp only at h0 h3
  simp only [Pv.val]
  have HB:=Lib.hid ((Below.refl w.heap.size w).alloc (Nat.le_refl _) (.cells #[.int .i64 kd,.int .i64 bd,.int .i64 pc,.int .i64 wn,.int .i64 sg,.slice a recs.length c,.int .i64 er,.int .i64 rd,.int .i64 is,.int .i64 tl] 256))
  by_cases h2 : is=2
  · subst h2
    go_enter Tryz.func253,Tryz.ntmps253
    go_wp2
    go_ret
    exact ⟨rfl,HB.out⟩
  · by_cases h3' : is=3
    · subst h3'
      go_enter Tryz.func253,Tryz.ntmps253
      go_wp2
      go_ret
      exact ⟨rfl,HB.out⟩
    · have e2 : (is == 2)=false:=by rw [beq_eq_false_iff_ne];exact h2
      have e3 : (is == 3)=false:=by rw [beq_eq_false_iff_ne];exact h3'
      have e1:=Lib.hid (show decide (1<is)=false from decide_eq_false (by omega))
      clear h2 h3' h0 h3
      go_enter Tryz.func253,Tryz.ntmps253
      go_wp2
      go_ret
      rw [e1.out]
      exact ⟨rfl,HB.out⟩
theorem At.all3 {w : World} {g : Nat} {a0 a1 a2 : Value} (h : At w g [a0,a1,a2]) (x0 x1 x2 : Value) : At (((w.setCell ⟨g,0,none⟩ x0).setCell ⟨g,1,none⟩ x1).setCell ⟨g,2,none⟩ x2) g [x0,x1,x2]:=by
  simpa using (((h.set 0 (by simp) x0).set 1 (by simp) x1).set 2 (by simp) x2)
theorem Below.all3 {B : Nat} {a w : World} (h : Below B a w) {g : Nat} (hg : B≤g) (x0 x1 x2 : Value) : Below B a (((w.setCell ⟨g,0,none⟩ x0).setCell ⟨g,1,none⟩ x1).setCell ⟨g,2,none⟩ x2):=((h.setCell hg x0).setCell hg x1).setCell hg x2
theorem mo_next_one (v : Pv) (w : World) (hv : PvOk w v) (hl : v.p.recs.length≤400) (hrd : v.p.read<v.p.recs.length) :
    Calls Tryz.prog 224 #[v.val] w fun e w'=>e = .returned (.tuple #[.agg #[.int .i64 (recAt v.p).1,.int .i64 (recAt v.p).2.1,.string (bstr (recAt v.p).2.2)],.bool true])∧Below w.heap.size w w':=by
  obtain ⟨hr,hle,hcap⟩:=hv
  obtain ⟨⟨⟨kd,bd,pc,wn,sg⟩,recs,er,rd,is,tl⟩,a,c⟩:=v
  simp only at hr hle hcap hl hrd
  simp only [Pv.val]
  have hra : recAt ⟨⟨kd,bd,pc,wn,sg⟩,recs,er,rd,is,tl⟩=recs[rd]:=by
    unfold recAt
    rw [List.getD_eq_getElem?_getD,List.getElem?_eq_getElem hrd];rfl
  rw [hra]
  obtain ⟨b,off,rfl,-,-⟩:=hr.at_ rd hrd
  have e:=fun (w : World) (o : Obj)=>(Below.refl w.heap.size w).alloc (Nat.le_refl _) o
  have hA:=(At.alloc w [.int .i64 kd,.int .i64 bd,.int .i64 pc,.int .i64 wn,.int .i64 sg,.slice (some ⟨b,off,none⟩) recs.length c,.int .i64 er,.int .i64 rd,.int .i64 is,.int .i64 tl] 256).on (e _ (.cells #[.int .i64 0,.int .i64 0,.string ⟨#[]⟩] 54))
  have hZ:=At.alloc (w.alloc (.cells #[.int .i64 kd,.int .i64 bd,.int .i64 pc,.int .i64 wn,.int .i64 sg,.slice (some ⟨b,off,none⟩) recs.length c,.int .i64 er,.int .i64 rd,.int .i64 is,.int .i64 tl] 256)) [.int .i64 0,.int .i64 0,.string ⟨#[]⟩] 54
  rw [World.size_alloc] at hZ
  have hB : Below w.heap.size w ((w.alloc (.cells #[.int .i64 kd,.int .i64 bd,.int .i64 pc,.int .i64 wn,.int .i64 sg,.slice (some ⟨b,off,none⟩) recs.length c,.int .i64 er,.int .i64 rd,.int .i64 is,.int .i64 tl] 256)).alloc (.cells #[.int .i64 0,.int .i64 0,.string ⟨#[]⟩] 54)):=on_below (e _ _) (e _ _)
  obtain ⟨hbb,r0,r1,r2⟩:=RowR.cell (hr.on hB) rd hrd
  clear hr hra
  generalize recs[rd]=r at *
  obtain ⟨rk,rt,rx⟩:=r
  simp only at r0 r1 r2
  have hri : (rd : Int)<(recs.length : Int):=by omega
  have hr0 : ¬ ((rd : Int)<0):=by omega
  clear e
  go_enter Tryz.func224,Tryz.ntmps224
  go_upto_region 1 with fail
  generalize (w.alloc (.cells #[.int .i64 kd,.int .i64 bd,.int .i64 pc,.int .i64 wn,.int .i64 sg,.slice (some ⟨b,off,none⟩) recs.length c,.int .i64 er,.int .i64 rd,.int .i64 is,.int .i64 tl] 256)).alloc (.cells #[.int .i64 0,.int .i64 0,.string ⟨#[]⟩] 54)=w2 at *
  obtain ⟨-,p0,x0,p1,x1,p2,x2,p3,x3,p4,x4,p5,x5,p6,x6,p7,x7,p8,x8,p9,x9⟩:=hA.ten
  obtain ⟨hgz,z0,u0,z1,u1,z2,u2⟩:=hZ.three
  have hT:=Lib.hid (fun x0 x1 x2=>At.all3 hZ x0 x1 x2)
  have hBo:=Lib.hid (fun x0 x1 x2=>Below.all3 hB (g:=w.heap.size+1) (by omega) x0 x1 x2)
  clear hA hZ hB
  go_wp2
  refine bodyPost_ret (results_at2 (fn:=Tryz.f224) rfl _ rfl (hT.out _ _ _) Tryz.underlying54 rfl (by kernel_rfl)) rfl ?_
  exact ⟨rfl,hBo.out _ _ _⟩
theorem mo_next_none (v : Pv) (w : World) (hl : v.p.recs.length≤400) (hrd : v.p.recs.length≤v.p.read) :
    Calls Tryz.prog 224 #[v.val] w fun e w'=>e = .returned (.tuple #[.agg #[.int .i64 0,.int .i64 0,.string ⟨#[]⟩],.bool false])∧Below w.heap.size w w':=by
  obtain ⟨⟨⟨kd,bd,pc,wn,sg⟩,recs,er,rd,is,tl⟩,a,c⟩:=v
  simp only at hl hrd
  simp only [Pv.val]
  have e:=fun (w : World) (o : Obj)=>(Below.refl w.heap.size w).alloc (Nat.le_refl _) o
  have hA:=(At.alloc w [.int .i64 kd,.int .i64 bd,.int .i64 pc,.int .i64 wn,.int .i64 sg,.slice a recs.length c,.int .i64 er,.int .i64 rd,.int .i64 is,.int .i64 tl] 256).on (e _ (.cells #[.int .i64 0,.int .i64 0,.string ⟨#[]⟩] 54))
  have hZ:=At.alloc (w.alloc (.cells #[.int .i64 kd,.int .i64 bd,.int .i64 pc,.int .i64 wn,.int .i64 sg,.slice a recs.length c,.int .i64 er,.int .i64 rd,.int .i64 is,.int .i64 tl] 256)) [.int .i64 0,.int .i64 0,.string ⟨#[]⟩] 54
  rw [World.size_alloc] at hZ
  have hB : Below w.heap.size w ((w.alloc (.cells #[.int .i64 kd,.int .i64 bd,.int .i64 pc,.int .i64 wn,.int .i64 sg,.slice a recs.length c,.int .i64 er,.int .i64 rd,.int .i64 is,.int .i64 tl] 256)).alloc (.cells #[.int .i64 0,.int .i64 0,.string ⟨#[]⟩] 54)):=on_below (e _ _) (e _ _)
  have hri : (recs.length : Int)≤(rd : Int):=by omega
  have hr0 : ¬ ((rd : Int)<0):=by omega
  clear e
  go_enter Tryz.func224,Tryz.ntmps224
  go_upto_region 1 with fail
  generalize (w.alloc (.cells #[.int .i64 kd,.int .i64 bd,.int .i64 pc,.int .i64 wn,.int .i64 sg,.slice a recs.length c,.int .i64 er,.int .i64 rd,.int .i64 is,.int .i64 tl] 256)).alloc (.cells #[.int .i64 0,.int .i64 0,.string ⟨#[]⟩] 54)=w2 at *
  obtain ⟨-,p0,x0,p1,x1,p2,x2,p3,x3,p4,x4,p5,x5,p6,x6,p7,x7,p8,x8,p9,x9⟩:=hA.ten
  obtain ⟨hgz,z0,u0,z1,u1,z2,u2⟩:=hZ.three
  have hT:=Lib.hid (fun x0 x1 x2=>At.all3 hZ x0 x1 x2)
  have hBo:=Lib.hid (fun x0 x1 x2=>Below.all3 hB (g:=w.heap.size+1) (by omega) x0 x1 x2)
  clear hA hZ hB
  go_wp2
  refine bodyPost_ret (results_at2 (fn:=Tryz.f224) rfl _ rfl (hT.out _ _ _) Tryz.underlying54 rfl (by kernel_rfl)) rfl ?_
  exact ⟨rfl,hBo.out _ _ _⟩
theorem within_id (n m : Int) (h0 : 0≤n) (h1 : n≤m) (w : World) : Calls Tryz.prog 271 #[.int .i64 n,.int .i64 0,.int .i64 m] w fun e w'=>e = .returned (.int .i64 n)∧w=w':=by
  go_enter Tryz.func271,Tryz.ntmps271
  go_wp2
  all_goals go_ret
  all_goals refine ⟨ret_int ?_,rfl⟩
  all_goals omega
theorem mo_mark (v : Pv) (w : World) (hv : PvOk w v) (hp : v.p.Ok) (z : Int) (hz : v.p.mark=z) :
    Calls Tryz.prog 254 #[v.val] w fun e w'=>e = .returned (.int .i64 z)∧Below w.heap.size w w':=by
  obtain ⟨⟨⟨kd,bd,pc,wn,sg⟩,recs,er,rd,is,tl⟩,a,c⟩:=v
  obtain ⟨hr,hle,hcap⟩:=hv
  simp only at hr hle hcap
  have hrd : rd≤recs.length:=hp.rd
  have hfew : recs.length≤400:=hp.few
  have hIR : InR recs:=hp.inr
  have hck : rcheck ⟨kd,bd,pc,wn,sg⟩=0:=hp.chk
  have hft : Rul.Fits ⟨kd,bd,pc,wn,sg⟩:=hp.fit
  have hgz : gnow ⟨kd,bd,pc,wn,sg⟩ (recs.take rd)=z:=hz
  have HBx:=fun o=>(Below.refl w.heap.size w).alloc (Nat.le_refl _) o
  have hA:=At.alloc w [.int .i64 kd,.int .i64 bd,.int .i64 pc,.int .i64 wn,.int .i64 sg,.slice a recs.length c,.int .i64 er,.int .i64 rd,.int .i64 is,.int .i64 tl] 256
  have hb0:=HBx (.cells #[.int .i64 kd,.int .i64 bd,.int .i64 pc,.int .i64 wn,.int .i64 sg,.slice a recs.length c,.int .i64 er,.int .i64 rd,.int .i64 is,.int .i64 tl] 256)
  have HP:=fun w'=>part_to (P:=Tryz.prog) (a:=a) (n:=recs.length) (c:=c) (m:=3) (t:=60) (e:=54) hcap Tryz.underlying60 (by intro w;kernel_rfl) rd rd rfl (by omega) w'
  have HWI:=fun w'=>Lib.hid (within_id rd recs.length (by omega) (by omega) w')
  have HO:=fun w'=>Lib.hid (gn_of ⟨kd,bd,pc,wn,sg⟩ w' hck)
  have HNW:=fun S t g L w' h=>Lib.hid (gn_now S t g ⟨kd,bd,pc,wn,sg⟩ L w' h)
  have HSN:=fun S t g k x w' (hk : k<recs.length) (hx : recs[k]=x) h=>Lib.hid (gn_seen S t g ⟨kd,bd,pc,wn,sg⟩ (recs.take k) x w' h hck hft (hIR.take k) (hx▸hIR _ (List.getElem_mem hk)) (by rw [List.length_take];omega))
  simp only [Rul.val] at HO
  have HGZ:=Lib.hid hgz
  have HR:=Lib.hid hr
  have HCK:=Lib.hid (rcheck_some hck)
  simp only [Pv.val]
  clear hr hp hz hgz hck hft hIR
  go_enter Tryz.func254,Tryz.ntmps254
  go_upto_region 1 with fail
  generalize w.alloc (.cells #[.int .i64 kd,.int .i64 bd,.int .i64 pc,.int .i64 wn,.int .i64 sg,.slice a recs.length c,.int .i64 er,.int .i64 rd,.int .i64 is,.int .i64 tl] 256)=w1 at *
  obtain ⟨hg,p0,x0,p1,x1,p2,x2,p3,x3,p4,x4,p5,x5,p6,x6,p7,x7,p8,x8,p9,x9⟩:=hA.ten
  go_upto_region 4 with (first|(go_at_call 106;(with_reducible refine (HO _).out.mono ?_);intro e w4 hof;obtain ⟨t,g,S4,rfl,hG4,hS4,hb4⟩:=hof;have hmN:=hG4.now;have hmS:=hG4.seen;have hmE:=hG4.enters;obtain ⟨-,q0,y0,q1,y1,q2,y2,q3,y3,q4,y4,q5,y5,q6,y6,q7,y7,q8,y8,q9,y9⟩:=(hA.on hb4).ten)|fail)
  have hbw4:=on_below hb0 hb4
  clear HO p0 x0 p1 x1 p2 x2 p3 x3 p4 x4 p5 x5 p6 x6 p7 x7 p8 x8 p9 x9 q0 y0 q1 y1 q2 y2 q3 y3 q4 y4 q6 y6 q8 y8 q9 y9 y5 y7 HBx hg
  go_cut [23,24,25] (fun v n i wx=>v = .slice a rd c∧n = .int .i64 rd∧i = .int .i64 0∧Below w4.heap.size w4 wx)
  case first =>
    clear HSN HNW HGZ HR HCK hmN hmS hmE hG4 hS4 hb4 hbw4 hb0 hA
    go_quiet ((go_at_call 271;refine (HWI _).out.mono ?_;rintro e9 wq ⟨rfl,rfl⟩;exact ⟨rfl,_,rfl⟩))
    all_goals (go_wp2_with fail;go_meet)
    all_goals exact ⟨rfl,rfl,rfl,on_quiet ⟨_,rfl⟩⟩
  case rest =>
    obtain ⟨rfl,rfl,rfl,hbc⟩:=hcut
    have hGc:=hG4.on hbc
    have hbwc:=on_below hbw4 hbc
    have hsz1:=hb0.size
    clear q5 q7 HP HWI
    go_wp2_with fail
    go_loopw [25] (fun i wr=>∃ (k : Nat) (S : Nat→Prop),k≤rd∧i = .int .i64 k∧GenC wr S t g ⟨kd,bd,pc,wn,sg⟩ (recs.take k)∧(∀ j,S j→w.heap.size≤j)∧Below w.heap.size w wr) (fun i _=>rd - (intOf i).toNat)
    case atStart=>exact ⟨0,S4,Nat.zero_le _,rfl,hGc,fun j hj=>Nat.le_trans hsz1 (hS4 j hj),hbwc⟩
    case round =>
      clear hGc hbwc hG4
      obtain ⟨k,S,hk,rfl,hG,hS,hbw⟩:=hrel
      by_cases hlt : k<rd
      · have hkl : k<recs.length:=by omega
        obtain ⟨b,off,rfl,-,-⟩:=HR.out.at_ k hkl
        obtain ⟨hbb,r0,r1,r2⟩:=RowR.cell (HR.out.on hbw) k hkl
        have HTK:=Lib.hid (List.take_succ_eq_append_getElem hkl)
        have HS:=fun x (hx : recs[k]=x) wx h=>HSN S t g k x wx hkl hx h
        generalize hx : recs[k]=x at *
        obtain ⟨rk,rt,rx⟩:=x
        simp only at r0 r1 r2
        have hba:=(Below.refl wr.heap.size wr).alloc (Nat.le_refl _) (.cells #[.int .i64 rk,.int .i64 rt,.string (bstr rx)] 54)
        have hG1:=hG.on hba
        have HS1:=HS _ rfl _ hG1
        simp only at HS1
        have hbw1:=on_below hbw hba
        clear HS HSN hx hG
        go_wp2_with (first|((with_reducible refine HS1.out.mono ?_);intro e9 w6 h6;obtain ⟨rfl,S6,hG6,hu6,hs6⟩:=h6)|fail)
        go_roundw
        case rel =>
          refine ⟨k+1,S6,by omega,by go_num,by rw [HTK.out];exact hG6,fun j hj=>?_,hbw1.upd hu6 hbw1.size (fun i _ h=>hS i h)⟩
          rcases hs6 j hj with h|h
          · exact hS j h
          · exact Nat.le_trans hbw1.size h
        case measure=>simp [intOf] <;> omega
      · obtain rfl : k=rd:=by omega
        have HNN:=HNW S t g _ wr hG
        have HBW:=Lib.hid hbw
        clear hG hbw HSN HNW
        go_wp2_with (first|(go_at_call 120;(with_reducible refine HNN.out.mono ?_);rintro e9 w7 ⟨rfl,rfl⟩)|fail)
        go_ret
        exact ⟨ret_int HGZ.out,HBW.out⟩
theorem mo_deadline (g : Nat) (ru pv : Value) (t d k m : Int) (w : World) (h : At w g [ru,.int .i64 t,.int .i64 d,pv,.int .i64 k,.int .i64 m]) (hk : in64 k) (ht : in64 t) :
    Calls Tryz.prog 176 #[.pointer (some ⟨g,0,none⟩)] w fun e w'=>e = .returned (.int .i64 (add k t))∧Below w.heap.size w w':=by
  have HA:=fun w'=>Lib.hid (sat_add k t w' hk ht)
  have h1 : w.cell? ⟨g,1,none⟩=some (.int .i64 t):=(h.2 1 (by simp)).1
  have h4 : w.cell? ⟨g,4,none⟩=some (.int .i64 k):=(h.2 4 (by simp)).1
  have hg:=h.1
  clear h
  go_enter Tryz.func176,Tryz.ntmps176
  go_wp2_with fail
  go_quiet ((go_at_call 77;refine (HA _).out.mono ?_;rintro e9 wq ⟨rfl,rfl⟩;exact ⟨rfl,_,rfl⟩))
  all_goals (go_wp2_with fail;go_ret)
  all_goals exact ⟨rfl,on_quiet ⟨_,rfl⟩⟩
theorem pvs_set : ∀ (l : List Pv) (i j : Nat) (v : Pv) (x : Value) (hi : i<l.length) (hj : j<10),v.cells=(l[i].cells).set j x→pvs (l.set i v)=(pvs l).set (i*10+j) x
  | u::l,0,j,v,x,_,hj,h=>by
    show v.cells++pvs l=(u.cells++pvs l).set (0*10+j) x
    have h : v.cells=u.cells.set j x:=h
    rw [Nat.zero_mul,Nat.zero_add,List.set_append_left _ _ (by show j<10;exact hj),h]
  | u::l,i+1,j,v,x,hi,hj,h=>by
    show u.cells++pvs (l.set i v)=(u.cells++pvs l).set ((i+1)*10+j) x
    rw [List.set_append_right _ _ (by show 10≤_;omega)]
    show _=u.cells++(pvs l).set ((i+1)*10+j - 10) x
    rw [show (i+1)*10+j - 10=i*10+j by omega,pvs_set l i j v x (by simpa using hi) hj h]
structure MoS (K : Option Addr→Nat→List R→Prop) (B : Nat) (w : World) (g : Nat) (ru : Value) (a : Option Addr) (n c : Nat) (l : List Pv) (ps : List Pt) (t d k m : Int) : Prop where
  blk : At w g [ru,.int .i64 t,.int .i64 d,.slice a n c,.int .i64 k,.int .i64 m]
  row : Sl B w 10 (.slice a n c) n (pvs l)
  len : n=l.length
  map : l.map (·.p)=ps
  ne : (Value.slice a n c).ownBlock≠some g
  ok : ∀ v∈l,PvOk w v
  kk : ∀ v∈l,K v.a v.c v.p.recs
  fr : ∀ v∈l,∀ p,v.a=some p→0<v.p.recs.length→p.block≠g∧(Value.slice a n c).ownBlock≠some p.block
section
variable {K : Option Addr→Nat→List R→Prop} {B : Nat} {w w' : World} {g : Nat} {ru : Value} {a : Option Addr} {n c : Nat} {l : List Pv} {ps : List Pt} {t d k m : Int}
theorem MoS.plen (h : MoS K B w g ru a n c l ps t d k m) : n=ps.length:=by rw [h.len,← h.map,List.length_map]
theorem MoS.rowp (h : MoS K B w g ru a n c l ps t d k m) : RowP w a l:=RowP.of_sl h.row h.len h.ok
theorem MoS.upd {S : Nat→Prop} (h : MoS K B w g ru a n c l ps t d k m) (hu : Upd S w w') (hg : ¬ S g) (hr : ∀ b,(Value.slice a n c).ownBlock=some b→¬ S b) (hf : ∀ v∈l,∀ p,v.a=some p→0<v.p.recs.length→¬ S p.block) : MoS K B w' g ru a n c l ps t d k m :=
  ⟨h.blk.upd hu hg,h.row.upd hu hr,h.len,h.map,h.ne,fun v hv=>(h.ok v hv).upd hu (hf v hv),h.kk,h.fr⟩
theorem MoS.on (h : MoS K B w g ru a n c l ps t d k m) (hb : Below w.heap.size w w') : MoS K B w' g ru a n c l ps t d k m :=
  ⟨h.blk.on hb,h.row.onW hb,h.len,h.map,h.ne,fun v hv=>(h.ok v hv).on hb,h.kk,h.fr⟩
theorem MoS.setNow (h : MoS K B w g ru a n c l ps t d k m) (x : Int) : MoS K B (w.setCell ⟨g,5,none⟩ (.int .i64 x)) g ru a n c l ps t d k x∧Upd (fun b=>b=g) w (w.setCell ⟨g,5,none⟩ (.int .i64 x)):=by
  have hu : Upd (fun b=>b=g) w (w.setCell ⟨g,5,none⟩ (.int .i64 x)):=(Upd.refl (fun b=>b=g) w).setCell (p:=⟨g,5,none⟩) (fun _=>rfl) _
  exact ⟨⟨h.blk.set 5 (by simp) (.int .i64 x),h.row.upd hu (fun b hb e=>h.ne (by rw [hb,e])),h.len,h.map,h.ne,fun v hv=>(h.ok v hv).upd hu (fun p hp h0 e=>(h.fr v hv p hp h0).1 e),h.kk,h.fr⟩,hu⟩
theorem MoS.setClock (h : MoS K B w g ru a n c l ps t d k m) (x : Int) : MoS K B (w.setCell ⟨g,4,none⟩ (.int .i64 x)) g ru a n c l ps t d x m∧Upd (fun b=>b=g) w (w.setCell ⟨g,4,none⟩ (.int .i64 x)):=by
  have hu : Upd (fun b=>b=g) w (w.setCell ⟨g,4,none⟩ (.int .i64 x)):=(Upd.refl (fun b=>b=g) w).setCell (p:=⟨g,4,none⟩) (fun _=>rfl) _
  exact ⟨⟨h.blk.set 4 (by simp) (.int .i64 x),h.row.upd hu (fun b hb e=>h.ne (by rw [hb,e])),h.len,h.map,h.ne,fun v hv=>(h.ok v hv).upd hu (fun p hp h0 e=>(h.fr v hv p hp h0).1 e),h.kk,h.fr⟩,hu⟩
theorem MoS.poke {b off : Nat} (h : MoS K B w g ru (some ⟨b,off,none⟩) n c l ps t d k m) (i j : Nat) (hi : i<l.length) (hj : j<10) (v : Pv) (hv : l[i]=v) (p' : Pt) (x : Value) (hx : ({ v with p:=p' } : Pv).cells=v.cells.set j x) (hr : p'.recs=v.p.recs) :
    MoS K B (w.setCell ⟨b,off+i*10+j,none⟩ x) g ru (some ⟨b,off,none⟩) n c (l.set i { v with p:=p' }) (ps.set i p') t d k m∧Upd (fun q=>q=b) w (w.setCell ⟨b,off+i*10+j,none⟩ x):=by
  subst hv
  have hu : Upd (fun q=>q=b) w (w.setCell ⟨b,off+i*10+j,none⟩ x):=(Upd.refl (fun q=>q=b) w).setCell (p:=⟨b,off+i*10+j,none⟩) (fun _=>rfl) _
  have hsub : ∀ v∈l.set i { l[i] with p:=p' },∃ u∈l,v.a=u.a∧v.c=u.c∧v.p.recs=u.p.recs:=fun v hv=>by
    rcases List.mem_or_eq_of_mem_set hv with hv|rfl
    · exact ⟨v,hv,rfl,rfl,rfl⟩
    · exact ⟨l[i],List.getElem_mem hi,rfl,rfl,hr⟩
  have hfr : ∀ v∈l.set i { l[i] with p:=p' },∀ p,v.a=some p→0<v.p.recs.length→p.block≠g∧(Value.slice (some ⟨b,off,none⟩) n c).ownBlock≠some p.block:=fun v hv p hp h0=>by
    obtain ⟨u,hu,e1,e2,e3⟩:=hsub v hv
    rw [e3] at h0;rw [e1] at hp
    exact h.fr u hu p hp h0
  refine ⟨⟨h.blk.upd hu (fun e=>h.ne (by rw [e];rfl)),?_,by rw [List.length_set];exact h.len,?_,h.ne,fun v hv=>?_,fun v hv=>?_,hfr⟩,hu⟩
  · rw [pvs_set l i j _ x hi hj hx,Nat.add_assoc]
    exact h.row.put (i*10+j) x (by rw [h.len];omega)
  · rw [List.map_set,h.map]
  · obtain ⟨u,hu',e1,e2,e3⟩:=hsub v hv
    have ho : PvOk w v:=by
      have:=h.ok u hu'
      exact ⟨by rw [e1,e3];exact this.row,by rw [e2,e3];exact this.le,by rw [e2];exact this.cap⟩
    exact ho.upd hu (fun p hp h0 e=>(hfr v hv p hp h0).2 (by rw [e];rfl))
  · obtain ⟨u,hu,e1,e2,e3⟩:=hsub v hv
    rw [e1,e2,e3];exact h.kk u hu
theorem MoS.at_ (h : MoS K B w g ru a n c l ps t d k m) (i : Nat) (hi : i<l.length) : ∃ b off,a=some ⟨b,off,none⟩∧B≤b∧b<w.heap.size∧b≠g∧∀ q,q<10→w.frozen? ⟨b,off+i*10+q,none⟩=false:=by
  obtain ⟨b,off,hab,-,-⟩:=h.rowp.row.at_ i hi
  subst hab
  obtain ⟨h1,h2,h3⟩:=sl_free h.row i (by rw [h.len];exact hi)
  exact ⟨b,off,rfl,h1,h2,fun e=>h.ne (by rw [← e];rfl),h3⟩
theorem MoS.pat (h : MoS K B w g ru a n c l ps t d k m) (i : Nat) (hi : i<l.length) : (l[i]).p=Go.Proofs.YtmimfkhkilijcaaGreatDoor.pat ps i:=by
  rw [pat_lt (by rw [← h.map,List.length_map];exact hi)]
  simp only [← h.map,List.getElem_map]
end
theorem evi_row {B N : Nat} {w : World} {T : TypeId} (v : Ev) (u : Value) (hu : evv v=u) (hN : w.heap.size=N) (hB : B≤w.heap.size) : Sl B (w.alloc (.cells #[u] T)) 1 (.slice (some ⟨N,0,none⟩) 1 1) 1 ([v].map evv):=by
  subst hN hu
  have h:=Sl.made (B:=B) w #[evv v] T 1 1 1 hB (Nat.le_refl _) (by unfold maxLen;omega) (by simp)
  simpa using h
end Go.Proofs.YtmimfkhkilijcaaGreatDoor
