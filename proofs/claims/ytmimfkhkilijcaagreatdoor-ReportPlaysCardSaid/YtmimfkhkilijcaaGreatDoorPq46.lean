/- KRefS: what is reached of them. -/
import Derived.Test.YtmimfkhkilijcaaGreatDoorPq30
import Derived.Test.YtmimfkhkilijcaaGreatDoorPq14
import Derived.Test.YtmimfkhkilijcaaGreatDoorPq10
import Derived.Deep.RegionHeld3
import Derived.Test.YtmimfkhkilijcaaGreatDoorPq01
import Derived.Laws.ResultCell
import Derived.Laws.Rows
import Derived.Test.YtmimfkhkilijcaaGreatDoorPq11
import Derived.Deep.RegionLaw
import Derived.Test.YtmimfkhkilijcaaGreatDoorPq21
set_option linter.unusedVariables false
set_option linter.unusedSimpArgs false
set_option maxRecDepth 100000
set_option maxHeartbeats 8000000
namespace Go.Proofs.YtmimfkhkilijcaaGreatDoor
open Go.ChangeShapes Go.WideShapes Go.ChangeAt Go.RowKit
open PHist PRing PSat PClamp PBound PFrame PSign PTree PEv
theorem ref_mark (v : Pv) (w : World) (hv : PvOk w v) (hp : v.p.Ok) (z : Int) (hz : v.p.mark=z) :
    Calls Tryz.prog 23 #[v.val] w fun e w'=>e = .returned (.int .i64 z)∧Below w.heap.size w w':=by
  obtain ⟨⟨⟨kd,bd,pc,wn,sg⟩,recs,er,rd,is,tl⟩,a,c⟩:=v
  obtain ⟨hr,hle,hcap⟩:=hv
  simp only at hr hle hcap
  have hrd : rd≤recs.length:=hp.rd
  have hfew : recs.length≤400:=hp.few
  have HB:=Lib.hid ((Below.refl w.heap.size w).alloc (Nat.le_refl _) (.cells #[.int .i64 kd,.int .i64 bd,.int .i64 pc,.int .i64 wn,.int .i64 sg,.slice a recs.length c,.int .i64 er,.int .i64 rd,.int .i64 is,.int .i64 tl] 62))
  have hA:=At.alloc w [.int .i64 kd,.int .i64 bd,.int .i64 pc,.int .i64 wn,.int .i64 sg,.slice a recs.length c,.int .i64 er,.int .i64 rd,.int .i64 is,.int .i64 tl] 62
  have HP:=fun w'=>part_to (P:=Tryz.prog) (a:=a) (n:=recs.length) (c:=c) (m:=3) (t:=60) (e:=54) hcap Tryz.underlying60 (by intro w;kernel_rfl) rd rd rfl (by omega) w'
  have HN:=fun w' (hb : Below w.heap.size w w')=>Lib.hid (ref_now13_any ⟨kd,bd,pc,wn,sg⟩ a rd c (recs.take rd) w' (by rw [List.length_take];omega) ((hr.on hb).take rd) (fun r hr=>Nat.le_trans (hp.short r (List.mem_of_mem_take hr)) (by omega)) hp.fit hp.chk (by rw [List.length_take];omega) z hz)
  simp only [Rul.val] at HN
  clear hr hp hz
  go_enter Tryz.func23,Tryz.ntmps23
  go_wp2
  generalize w.alloc (.cells #[.int .i64 kd,.int .i64 bd,.int .i64 pc,.int .i64 wn,.int .i64 sg,.slice a recs.length c,.int .i64 er,.int .i64 rd,.int .i64 is,.int .i64 tl] 62)=w0 at *
  obtain ⟨hg,c0,z0,c1,z1,c2,z2,c3,z3,c4,z4,c5,z5,c6,z6,c7,z7,c8,z8,c9,z9⟩:=At.ten hA
  go_region_with (first|(go_at_call 56;refine (HN _ HB.out.drew).out.mono ?_;rintro e w3 ⟨rfl,hb3⟩))
  all_goals (go_wp2;go_ret;exact ⟨rfl,on_below HB.out.drew hb3⟩)
theorem ref_paused (a : Option Addr) (n c : Nat) (l : List Pv) (t d k m : Int) (i : Nat) (w : World) (hr : RowP w a l) (hn : n=l.length) (hi : i<l.length) (hok : (l[i]).p.Ok) (hd : in64 d) (hm : in64 m) (hl : l.length≤1000) (o : Bool) (ho : decide (add m d<(l[i]).p.mark)=o) :
    Calls Tryz.prog 144 #[.agg #[.slice a n c,.int .i64 t,.int .i64 d,.int .i64 k,.int .i64 m],.int .i64 i] w fun e w'=>e = .returned (.bool o)∧Below w.heap.size w w':=by
  subst hn
  obtain ⟨b,off,rfl,-,-⟩:=hr.row.at_ i hi
  have HB:=Lib.hid ((Below.refl w.heap.size w).alloc (Nat.le_refl _) (.cells #[.slice (some ⟨b,off,none⟩) l.length c,.int .i64 t,.int .i64 d,.int .i64 k,.int .i64 m] 45))
  have hA:=At.alloc w [.slice (some ⟨b,off,none⟩) l.length c,.int .i64 t,.int .i64 d,.int .i64 k,.int .i64 m] 45
  have hr0:=hr.on HB.out
  obtain ⟨hb,p0,p1,p2,p3,p4,p5,p6,p7,p8,p9⟩:=hr0.cell i hi
  have HM:=fun w' (hb : Below w.heap.size w w')=>Lib.hid (ref_mark l[i] w' ((hr.on hb).ok _ (List.getElem_mem hi)) hok _ rfl)
  have HA:=fun w'=>Lib.hid (ref_add m d w' hm hd)
  generalize add m d=z at *
  have hilt : i<l.length:=hi
  generalize l[i]=v at *
  obtain ⟨⟨⟨kd,bd,pc,wn,sg⟩,recs,er,rd,is,tl⟩,av,cv⟩:=v
  generalize hmk : (Pt.mark ⟨⟨kd,bd,pc,wn,sg⟩,recs,er,rd,is,tl⟩)=mk at *
  simp only [Pv.val] at HM p0 p1 p2 p3 p4 p5 p6 p7 p8 p9
  clear hr hr0 hok hd hm hmk hi
  generalize l.length=n at *
  go_enter Tryz.func144,Tryz.ntmps144
  go_wp2
  generalize w.alloc (.cells #[.slice (some ⟨b,off,none⟩) n c,.int .i64 t,.int .i64 d,.int .i64 k,.int .i64 m] 45)=w0 at *
  obtain ⟨hg,c0,z0,c1,z1,c2,z2,c3,z3,c4,z4⟩:=At.five hA
  have hn0:=w.heap.size
  have HF : ∀ wx,Below w0.heap.size w0 wx→wx.cell? ⟨w.heap.size,0,none⟩=some (.slice (some ⟨b,off,none⟩) n c)∧wx.cell? ⟨w.heap.size,2,none⟩=some (.int .i64 d)∧wx.cell? ⟨w.heap.size,4,none⟩=some (.int .i64 m) ∧
      wx.cell? ⟨b,off+i*10,none⟩=some (.int .i64 kd)∧wx.cell? ⟨b,off+i*10+1,none⟩=some (.int .i64 bd)∧wx.cell? ⟨b,off+i*10+2,none⟩=some (.int .i64 pc)∧wx.cell? ⟨b,off+i*10+3,none⟩=some (.int .i64 wn)∧wx.cell? ⟨b,off+i*10+4,none⟩=some (.int .i64 sg) ∧
      wx.cell? ⟨b,off+i*10+5,none⟩=some (.slice av recs.length cv)∧wx.cell? ⟨b,off+i*10+6,none⟩=some (.int .i64 er)∧wx.cell? ⟨b,off+i*10+7,none⟩=some (.int .i64 rd)∧wx.cell? ⟨b,off+i*10+8,none⟩=some (.int .i64 is)∧wx.cell? ⟨b,off+i*10+9,none⟩=some (.int .i64 tl):=fun wx h=>by
    refine ⟨?_,?_,?_,?_,?_,?_,?_,?_,?_,?_,?_,?_,?_⟩ <;> (first|exact cell_kept h c0|exact cell_kept h c2|exact cell_kept h c4|exact cell_kept h p0|exact cell_kept h p1|exact cell_kept h p2|exact cell_kept h p3|exact cell_kept h p4|exact cell_kept h p5|exact cell_kept h p6|exact cell_kept h p7|exact cell_kept h p8|exact cell_kept h p9)
  go_region_held3 (fun wx=>wx.cell? ⟨w.heap.size,0,none⟩=some (.slice (some ⟨b,off,none⟩) n c)∧wx.cell? ⟨w.heap.size,2,none⟩=some (.int .i64 d)∧wx.cell? ⟨w.heap.size,4,none⟩=some (.int .i64 m) ∧
      wx.cell? ⟨b,off+i*10,none⟩=some (.int .i64 kd)∧wx.cell? ⟨b,off+i*10+1,none⟩=some (.int .i64 bd)∧wx.cell? ⟨b,off+i*10+2,none⟩=some (.int .i64 pc)∧wx.cell? ⟨b,off+i*10+3,none⟩=some (.int .i64 wn)∧wx.cell? ⟨b,off+i*10+4,none⟩=some (.int .i64 sg) ∧
      wx.cell? ⟨b,off+i*10+5,none⟩=some (.slice av recs.length cv)∧wx.cell? ⟨b,off+i*10+6,none⟩=some (.int .i64 er)∧wx.cell? ⟨b,off+i*10+7,none⟩=some (.int .i64 rd)∧wx.cell? ⟨b,off+i*10+8,none⟩=some (.int .i64 is)∧wx.cell? ⟨b,off+i*10+9,none⟩=some (.int .i64 tl))
    (first|(with_reducible exact HF _ (Below.refl _ _))|(with_reducible exact HF _ (Below.refl _ _).drew)|(with_reducible exact HF _ hbx)|fail)
    (first|(go_at_call 23;(with_reducible refine (HM _ HB.out.drew).out.mono ?_);rintro e w3 ⟨rfl,hb3⟩;have hbx:=on_below (Below.refl w0.heap.size w0).drew hb3)|(go_at_call 54;(with_reducible refine (HA _).out.mono ?_);rintro e w4 ⟨rfl,rfl⟩))
  go_wp2
  go_ret
  exact ⟨ret_bool (by simp),on_below HB.out.drew hb3⟩
def SetPost (v : Pv) (l : List Ev) (w : World) (e : Ending) (w' : World) : Prop:=∃ r,e = .returned (.tuple #[v.val,r])∧Sl w.heap.size w' 8 r l.length (evcs l)∧Below w.heap.size w w'
end Go.Proofs.YtmimfkhkilijcaaGreatDoor
namespace Go.Proofs.YtmimfkhkilijcaaGreatDoor
open Go.ChangeShapes Go.WideShapes Go.ChangeAt Go.RowKit
section
variable {P : Program}
theorem loadVar_at {w : World} {g : Nat} {cs : List Value} {ty : TypeId} {d : TypeDesc} (h : At w g cs) (hu : P.underlying ty=some d) (hd : (match d with | .struct _ | .array _ _=>true|_=>false)=true) (hi : (P.info? ty).map (·.size)=some cs.length) :
    (loadVar ty ⟨g,0,none⟩).run P w = .ok (.agg cs.toArray) w:=by
  have hl : (loadCells ⟨g,0,none⟩ cs.length).run P w = .ok cs.toArray w :=
    run_loadCells_list (P:=P) w ⟨g,0,none⟩ cs (fun j v hv=>by
      obtain ⟨hj,rfl⟩:=List.getElem?_eq_some_iff.1 hv
      rw [Addr.add_lit,Nat.zero_add]
      exact (h.2 j hj).1)
  cases hq : P.info? ty with
  | none=>simp [hq] at hi
  | some i =>
    have hs : i.size=cs.length:=by simpa [hq] using hi
    have hagg : (isAgg ty).run P w = .ok true w:=by
      unfold isAgg
      rw [Sem.run_bind,run_underlying hu w]
      cases d <;> simp_all
    simp [loadVar,Sem.run_bind,hagg,sizeOf,typeInfo,hq,hs,hl]
theorem results_at1 {fn : Func} {p : Tmp} {ty : TypeId} (h : fn.results = #[.cell p ty]) (tmps : Array Value) {w : World} {g : Nat} {cs : List Value} {d : TypeDesc} (hp : tmps.getD p undef = .pointer (some ⟨g,0,none⟩)) (ha : At w g cs)
    (hu : P.underlying ty=some d) (hd : (match d with | .struct _ | .array _ _=>true|_=>false)=true) (hi : (P.info? ty).map (·.size)=some cs.length) : (results fn tmps).run P w = .ok (.agg cs.toArray) w:=by
  have hp' : tmps[p]?.getD undef = .pointer (some ⟨g,0,none⟩):=by simpa using hp
  simp [results,h,hp',asAddr,loadVar_at ha hu hd hi]
theorem results_at2 {fn : Func} {p u : Tmp} {ty : TypeId} (h : fn.results = #[.cell p ty,.tmp u]) (tmps : Array Value) {w : World} {g : Nat} {cs : List Value} {d : TypeDesc} (hp : tmps.getD p undef = .pointer (some ⟨g,0,none⟩)) (ha : At w g cs)
    (hu : P.underlying ty=some d) (hd : (match d with | .struct _ | .array _ _=>true|_=>false)=true) (hi : (P.info? ty).map (·.size)=some cs.length) : (results fn tmps).run P w = .ok (.tuple #[.agg cs.toArray,tmps.getD u undef]) w:=by
  have hp' : tmps[p]?.getD undef = .pointer (some ⟨g,0,none⟩):=by simpa using hp
  simp [results,h,hp',asAddr,loadVar_at ha hu hd hi,Result.andThen]
theorem results_at3 {fn : Func} {p u v : Tmp} {ty : TypeId} (h : fn.results = #[.cell p ty,.tmp u,.tmp v]) (tmps : Array Value) {w : World} {g : Nat} {cs : List Value} {d : TypeDesc} (hp : tmps.getD p undef = .pointer (some ⟨g,0,none⟩)) (ha : At w g cs)
    (hu : P.underlying ty=some d) (hd : (match d with | .struct _ | .array _ _=>true|_=>false)=true) (hi : (P.info? ty).map (·.size)=some cs.length) : (results fn tmps).run P w = .ok (.tuple #[.agg cs.toArray,tmps.getD u undef,tmps.getD v undef]) w:=by
  have hp' : tmps[p]?.getD undef = .pointer (some ⟨g,0,none⟩):=by simpa using hp
  simp [results,h,hp',asAddr,loadVar_at ha hu hd hi,Result.andThen]
end
theorem At.all5 {w : World} {g : Nat} {a0 a1 a2 a3 a4 : Value} (h : At w g [a0,a1,a2,a3,a4]) (x0 x1 x2 x3 x4 : Value) : At (((((w.setCell ⟨g,0,none⟩ x0).setCell ⟨g,1,none⟩ x1).setCell ⟨g,2,none⟩ x2).setCell ⟨g,3,none⟩ x3).setCell ⟨g,4,none⟩ x4) g [x0,x1,x2,x3,x4]:=by
  simpa using (((((h.set 0 (by simp) x0).set 1 (by simp) x1).set 2 (by simp) x2).set 3 (by simp) x3).set 4 (by simp) x4)
theorem Below.all5 {B : Nat} {a w : World} (h : Below B a w) {g : Nat} (hg : B≤g) (x0 x1 x2 x3 x4 : Value) : Below B a (((((w.setCell ⟨g,0,none⟩ x0).setCell ⟨g,1,none⟩ x1).setCell ⟨g,2,none⟩ x2).setCell ⟨g,3,none⟩ x3).setCell ⟨g,4,none⟩ x4) :=
  ((((h.setCell hg x0).setCell hg x1).setCell hg x2).setCell hg x3).setCell hg x4
theorem Upd.all5 {S : Nat→Prop} {a w : World} (h : Upd S a w) {g : Nat} (hg : g<a.heap.size→S g) (x0 x1 x2 x3 x4 : Value) : Upd S a (((((w.setCell ⟨g,0,none⟩ x0).setCell ⟨g,1,none⟩ x1).setCell ⟨g,2,none⟩ x2).setCell ⟨g,3,none⟩ x3).setCell ⟨g,4,none⟩ x4) :=
  ((((h.setCell (p:=⟨g,0,none⟩) hg x0).setCell (p:=⟨g,1,none⟩) hg x1).setCell (p:=⟨g,2,none⟩) hg x2).setCell (p:=⟨g,3,none⟩) hg x3).setCell (p:=⟨g,4,none⟩) hg x4
open PHist PRing PSat PClamp PBound PFrame PSign PTree PEv
theorem ref_refused (a : Option Addr) (n c : Nat) (l : List Pv) (s : St) (i : Int) (w : World) (hr : RowP w a l) (hn : n=l.length) (hl : l.map (·.p)=s.ps) (hok : s.Ok) (o : Bool) (ho : s.refused i=o) :
    Calls Tryz.prog 98 #[.agg #[.slice a n c,.int .i64 s.timeout,.int .i64 s.drift,.int .i64 s.clock,.int .i64 s.now],.int .i64 i] w fun e w'=>e = .returned (.bool o)∧Below w.heap.size w w':=by
  subst hn
  have hlen : l.length=s.ps.length:=by rw [← hl,List.length_map]
  have hb0 : Below w.heap.size w (w.alloc (.cells #[.slice a l.length c,.int .i64 s.timeout,.int .i64 s.drift,.int .i64 s.clock,.int .i64 s.now] 45)):=(Below.refl w.heap.size w).alloc (Nat.le_refl _) _
  have HB:=Lib.hid hb0
  have hr0:=hr.on hb0
  have hA:=At.alloc w [.slice a l.length c,.int .i64 s.timeout,.int .i64 s.drift,.int .i64 s.clock,.int .i64 s.now] 45
  by_cases h0 : 0≤i∧i<s.ps.length
  · obtain ⟨k,rfl⟩ : ∃ k : Nat,i=k:=⟨i.toNat,by omega⟩
    have hk : k<l.length:=by omega
    have hlk : (l[k]).p=pat s.ps k:=by
      rw [pat_lt (by omega)]
      simp only [← hl,List.getElem_map]
    have hpk:=hok.pt _ (pat_mem (show k<s.ps.length by omega))
    obtain ⟨b,off,rfl,-,-⟩:=hr.row.at_ k hk
    have hb8:=hr0.cell k hk
    obtain ⟨hb,-,-,-,-,-,-,-,-,p8,-⟩:=hb8
    have e8 : ((l[k]).p).is=ss s.ps k:=by rw [hlk];rfl
    rw [e8] at p8
    have hmk : (l[k]).p.mark=kk s.ps k:=by rw [hlk];rfl
    have HP:=fun o (ho : decide (add s.now s.drift<kk s.ps k)=o)=>Lib.hid (ref_paused (some ⟨b,off,none⟩) l.length c l s.timeout s.drift s.clock s.now k _ hr0 rfl hk (by rw [hlk];exact hpk) (by have:=hok.dr;unfold in64;omega) hok.nw (by have:=hok.n;omega) o (by rw [hmk];exact ho))
    have hro : s.refused (k : Nat)=(decide (1<ss s.ps k) || decide (add s.now s.drift<kk s.ps k)):=by
      unfold St.refused
      rw [decide_eq_false (show ¬ ¬ (0≤(k : Int)∧(k : Int)<s.ps.length) by omega),Bool.false_or,Int.toNat_natCast]
    rw [hro] at ho
    clear hr hr0 hok hpk hlen hro hlk hmk e8
    have hkl : (k : Int)<(l.length : Int):=by omega
    generalize l.length=n at *
    generalize ss s.ps k=z at *
    by_cases h1 : 1<z
    · rw [decide_eq_true h1,Bool.true_or] at ho
      subst ho
      clear HP h0
      go_enter Tryz.func98,Tryz.ntmps98
      go_wp2
      go_ret
      exact ⟨rfl,HB.out⟩
    · rw [decide_eq_false h1,Bool.false_or] at ho
      have HP1:=HP o ho
      have h1' : z≤1:=by omega
      clear HP h0 h1 ho
      go_enter Tryz.func98,Tryz.ntmps98
      go_wp2_with (first|(go_at_call 144;(with_reducible refine HP1.out.mono ?_);rintro e w3 ⟨rfl,hb3⟩))
      go_ret
      exact ⟨ret_bool (by simp [show ¬ ((k : Int)<0) by omega,show ¬ (n≤k) by omega,show ¬ (1<z) by omega]),on_below HB.out hb3⟩
  · have hro : s.refused i=true:=by unfold St.refused;rw [decide_eq_true h0,Bool.true_or,Bool.true_or]
    rw [hro] at ho
    subst ho
    rw [← hlen] at h0
    clear hr hr0 hok hlen hro
    generalize l.length=n at *
    by_cases h1 : i<0
    · clear h0
      go_enter Tryz.func98,Tryz.ntmps98
      go_wp2
      go_ret
      exact ⟨rfl,HB.out⟩
    · have h1' : 0≤i:=by omega
      have h2 : (n : Int)≤i:=by omega
      clear h0 h1
      go_enter Tryz.func98,Tryz.ntmps98
      go_wp2
      go_ret
      exact ⟨rfl,HB.out⟩
theorem Sl.drew {B : Nat} {w : World} {size : Nat} {v : Value} {n : Nat} {xs : List Value} (h : Sl B w size v n xs) : Sl B w.drew size v n xs:=h.upd (S:=fun _=>False) ((Upd.refl _ _).drew) (fun _ _ h=>h)
theorem ev_row {B N : Nat} {w : World} {T : TypeId} (v : Ev) (hN : w.heap.size=N) (hB : B≤w.heap.size) : Sl B (w.alloc (.cells (evc v).toArray T)) 8 (.slice (some ⟨N,0,none⟩) 1 1) 1 (evcs [v]):=by
  subst hN
  have h:=Sl.made (B:=B) w (evc v).toArray T 8 1 1 hB (Nat.le_refl _) (by unfold maxLen;omega) (by simp [evc_len])
  simp only [Nat.one_mul] at h
  rw [show (evc v).toArray.toList.take 8=evcs [v] by
    show (evc v).take 8=_
    rw [List.take_of_length_le (by rw [evc_len];exact Nat.le_refl _)]
    simp [evcs]] at h
  exact h
theorem settle_at (kd bd pc wn sg : Int) (a : Option Addr) (n c er rd : Nat) (is tl : Int) (w : World) :
    At ((w.alloc (.cells #[.int .i64 kd,.int .i64 bd,.int .i64 pc,.int .i64 wn,.int .i64 sg,.slice a n c,.int .i64 er,.int .i64 rd,.int .i64 is,.int .i64 tl] 62)).alloc (.cells #[.int .i64 kd,.int .i64 bd,.int .i64 pc,.int .i64 wn,.int .i64 sg,.slice a n c,.int .i64 er,.int .i64 rd,.int .i64 is,.int .i64 tl] 62)) (w.heap.size+1)
      [.int .i64 kd,.int .i64 bd,.int .i64 pc,.int .i64 wn,.int .i64 sg,.slice a n c,.int .i64 er,.int .i64 rd,.int .i64 is,.int .i64 tl]:=by
  have h:=At.alloc (w.alloc (.cells #[.int .i64 kd,.int .i64 bd,.int .i64 pc,.int .i64 wn,.int .i64 sg,.slice a n c,.int .i64 er,.int .i64 rd,.int .i64 is,.int .i64 tl] 62)) [.int .i64 kd,.int .i64 bd,.int .i64 pc,.int .i64 wn,.int .i64 sg,.slice a n c,.int .i64 er,.int .i64 rd,.int .i64 is,.int .i64 tl] 62
  rw [World.size_alloc] at h
  exact h
theorem ref_settle (v : Pv) (i : Nat) (w : World) :
    Calls Tryz.prog 51 #[v.val,.int .i64 i] w (SetPost { v with p:=settled v.p } (faults v.p i) w):=by
  obtain ⟨⟨⟨kd,bd,pc,wn,sg⟩,recs,er,rd,is,tl⟩,a,c⟩:=v
  have HB : Hid (∀ o1 o2 : Obj,Below w.heap.size w ((w.alloc o1).alloc o2)):=fun o1 o2=>((Below.refl _ _).alloc (Nat.le_refl _) _).alloc (by simp) _
  simp only [Pv.val]
  by_cases hrd : rd<recs.length
  · have e1 : settled ⟨⟨kd,bd,pc,wn,sg⟩,recs,er,rd,is,tl⟩=⟨⟨kd,bd,pc,wn,sg⟩,recs,er,rd,is,tl⟩:=if_pos hrd
    have e2 : faults ⟨⟨kd,bd,pc,wn,sg⟩,recs,er,rd,is,tl⟩ i=[]:=if_pos hrd
    rw [e1,e2]
    clear e1 e2
    go_enter Tryz.func51,Tryz.ntmps51
    go_wp2
    refine bodyPost_ret (results_at2 (fn:=Tryz.f51) rfl _ rfl (settle_at kd bd pc wn sg a recs.length c er rd is tl w) Tryz.underlying62 rfl (by kernel_rfl)) rfl ⟨.slice none 0 0,rfl,Sl.nil _ _ _,HB.out _ _⟩
  · have hrd' : recs.length≤rd:=by omega
    by_cases her : er=0
    · have e1 : settled ⟨⟨kd,bd,pc,wn,sg⟩,recs,er,rd,is,tl⟩=⟨⟨kd,bd,pc,wn,sg⟩,recs,er,rd,2,tl⟩:=by unfold settled;rw [if_neg hrd,if_pos her]
      have e2 : faults ⟨⟨kd,bd,pc,wn,sg⟩,recs,er,rd,is,tl⟩ i=[]:=by unfold faults;rw [if_neg hrd,if_pos her]
      rw [e1,e2]
      clear e1 e2 hrd
      subst her
      go_enter Tryz.func51,Tryz.ntmps51
      go_wp2
      refine bodyPost_ret (results_at2 (fn:=Tryz.f51) rfl _ rfl (settle_at kd bd pc wn sg a recs.length c 0 rd 2 tl w) Tryz.underlying62 rfl (by kernel_rfl)) rfl ⟨.slice none 0 0,rfl,Sl.nil _ _ _,HB.out _ _⟩
    · have e1 : settled ⟨⟨kd,bd,pc,wn,sg⟩,recs,er,rd,is,tl⟩=⟨⟨kd,bd,pc,wn,sg⟩,recs,er,rd,3,tl⟩:=by unfold settled;rw [if_neg hrd,if_neg her]
      have e2 : faults ⟨⟨kd,bd,pc,wn,sg⟩,recs,er,rd,is,tl⟩ i=[.fault i er]:=by unfold faults;rw [if_neg hrd,if_neg her]
      rw [e1,e2]
      clear e1 e2 hrd
      have her' : ((er : Int) == 0)=false:=by rw [beq_eq_false_iff_ne];omega
      clear her
      go_enter Tryz.func51,Tryz.ntmps51
      go_wp2
      go_region
      go_wp2
      refine bodyPost_ret (results_at2 (fn:=Tryz.f51) rfl _ rfl ((((settle_at kd bd pc wn sg a recs.length c er rd 3 tl w).on ((Below.refl _ _).alloc (Nat.le_refl _) _)).drew)) Tryz.underlying62 rfl (by kernel_rfl)) rfl ⟨.slice (some ⟨w.heap.size+1+1,0,none⟩) 1 1,rfl,(ev_row (B:=w.heap.size) (.fault i er) (by simp) (by simp;omega)).drew,((HB.out _ _).alloc (by simp;omega) _).drew⟩
theorem cell_setCells_out (g : Nat) : ∀ (vs : List Value) (off : Nat) (w : World) (q : Nat),(q<off∨off+vs.length≤q)→(w.setCells g off vs).cell? ⟨g,q,none⟩=w.cell? ⟨g,q,none⟩
  | [],_,_,_,_=>rfl
  | v::vs,off,w,q,h=>by
    show ((w.setCell ⟨g,off,none⟩ v).setCells g (off+1) vs).cell? ⟨g,q,none⟩=_
    rw [List.length_cons] at h
    rw [cell_setCells_out g vs (off+1) _ q (by omega)]
    exact World.cell?_setCell_other w ⟨g,off,none⟩ ⟨g,q,none⟩ v (fun e=>by have:=congrArg Addr.off e;simp only at this;omega)
theorem put_row {B : Nat} {w : World} {g off n c : Nat} {l : List Pv} (h : Sl B w 10 (.slice (some ⟨g,off,none⟩) n c) n (pvs l)) (hn : n=l.length) (i : Nat) (hi : i<l.length) (v : Pv) :
    RowG (w.setCells g (off+i*10) v.cells) 10 Pv.cells (some ⟨g,off,none⟩) (l.set i v):=by
  rcases h.2 with ⟨h1,h2⟩|⟨g',off',cap,h1,h2,h3,h4,h5,h6,h7⟩
  · cases h1
  · cases h1
    have hu:=upd_setCells g (off+i*10) v.cells w
    refine ⟨fun k hk=>⟨g,off,rfl,Nat.lt_of_lt_of_le h3 hu.size,fun j hj=>?_⟩⟩
    rw [List.length_set] at hk
    by_cases e : k=i
    · subst e
      rw [List.getElem_set_self]
      rw [Nat.add_assoc,← Nat.add_assoc]
      refine cell_setCells_in g v.cells (off+k*10) w (fun q hq=>?_) j hj
      have hq : q<10:=hq
      rw [Nat.add_assoc]
      exact (h7 (k*10+q) (by omega)).1
    · rw [List.getElem_set_ne (fun h=>e h.symm)]
      rw [cell_setCells_out g _ _ _ _ (by show _∨off+i*10+10≤_;omega),← pvs_at l k j hk hj,Nat.add_assoc]
      exact h6 _ (by omega)
def WithPost (n : Nat) (l : List Pv) (t d k m : Int) (w : World) (e : Ending) (w' : World) : Prop :=
  ∃ a' c',e = .returned (.agg #[.slice a' n c',.int .i64 t,.int .i64 d,.int .i64 k,.int .i64 m])∧RowP w' a' l∧Below w.heap.size w w'∧∀ p,a'=some p→w.heap.size≤p.block
theorem four_at (w : World) (A P Z : List Value) (T1 T2 T3 T4 : TypeId) (hA : ∀ u∈A,True) :
    At ((((w.alloc (.cells A.toArray T1)).alloc (.cells P.toArray T2)).alloc (.cells Z.toArray T3)).alloc (.cells #[] T4)) w.heap.size A∧At ((((w.alloc (.cells A.toArray T1)).alloc (.cells P.toArray T2)).alloc (.cells Z.toArray T3)).alloc (.cells #[] T4)) (w.heap.size+1) P ∧
    At ((((w.alloc (.cells A.toArray T1)).alloc (.cells P.toArray T2)).alloc (.cells Z.toArray T3)).alloc (.cells #[] T4)) (w.heap.size+1+1) Z∧Below w.heap.size w ((((w.alloc (.cells A.toArray T1)).alloc (.cells P.toArray T2)).alloc (.cells Z.toArray T3)).alloc (.cells #[] T4)):=by
  have e:=fun (w : World) (o : Obj)=>(Below.refl w.heap.size w).alloc (Nat.le_refl _) o
  have h1:=At.alloc w A T1
  have h2:=At.alloc (w.alloc (.cells A.toArray T1)) P T2
  have h3:=At.alloc ((w.alloc (.cells A.toArray T1)).alloc (.cells P.toArray T2)) Z T3
  simp only [World.size_alloc] at h2 h3
  refine ⟨((h1.on (e _ _)).on (e _ _)).on (e _ _),(h2.on (e _ _)).on (e _ _),h3.on (e _ _),on_below (on_below (on_below (e _ _) (e _ _)) (e _ _)) (e _ _)⟩
theorem sl_free {B : Nat} {w : World} {size g off n c m : Nat} {xs : List Value} (h : Sl B w size (.slice (some ⟨g,off,none⟩) n c) m xs) (i : Nat) (hi : i<m) : B≤g∧g<w.heap.size∧∀ q,q<size→w.frozen? ⟨g,off+i*size+q,none⟩=false:=by
  rcases h.2 with ⟨h1,h2⟩|⟨g',off',cap,h1,h2,h3,h4,h5,h6,h7⟩
  · omega
  · cases h1
    refine ⟨h2,h3,fun q hq=>?_⟩
    rw [Nat.add_assoc]
    refine (h7 (i*size+q) ?_).2
    have h8:=Nat.mul_le_mul_right size (show i+1≤c by omega)
    rw [Nat.succ_mul] at h8
    omega
theorem ref_with (a : Option Addr) (n c : Nat) (l : List Pv) (t d k m : Int) (i : Nat) (v : Pv) (w : World) (hr : RowP w a l) (hn : n=l.length) (hi : i<l.length) (hv : PvOk w v) (hl : l.length≤1000) :
    Calls Tryz.prog 55 #[.agg #[.slice a n c,.int .i64 t,.int .i64 d,.int .i64 k,.int .i64 m],.int .i64 i,v.val] w (WithPost n (l.set i v) t d k m w):=by
  obtain ⟨i0,hi0,hz0,hz1,hz2⟩:=info_parts info_pv
  have hvc : v.cells=v.cells:=rfl
  have HV:=Lib.hid hv
  have HPR:=fun {B : Nat} {w : World} {g off c : Nat} (h : Sl B w 10 (.slice (some ⟨g,off,none⟩) l.length c) l.length (pvs l))=>Lib.hid (put_row h rfl i hi v)
  obtain ⟨⟨⟨kd,bd,pc,wn,sg⟩,recs,er,rd,is,tl⟩,av,cv⟩:=v
  subst hn
  simp only [Pv.val]
  obtain ⟨ba,offa,rfl,-,-⟩:=hr.row.at_ i hi
  obtain ⟨hAs,hAp,hAz,hB⟩:=four_at w [.slice (some ⟨ba,offa,none⟩) l.length c,.int .i64 t,.int .i64 d,.int .i64 k,.int .i64 m] [.int .i64 kd,.int .i64 bd,.int .i64 pc,.int .i64 wn,.int .i64 sg,.slice av recs.length cv,.int .i64 er,.int .i64 rd,.int .i64 is,.int .i64 tl] [.slice none 0 0,.int .i64 0,.int .i64 0,.int .i64 0,.int .i64 0] 45 62 45 62 (fun _ _=>trivial)
  have hrW:=hr.on hB
  have hs0 : Sl (w.heap.size+3) ((((w.alloc (.cells #[.slice (some ⟨ba,offa,none⟩) l.length c,.int .i64 t,.int .i64 d,.int .i64 k,.int .i64 m] 45)).alloc (.cells #[.int .i64 kd,.int .i64 bd,.int .i64 pc,.int .i64 wn,.int .i64 sg,.slice av recs.length cv,.int .i64 er,.int .i64 rd,.int .i64 is,.int .i64 tl] 62)).alloc (.cells #[.slice none 0 0,.int .i64 0,.int .i64 0,.int .i64 0,.int .i64 0] 45)).alloc (.cells #[] 62)) 10 (.slice (some ⟨w.heap.size+1+1+1,0,none⟩) 0 0) 0 []:=by
    have h:=Sl.made (B:=w.heap.size+3) (((w.alloc (.cells #[.slice (some ⟨ba,offa,none⟩) l.length c,.int .i64 t,.int .i64 d,.int .i64 k,.int .i64 m] 45)).alloc (.cells #[.int .i64 kd,.int .i64 bd,.int .i64 pc,.int .i64 wn,.int .i64 sg,.slice av recs.length cv,.int .i64 er,.int .i64 rd,.int .i64 is,.int .i64 tl] 62)).alloc (.cells #[.slice none 0 0,.int .i64 0,.int .i64 0,.int .i64 0,.int .i64 0] 45)) #[] 62 10 0 0 (by simp) (Nat.le_refl _) (Nat.zero_le _) (by simp)
    simpa using h
  have hmx : 0+l.length≤maxLen:=by unfold maxLen;omega
  have hlk : i<l.length:=hi
  go_enter Tryz.func55,Tryz.ntmps55
  go_upto_region 2 with (at_builtin;refine wpList_append_sl _ rfl (.tmp 8) (.tmp 10) 43 43 rfl 62 i0 _ 96 Tryz.underlying43 hi0 hz0 hz1 hz2 rfl rfl hs0 _ l.length (pvs l) rfl (src_pv Tryz.underlying43 _ _ _ _ l hrW rfl) hmx (by omega) (by simp) ?_;intro v1 w1 k1 k2 k3)
  rw [Nat.zero_add,List.nil_append] at k1
  obtain ⟨g1,off1,cap1,rfl,hg1,hg1l,-⟩:=k1.at_ (by omega)
  have hAs1:=hAs.upd k2 (fun e=>by have:=(hs0.lt _ e).1;omega)
  have hAp1:=hAp.upd k2 (fun e=>by have:=(hs0.lt _ e).1;omega)
  have hAz1:=hAz.upd k2 (fun e=>by have:=(hs0.lt _ e).1;omega)
  have hB1 : Below w.heap.size w w1:=hB.upd k2 hB.size (fun i _ e=>by have:=(hs0.lt _ e).1;omega)
  have hR1:=HPR k1
  have hrow:=RowP.of_sl k1 rfl (fun v hv=>((hr.ok v hv).on hB1))
  obtain ⟨hgb,q0,q1,q2,q3,q4,q5,q6,q7,q8,q9⟩:=hrow.cell i hlk
  obtain ⟨-,-,hfr⟩:=sl_free k1 i hlk
  have f0:=hfr 0 (by omega)
  have f1:=hfr 1 (by omega)
  have f2:=hfr 2 (by omega)
  have f3:=hfr 3 (by omega)
  have f4:=hfr 4 (by omega)
  have f5:=hfr 5 (by omega)
  have f6:=hfr 6 (by omega)
  have f7:=hfr 7 (by omega)
  have f8:=hfr 8 (by omega)
  have f9:=hfr 9 (by omega)
  rw [Nat.add_zero] at f0
  clear hrow hAs hAp hAz hs0 hrW k1 k2 k3 hfr
  have hU1:=upd_setCells g1 (off1+i*10) [.int .i64 kd,.int .i64 bd,.int .i64 pc,.int .i64 wn,.int .i64 sg,.slice av recs.length cv,.int .i64 er,.int .i64 rd,.int .i64 is,.int .i64 tl] w1
  obtain ⟨-,e0,-,e1,-,e2,-,e3,-,e4,-,e5,-,e6,-,e7,-,e8,-,e9,-⟩:=At.ten hAp1
  have hkl : (i : Int)<(l.length : Int):=by omega
  have HR1:=hR1.out
  have HU:=Lib.hid (show RowG (w1.setCells g1 (off1+i*10) [.int .i64 kd,.int .i64 bd,.int .i64 pc,.int .i64 wn,.int .i64 sg,.slice av recs.length cv,.int .i64 er,.int .i64 rd,.int .i64 is,.int .i64 tl]) 10 Pv.cells (some ⟨g1,off1,none⟩) (l.set i ⟨⟨⟨kd,bd,pc,wn,sg⟩,recs,er,rd,is,tl⟩,av,cv⟩)∧Upd (fun b=>b=g1) w1 (w1.setCells g1 (off1+i*10) [.int .i64 kd,.int .i64 bd,.int .i64 pc,.int .i64 wn,.int .i64 sg,.slice av recs.length cv,.int .i64 er,.int .i64 rd,.int .i64 is,.int .i64 tl]) from ⟨HR1,hU1⟩)
  clear hR1 HR1 hU1
  go_cut [] (fun wx=>RowG wx 10 Pv.cells (some ⟨g1,off1,none⟩) (l.set i ⟨⟨⟨kd,bd,pc,wn,sg⟩,recs,er,rd,is,tl⟩,av,cv⟩)∧Upd (fun b=>b=g1) w1 wx)
  case first =>
    go_wp2_with fail
    go_meet
    exact HU.out
  case rest =>
    obtain ⟨hR2,hu2⟩:=hcut
    have hAs2:=hAs1.upd hu2 (fun e=>by omega)
    have hAz2:=hAz1.upd hu2 (fun e=>by omega)
    have hB2 : Below w.heap.size w wc:=hB1.upd hu2 hB1.size (fun i _ e=>by omega)
    have hG1 : Hid (w.heap.size≤g1):=by show w.heap.size≤g1;omega
    obtain ⟨hs0,s0,y0,s1,y1,s2,y2,s3,y3,s4,y4⟩:=hAs2.five
    obtain ⟨hz0',z0,u0,z1,u1,z2,u2,z3,u3,z4,u4⟩:=hAz2.five
    clear q0 q1 q2 q3 q4 q5 q6 q7 q8 q9 f0 f1 f2 f3 f4 f5 f6 f7 f8 f9 e0 e1 e2 e3 e4 e5 e6 e7 e8 e9 HPR HU
    have hT:=Lib.hid (fun x0 x1 x2 x3 x4=>At.all5 (hAz2.set_other (p:=⟨w.heap.size,0,none⟩) (by show w.heap.size≠w.heap.size+1+1;omega) (.slice (some ⟨g1,off1,none⟩) l.length cap1)) x0 x1 x2 x3 x4)
    have hUf:=Lib.hid (fun x0 x1 x2 x3 x4=>Upd.all5 ((Upd.refl (fun b=>b=w.heap.size∨b=w.heap.size+1+1) wc).setCell (p:=⟨w.heap.size,0,none⟩) (fun _=>.inl rfl) (.slice (some ⟨g1,off1,none⟩) l.length cap1)) (g:=w.heap.size+1+1) (fun _=>.inr rfl) x0 x1 x2 x3 x4)
    have hRo:=Lib.hid (show ∀ w' : World,Upd (fun b=>b=w.heap.size∨b=w.heap.size+1+1) wc w'→RowP w' (some ⟨g1,off1,none⟩) (l.set i ⟨⟨⟨kd,bd,pc,wn,sg⟩,recs,er,rd,is,tl⟩,av,cv⟩)∧Below w.heap.size w w' from fun w' h=>by
      have hb : Below w.heap.size w w':=hB2.upd h hB2.size (fun i _ e=>by omega)
      refine ⟨⟨hR2.upd h (fun p hp=>by cases hp;show ¬ (g1=_∨g1=_);omega),fun v hv=>?_⟩,hb⟩
      rcases List.mem_or_eq_of_mem_set hv with hv|rfl
      · exact (hr.ok v hv).on hb
      · exact HV.out.on hb)
    clear hAs2 hAz2 hAs1 hAz1 hB1 hB hB2 hR2 hu2 hAp1
    go_wp2
    refine bodyPost_ret (results_at1 (fn:=Tryz.f55) rfl _ rfl (hT.out _ _ _ _ _) Tryz.underlying45 rfl (by kernel_rfl)) rfl ⟨_,_,rfl,(hRo.out _ (hUf.out _ _ _ _ _)).1,(hRo.out _ (hUf.out _ _ _ _ _)).2,fun p hp=>by cases hp;exact hG1.out⟩
end Go.Proofs.YtmimfkhkilijcaaGreatDoor
namespace Go.Proofs.YtmimfkhkilijcaaGreatDoor
open Go.ChangeShapes Go.WideShapes Go.ChangeAt Go.RowKit
theorem step_append_mine {P : Program} {ops : Array Oper} {o : Oper} {a : Act} {w : World} {K : Act→World→Prop} {Q : Exit→Act→World→Prop} {E : Prop}
    (hg : o.guard=none) (s x : Operand) (t tx : TypeId) (hop : o.op=Op.call { callee:=Callee.builtin Builtin.append,args:=#[s,x],argTypes:=#[t,tx] })
    {B : Nat} {size : Nat} (e : TypeId) (i : TypeInfo) (z : Value) (bytes : Nat) (ht : P.underlying t=some (.slice e)) (hi : P.info? e=some i) (hz : i.zero=some z) (hsize : i.size=size) (hby : i.bytes=bytes) (hzs : z.cells.size=size)
    (v xv : Value) {n : Nat} {xs : List Value} (m : Nat) (news : List Value) (hv : a.eval s=v) (hx : a.eval x=xv) (h : Sl B w size v n xs) (hs : Src P size tx xv m news w)
    (h63 : n+m≤maxLen) (hbytes : (n+m)*bytes≤140737488355328) (hB : B≤w.heap.size)
    (hK : ∀ a1 c1 w',Sl B w' size (.slice a1 (n+m) c1) (n+m) (xs++news)→Upd (fun k=>v.ownBlock=some k) w w'→(∀ k,(Value.slice a1 (n+m) c1).ownBlock=some k→v.ownBlock=some k∨w.heap.size≤k)→K (a.put o.dst (.slice a1 (n+m) c1)) w') :
    if Region.wanted o (yielded ops a.tmps)=true then Oper.wp P o a w K Q else E:=by
  obtain ⟨v',w',hr,r1,r2,r3⟩:=run_append_sl (P:=P) w t tx o.type e i z bytes ht hi hz hsize hby hzs h xv m news hs h63 hbytes hB
  obtain ⟨a1,c1,rfl⟩:=r1.shape
  exact step_append_run hg s x t tx hop v xv hv hx hr (hK a1 c1 w' r1 r2 r3)
open PHist PRing PSat PClamp PBound PFrame PSign PTree PEv
def pm (l : List Pv) : List Value:=l.flatMap fun v=>[.int .i64 v.p.mark,.int .i64 v.p.is]
theorem pm_snoc (l : List Pv) (v : Pv) : pm (l++[v])=pm l++[.int .i64 v.p.mark,.int .i64 v.p.is]:=by simp [pm]
theorem pm_at : ∀ (l : List Pv) (j : Nat) (h : j<l.length),(pm l)[j*2]? = some (.int .i64 l[j].p.mark)∧(pm l)[j*2+1]? = some (.int .i64 l[j].p.is)
  | v::l,0,_=>⟨rfl,rfl⟩
  | v::l,j+1,h=>by
    have:=pm_at l j (by simpa using h)
    rw [show (j+1)*2=j*2+2 by omega,show j*2+2+1=(j*2+1)+2 by omega]
    exact this
theorem PRow.of_pm {B : Nat} {w : World} {v : Value} {n : Nat} {l : List Pv} {ps : List Pt} (hl : l.map (·.p)=ps) (hn : n=l.length) (h : Sl B w 2 v n (pm l)) : ∃ a b off c,v = .slice a n c∧(0<n→a=some ⟨b,off,none⟩)∧PRow w b off n (kk ps) (ss ps):=by
  subst hn
  have hp : ∀ j (hj : j<l.length),pat ps j=l[j].p:=fun j hj=>by
    rw [pat_lt (by rw [← hl,List.length_map];exact hj)]
    simp only [← hl,List.getElem_map]
  rcases h.2 with ⟨h1,h2⟩|⟨g,off,cap,h1,h2,h3,h4,h5,h6,h7⟩
  · exact ⟨none,0,0,0,by rw [h1,h2],fun h=>by omega,⟨fun h=>by omega,fun j hj=>by omega,fun j hj=>by omega⟩⟩
  · refine ⟨_,g,off,cap,h1,fun _=>rfl,⟨fun _=>h3,fun j hj=>⟨?_,(h7 (j*2) (by omega)).2⟩,fun j hj=>⟨?_,?_⟩⟩⟩
    · rw [h6 (j*2) (by omega),(pm_at l j hj).1]
      unfold kk;rw [hp j hj]
    · rw [Nat.add_assoc,h6 (j*2+1) (by omega),(pm_at l j hj).2]
      unfold ss;rw [hp j hj]
    · rw [Nat.add_assoc]
      exact (h7 (j*2+1) (by omega)).2
def AdvPost (a : Option Addr) (n c : Nat) (t d k m : Int) (l : List Ev) (w : World) (e : Ending) (w' : World) : Prop :=
  ∃ r,e = .returned (.tuple #[.agg #[.slice a n c,.int .i64 t,.int .i64 d,.int .i64 k,.int .i64 m],r])∧Sl w.heap.size w' 8 r l.length (evcs l)∧Below w.heap.size w w'
theorem ref_advance (a : Option Addr) (n c : Nat) (l : List Pv) (ps : List Pt) (t d k m : Int) (w : World) (hr : RowP w a l) (hn : n=l.length) (hl : l.map (·.p)=ps) (hok : ∀ p∈ps,p.Ok) (h8 : n≤1000) :
    Calls Tryz.prog 52 #[.agg #[.slice a n c,.int .i64 t,.int .i64 d,.int .i64 k,.int .i64 m]] w (AdvPost a n c t d k (further m ps) (marksE m ps) w):=by
  obtain ⟨i0,hi0,hz0,hz1,hz2⟩:=info_parts info_part
  have HL:=Lib.hid hl
  have HN:=Lib.hid hn
  have HOK:=Lib.hid hok
  clear hl hn hok
  have hA0:=At.alloc w [.slice a n c,.int .i64 t,.int .i64 d,.int .i64 k,.int .i64 m] 45
  have hA1:=At.alloc (w.alloc (.cells #[.slice a n c,.int .i64 t,.int .i64 d,.int .i64 k,.int .i64 m] 45)) [.slice none 0 0,.int .i64 0,.int .i64 0,.int .i64 0,.int .i64 0] 45
  rw [World.size_alloc] at hA1
  have e:=fun (w : World) (o : Obj)=>(Below.refl w.heap.size w).alloc (Nat.le_refl _) o
  have hA0':=(hA0.on (e _ (.cells #[.slice none 0 0,.int .i64 0,.int .i64 0,.int .i64 0,.int .i64 0] 45))).on (e _ (.cells #[] 153))
  have hA1':=hA1.on (e _ (.cells #[] 153))
  have hB0 : Below w.heap.size w (((w.alloc (.cells #[.slice a n c,.int .i64 t,.int .i64 d,.int .i64 k,.int .i64 m] 45)).alloc (.cells #[.slice none 0 0,.int .i64 0,.int .i64 0,.int .i64 0,.int .i64 0] 45)).alloc (.cells #[] 153)):=on_below (on_below (e _ _) (e _ _)) (e _ _)
  have hs0 : Sl (w.heap.size+2) (((w.alloc (.cells #[.slice a n c,.int .i64 t,.int .i64 d,.int .i64 k,.int .i64 m] 45)).alloc (.cells #[.slice none 0 0,.int .i64 0,.int .i64 0,.int .i64 0,.int .i64 0] 45)).alloc (.cells #[] 153)) 2 (.slice (some ⟨w.heap.size+1+1,0,none⟩) 0 0) 0 (pm (l.take 0)):=by
    have h:=Sl.made (B:=w.heap.size+2) ((w.alloc (.cells #[.slice a n c,.int .i64 t,.int .i64 d,.int .i64 k,.int .i64 m] 45)).alloc (.cells #[.slice none 0 0,.int .i64 0,.int .i64 0,.int .i64 0,.int .i64 0] 45)) #[] 153 2 0 0 (by simp) (Nat.le_refl _) (Nat.zero_le _) (by simp)
    simpa [pm] using h
  clear hA0 hA1 e
  go_enter Tryz.func52,Tryz.ntmps52
  go_wp2
  go_loopw [4,5] (fun v i wr=>∃ q : Nat,q≤n∧i = .int .i64 q∧Sl (w.heap.size+2) wr 2 v q (pm (l.take q))∧At wr w.heap.size [.slice a n c,.int .i64 t,.int .i64 d,.int .i64 k,.int .i64 m]∧At wr (w.heap.size+1) [.slice none 0 0,.int .i64 0,.int .i64 0,.int .i64 0,.int .i64 0]∧Below w.heap.size w wr) (fun _ i _=>n - (intOf i).toNat)
  case atStart=>exact ⟨0,Nat.zero_le _,rfl,hs0,hA0',hA1',hB0⟩
  case round =>
    clear hs0 hA0' hA1' hB0
    obtain ⟨q,hq,rfl,hsl,hAb,hAz,hbw⟩:=hrel
    obtain ⟨hgb,b0,y0,b1,y1,b2,y2,b3,y3,b4,y4⟩:=hAb.five
    by_cases hlt : q<n
    · have hql : q<l.length:=by rw [← HN.out];exact hlt
      have hrow:=hr.on hbw
      obtain ⟨b,off,rfl,hbl,-⟩:=hr.row.at_ q hql
      have hSN:=pm_snoc (l.take q) l[q]
      rw [← List.take_succ_eq_append_getElem hql] at hSN
      have hpo : (l[q]).p.Ok:=HOK.out _ (by rw [← HL.out];exact List.mem_map_of_mem (List.getElem_mem hql))
      have hcell:=fun (wx : World) (h : RowP wx (some ⟨b,off,none⟩) l)=>h.cell q hql
      have HM:=fun w' (h : RowP w' (some ⟨b,off,none⟩) l)=>Lib.hid (ref_mark l[q] w' (h.ok _ (List.getElem_mem hql)) hpo _ rfl)
      have HS:=Lib.hid hSN
      clear hSN hpo
      generalize l[q]=v at *
      obtain ⟨⟨⟨kd,bd,pc,wn,sg⟩,recs,er,rd,is,tl⟩,av,cv⟩:=v
      simp only [Pv.val] at HM hcell HS
      generalize hmk : (Pt.mark ⟨⟨kd,bd,pc,wn,sg⟩,recs,er,rd,is,tl⟩)=mk at *
      clear hmk
      generalize hE1 : pm (l.take (q+1))=E1 at *
      have HE1:=Lib.hid hE1
      clear hE1
      generalize pm (l.take q)=E0 at *
      obtain ⟨av',cv',rfl⟩:=hsl.shape
      have hm1 : q+1≤maxLen:=by unfold maxLen;omega
      have HF : ∀ wx,Upd (fun b=>(Value.slice av' q cv').ownBlock=some b) wr wx→wx.cell? ⟨w.heap.size,0,none⟩=some (.slice (some ⟨b,off,none⟩) n c)∧wx.cell? ⟨b,off+q*10,none⟩=some (.int .i64 kd)∧wx.cell? ⟨b,off+q*10+1,none⟩=some (.int .i64 bd)∧wx.cell? ⟨b,off+q*10+2,none⟩=some (.int .i64 pc)∧wx.cell? ⟨b,off+q*10+3,none⟩=some (.int .i64 wn)∧wx.cell? ⟨b,off+q*10+4,none⟩=some (.int .i64 sg)∧wx.cell? ⟨b,off+q*10+5,none⟩=some (.slice av recs.length cv)∧wx.cell? ⟨b,off+q*10+6,none⟩=some (.int .i64 er)∧wx.cell? ⟨b,off+q*10+7,none⟩=some (.int .i64 rd)∧wx.cell? ⟨b,off+q*10+8,none⟩=some (.int .i64 is)∧wx.cell? ⟨b,off+q*10+9,none⟩=some (.int .i64 tl):=fun wx h=>by
        have hB : Below w.heap.size w wx:=hbw.upd h hbw.size (fun i _ e=>by have:=(hsl.lt i e).1;omega)
        exact ⟨((hAb.upd h (fun e=>by have:=(hsl.lt _ e).1;omega)).five).2.1,(hcell wx (hr.on hB)).2⟩
      have HROW : ∀ wx,Below wr.heap.size wr wx→RowP wx (some ⟨b,off,none⟩) l:=fun wx h=>hrow.on h
      clear hcell hrow
      obtain ⟨-,r0,r1,r2,r3,r4,r5,r6,r7,r8,r9⟩:=HF wr (Upd.refl _ _)
      go_wp2
      go_region_held3 (fun wx=>wx.cell? ⟨w.heap.size,0,none⟩=some (.slice (some ⟨b,off,none⟩) n c)∧wx.cell? ⟨b,off+q*10,none⟩=some (.int .i64 kd)∧wx.cell? ⟨b,off+q*10+1,none⟩=some (.int .i64 bd)∧wx.cell? ⟨b,off+q*10+2,none⟩=some (.int .i64 pc)∧wx.cell? ⟨b,off+q*10+3,none⟩=some (.int .i64 wn)∧wx.cell? ⟨b,off+q*10+4,none⟩=some (.int .i64 sg)∧wx.cell? ⟨b,off+q*10+5,none⟩=some (.slice av recs.length cv)∧wx.cell? ⟨b,off+q*10+6,none⟩=some (.int .i64 er)∧wx.cell? ⟨b,off+q*10+7,none⟩=some (.int .i64 rd)∧wx.cell? ⟨b,off+q*10+8,none⟩=some (.int .i64 is)∧wx.cell? ⟨b,off+q*10+9,none⟩=some (.int .i64 tl))
        (first|(with_reducible exact HF _ (Upd.refl _ _))|(with_reducible exact HF _ (Upd.refl _ _).drew)|(with_reducible exact HF _ hux)|(with_reducible exact HF _ (hux.alloc _))|(with_reducible exact HF _ huz)|fail)
        (first|(go_at_call 23;(with_reducible refine (HM _ (HROW _ (Below.refl _ _).drew)).out.mono ?_);rintro e w3 ⟨rfl,hb3⟩;have hbx:=on_below (Below.refl wr.heap.size wr).drew hb3;have hux : Upd (fun b=>(Value.slice av' q cv').ownBlock=some b) wr w3:=Upd.of_below hbx (fun k hk h=>by omega))|(refine step_append_mine rfl (.tmp 15) (.tmp 29) 151 151 rfl 153 i0 (.agg #[.int .i64 0,.int .i64 0]) 16 Tryz.underlying151 hi0 hz0 hz1 hz2 rfl (.slice av' q cv') _ 1 [.int .i64 mk,.int .i64 is] rfl rfl (B:=w.heap.size+2) (xs:=E0) (n:=q) ((hsl.onW hbx).alloc _) (src_part Tryz.underlying151 _ mk is 153 _ rfl) hm1 (by omega) (by have:=hbx.size;have:=hAz.1;simp;omega) ?_;intro a1 c1 wz q1 q2 q3;have huz:=(hux.alloc (.cells #[.int .i64 mk,.int .i64 is] 153)).trans q2 (fun _ _ h=>h)))
      go_wp2_with fail
      go_roundw
      case rel =>
        refine ⟨q+1,by omega,by go_num,?_,(hAb.upd huz (fun e=>by have:=(hsl.lt _ e).1;omega)),(hAz.upd huz (fun e=>by have:=(hsl.lt _ e).1;omega)),hbw.upd huz hbw.size (fun i _ e=>by have:=(hsl.lt i e).1;omega)⟩
        rw [HE1.out,HS.out]
        exact q1
      case measure=>simp [intOf];omega
    · obtain rfl : q=n:=by omega
      rw [List.take_of_length_le (by rw [← HN.out];exact Nat.le_refl _)] at hsl
      obtain ⟨av,bv,ov,cv,rfl,hav,hP⟩:=PRow.of_pm HL.out HN.out hsl
      have hlen : ps.length=q:=by rw [← HL.out,List.length_map,HN.out]
      have HLE:=Lib.hid (ref_least17 av bv ov q cv (kk ps) (ss ps) wr hP hav (by omega) (least ps) (by unfold least;rw [hlen]))
      have hAz1:=hAz
      clear hsl hP hlt hq hlen hav
      by_cases hle : least ps≤m
      · have hfm:=Lib.hid (show further m ps=m from if_pos hle)
        have hme:=Lib.hid (show marksE m ps=[] from if_pos hle)
        have hzz : least ps≤m:=hle
        generalize least ps=z at *
        have hT:=Lib.hid (fun x0 x1 x2 x3 x4=>At.all5 hAz x0 x1 x2 x3 x4)
        have hBo:=Lib.hid (fun x0 x1 x2 x3 x4=>Below.all5 hbw (g:=w.heap.size+1) (by omega) x0 x1 x2 x3 x4)
        obtain ⟨hgz,z0,u0,z1,u1,z2,u2,z3,u3,z4,u4⟩:=hAz.five
        clear hAz hAz1 hAb
        go_wp2_with (first|(go_at_call 97;(with_reducible refine HLE.out.mono ?_);rintro e w5 ⟨rfl,rfl⟩))
        refine bodyPost_ret (results_at2 (fn:=Tryz.f52) rfl _ rfl (hT.out _ _ _ _ _) Tryz.underlying45 rfl (by kernel_rfl)) rfl ?_
        rw [hfm.out,hme.out]
        exact ⟨.slice none 0 0,rfl,Sl.nil _ _ _,hBo.out _ _ _ _ _⟩
      · have hfm:=Lib.hid (show further m ps=least ps from if_neg hle)
        have hme:=Lib.hid (show marksE m ps=[.mark (least ps)] from if_neg hle)
        have hzz : m<least ps:=by omega
        generalize least ps=z at *
        have hlt' : m<z:=by omega
        clear hle
        go_upto_region 10 with (first|(go_at_call 97;(with_reducible refine HLE.out.mono ?_);rintro e w5 ⟨rfl,rfl⟩))
        have hAb6:=hAb.set 4 (by simp) (.int .i64 z)
        simp only [List.set] at hAb6
        have hAz6:=hAz.set_other (p:=⟨w.heap.size,4,none⟩) (by show w.heap.size≠w.heap.size+1;omega) (.int .i64 z)
        have hbw6:=hbw.setCell (p:=⟨w.heap.size,4,none⟩) (Nat.le_refl _) (.int .i64 z)
        clear hAb hAz hAz1 b0 y0 b1 y1 b2 y2 b3 y3 b4 y4 hgb
        generalize wr.setCell ⟨w.heap.size,4,none⟩ (.int .i64 z)=w6 at *
        have hsz6:=hbw6.size
        have hN1 : w.heap.size≤w.heap.size+1:=by omega
        generalize w.heap.size+1=N1 at *
        have hT:=Lib.hid (fun x0 x1 x2 x3 x4=>At.all5 hAz6 x0 x1 x2 x3 x4)
        have hBo:=Lib.hid (fun x0 x1 x2 x3 x4=>Below.all5 hbw6 (g:=N1) hN1 x0 x1 x2 x3 x4)
        have hn6 : N1<w6.heap.size:=hAz6.1
        obtain ⟨hgb,b0,y0,b1,y1,b2,y2,b3,y3,b4,y4⟩:=hAb6.five
        obtain ⟨hgz,z0,u0,z1,u1,z2,u2,z3,u3,z4,u4⟩:=hAz6.five
        clear hAb6 hAz6 hbw6 hsz6 hN1 HLE HOK HL HN hr hi0 hz0 hz1 hz2 h8 hbw hzz hlt'
        go_wp2
        refine bodyPost_ret (results_at2 (fn:=Tryz.f52) rfl _ rfl ((hT.out _ _ _ _ _).on ((Below.refl _ _).alloc (Nat.le_refl _) _)) Tryz.underlying45 rfl (by kernel_rfl)) rfl ?_
        rw [hfm.out,hme.out]
        exact ⟨.slice (some ⟨w6.heap.size,0,none⟩) 1 1,rfl,ev_row (.mark z) (by simp) (hBo.out _ _ _ _ _).size,(hBo.out _ _ _ _ _).alloc (hBo.out _ _ _ _ _).size _⟩
theorem RowR.upd2 {S : Nat→Prop} {w w' : World} {a : Option Addr} {l : List R} (h : RowR w a l) (hu : Upd S w w') (hn : ∀ q,a=some q→¬ S q.block) : RowR w' a l :=
  ⟨h.len,fun i hi=>by
    obtain ⟨b,off,h1,h2,h3,h4,h5⟩:=h.at_ i hi
    have hs : ¬ S b:=hn _ h1
    exact ⟨b,off,h1,Nat.lt_of_lt_of_le h2 hu.size,by rw [hu.cell (p:=⟨b,off+i*3,none⟩) h2 hs];exact h3,by rw [hu.cell (p:=⟨b,off+i*3+1,none⟩) h2 hs];exact h4,by rw [hu.cell (p:=⟨b,off+i*3+2,none⟩) h2 hs];exact h5⟩,h.tm⟩
theorem PvOk.upd {S : Nat→Prop} {w w' : World} {v : Pv} (h : PvOk w v) (hu : Upd S w w') (hn : ∀ q,v.a=some q→0<v.p.recs.length→¬ S q.block) : PvOk w' v:=by
  refine ⟨?_,h.le,h.cap⟩
  rcases Nat.eq_zero_or_pos v.p.recs.length with h0|h0
  · exact ⟨h.row.len,fun i hi=>by omega,h.row.tm⟩
  · exact h.row.upd2 hu fun q hq=>hn q hq h0
end Go.Proofs.YtmimfkhkilijcaaGreatDoor
