/- Mod6; Mod7: what is reached of them. -/
import Derived.Test.YtmimfkhkilijcaaGreatDoorWq44
import Derived.Test.YtmimfkhkilijcaaGreatDoorWq32
set_option linter.unusedVariables false
set_option linter.unusedSimpArgs false
set_option maxRecDepth 100000
set_option maxHeartbeats 8000000
namespace Go.Proofs.YtmimfkhkilijcaaGreatDoor
open Go.ChangeShapes Go.WideShapes Go.ChangeAt Go.RowKit
open PHist PRing PSat PClamp PBound PFrame PSign PTree PEv
theorem rowg_none {α : Type} {w : World} {m : Nat} {f : α→List Value} {l : List α} (h : RowG w m f none l) : l=[]:=by
  cases l with
  | nil=>rfl
  | cons x l=>obtain ⟨b,off,h1,-⟩:=h.at_ 0 (by simp);cases h1
theorem flat_len {α : Type} (f : α→List Value) (m : Nat) (hf : ∀ x,(f x).length=m) : ∀ l : List α,(l.flatMap f).length=l.length*m
  | []=>by simp
  | x::l=>by rw [List.flatMap_cons,List.length_append,hf,flat_len f m hf l,List.length_cons,Nat.succ_mul];omega
theorem src_rowg {α : Type} {P : Program} {tx e' : TypeId} (hk : P.underlying tx=some (.slice e')) (w : World) (a : Option Addr) (n c m : Nat) (h0 : 0<m) (f : α→List Value) (hf : ∀ x,(f x).length=m) (h1 : ∀ x,∀ u∈f x,u.oneCell'=true) (l : List α) (h : RowG w m f a l) (hn : l.length=n) : Src P m tx (.slice a n c) n (l.flatMap f) w:=by
  subst hn
  by_cases hl : l.length=0
  · have e : l=[]:=List.eq_nil_of_length_eq_zero hl
    subst e
    cases a with
    | none=>exact Src.ofNil w hk _
    | some p=>exact Src.ofSlice w hk p 0 c [] (by simp) (fun j u hu=>by simp at hu) (fun u hu=>by cases hu)
  · obtain ⟨b,off,rfl,-,-⟩:=h.at_ 0 (by omega)
    refine Src.ofSlice w hk _ _ _ _ (flat_len f m hf l) (fun j u hu=>?_) (fun u hu=>by obtain ⟨x,-,hx⟩:=List.mem_flatMap.1 hu;exact h1 x u hx)
    have hj:=(List.getElem?_eq_some_iff.1 hu).1
    rw [flat_len f m hf] at hj
    have hq : j / m<l.length:=Nat.div_lt_of_lt_mul (by rw [Nat.mul_comm];exact hj)
    have hr : j % m<m:=Nat.mod_lt _ h0
    have hd : j / m*m+j % m=j:=Nat.div_add_mod' j m
    have e:=flat_nth f m hf l (j / m) hq (j % m) hr
    rw [hd,hu] at e
    have h2:=(h.cell (j / m) hq).2 (j % m) hr
    rw [Addr.add_lit,show off+j=off+j / m*m+j % m by omega,h2,← e]
theorem rul_one (r : Rul) : ∀ u∈r.cells,u.oneCell'=true:=by
  intro u hu
  simp only [Rul.cells,List.mem_cons,List.not_mem_nil,or_false] at hu
  rcases hu with rfl|rfl|rfl|rfl|rfl <;> rfl
theorem rul_len (r : Rul) : r.cells.length=5:=rfl
def ClPostN (a0 : Option Addr) (m n : Nat) (xs : List Value) (w : World) (e : Ending) (w' : World) : Prop:=∃ a c,e = .returned (.slice a n c)∧Sl w.heap.size w' m (.slice a n c) n xs∧Below w.heap.size w w'∧(a0=none→a=none∧c=0)
theorem cl_ptN (a : Option Addr) (n c : Nat) (xs : List Value) (w : World) (hs : ∀ w',Below w.heap.size w w'→Src Tryz.prog 10 189 (.slice a n c) n xs w') (ha : a=none→n=0∧xs=[]) (hb : n≤100000) :
    Calls Tryz.prog 223 #[.slice a n c] w (ClPostN a 10 n xs w):=by
  cases a with
  | none =>
    have q22 : ∀ (w : World) (a : Option Addr) (n c n' c' : Nat),(binOp .eql 189 (.slice a n c) (.slice none n' c')).run Tryz.prog w = .ok (.bool a.isNone) w:=fun w a n c n' c'=>Lib.run_eql_slice_nil w _ _ a n c n' c' Tryz.underlying189
    obtain ⟨rfl,rfl⟩:=ha rfl
    clear hs ha
    go_enter Tryz.func223,Tryz.ntmps223
    go_wp2
    go_ret
    exact ⟨none,0,rfl,Sl.nil _ _ _,Below.refl _ _,fun _=>⟨rfl,rfl⟩⟩
  | some ad =>
    refine (cl_pt (some ad) n c xs w hs ha hb).mono fun e w' h=>?_
    obtain ⟨v,h1,h2,h3⟩:=h
    obtain ⟨a',c',hv⟩:=h2.shape
    subst hv
    exact ⟨a',c',h1,h2,h3,fun h=>by cases h⟩
def ApPost (a0 : Option Addr) (rs : List Rul) (rn : Nat) (l : List Pv) (n : Nat) (t d k m : Int) (w : World) (e : Ending) (w' : World) : Prop :=
  ∃ ra rc a c,e = .returned (.agg #[.slice ra rn rc,.int .i64 t,.int .i64 d,.slice a n c,.int .i64 k,.int .i64 m])∧Sl w.heap.size w' 5 (.slice ra rn rc) rn (rs.flatMap Rul.cells)∧Sl w.heap.size w' 10 (.slice a n c) n (pvs l)∧Below w.heap.size w w'∧(∀ b,(Value.slice ra rn rc).ownBlock=some b→(Value.slice a n c).ownBlock≠some b)∧(a0=none→a=none∧c=0)
theorem mo_apart (ra : Option Addr) (rn rc : Nat) (rs : List Rul) (a : Option Addr) (n c : Nat) (l : List Pv) (t d k m : Int) (w : World) (hru : RowU w ra rs) (hrn : rn=rs.length) (hr : RowP w a l) (hn : n=l.length) (h8 : n≤1000) (hr8 : rn≤10000) :
    Calls Tryz.prog 175 #[.agg #[.slice ra rn rc,.int .i64 t,.int .i64 d,.slice a n c,.int .i64 k,.int .i64 m]] w (ApPost a rs rn l n t d k m w):=by
  have e:=fun (w : World) (o : Obj)=>(Below.refl w.heap.size w).alloc (Nat.le_refl _) o
  have hA:=(At.alloc w [.slice ra rn rc,.int .i64 t,.int .i64 d,.slice a n c,.int .i64 k,.int .i64 m] 191).on (e _ (.cells #[.slice none 0 0,.int .i64 0,.int .i64 0,.slice none 0 0,.int .i64 0,.int .i64 0] 191))
  have hZ:=At.alloc (w.alloc (.cells #[.slice ra rn rc,.int .i64 t,.int .i64 d,.slice a n c,.int .i64 k,.int .i64 m] 191)) [.slice none 0 0,.int .i64 0,.int .i64 0,.slice none 0 0,.int .i64 0,.int .i64 0] 191
  rw [World.size_alloc] at hZ
  have hB : Below w.heap.size w ((w.alloc (.cells #[.slice ra rn rc,.int .i64 t,.int .i64 d,.slice a n c,.int .i64 k,.int .i64 m] 191)).alloc (.cells #[.slice none 0 0,.int .i64 0,.int .i64 0,.slice none 0 0,.int .i64 0,.int .i64 0] 191)):=on_below (e _ _) (e _ _)
  have HRU:=fun w' (hb : Below w.heap.size w w')=>Lib.hid (cl_ru ra rn rc (rs.flatMap Rul.cells) w' (fun w'' hb'=>src_rowg Tryz.underlying22 w'' ra rn rc 5 (by omega) Rul.cells rul_len rul_one rs ((hru.below hb).below hb') hrn.symm) (fun hx=>by subst hx;have:=rowg_none hru;subst this;exact ⟨hrn,rfl⟩) (by omega))
  have HPT:=fun w' (hb : Below w.heap.size w w')=>Lib.hid (cl_ptN a n c (pvs l) w' (fun w'' hb'=>src_pv Tryz.underlying189 w'' a n c l ((hr.on hb).on hb') hn.symm) (fun hx=>by subst hx;have:=rowg_none hr.row;subst this;exact ⟨hn,rfl⟩) (by omega))
  clear hru hrn hr hn
  go_enter Tryz.func175,Tryz.ntmps175
  go_upto_region 1 with fail
  generalize (w.alloc (.cells #[.slice ra rn rc,.int .i64 t,.int .i64 d,.slice a n c,.int .i64 k,.int .i64 m] 191)).alloc (.cells #[.slice none 0 0,.int .i64 0,.int .i64 0,.slice none 0 0,.int .i64 0,.int .i64 0] 191)=w1 at *
  have hsz1 : w.heap.size+1<w1.heap.size:=hZ.1
  obtain ⟨-,p0,x0,p1,x1,p2,x2,p3,x3,p4,x4,p5,x5⟩:=hA.cells6
  have HR1:=HRU _ hB
  clear HRU
  go_upto_region 2 with (first|(go_at_call 222;(with_reducible refine HR1.out.mono ?_);intro e2 w2 hY;obtain ⟨v2,rfl,hs2,hb2⟩:=hY;obtain ⟨ra2,rc2,hv2⟩:=hs2.shape;subst hv2;obtain ⟨-,q0,y0,q1,y1,q2,y2,q3,y3,q4,y4,q5,y5⟩:=(hA.on hb2).cells6)|fail)
  have hA3:=(hA.on hb2).set 0 (by simp) (.slice ra2 rn rc2)
  simp only [List.set] at hA3
  have hZ3:=(hZ.on hb2).set_other (p:=⟨w.heap.size,0,none⟩) (by show w.heap.size≠w.heap.size+1;omega) (.slice ra2 rn rc2)
  have hB3:=(on_below hB hb2).setCell (p:=⟨w.heap.size,0,none⟩) (Nat.le_refl _) (.slice ra2 rn rc2)
  have hs3:=hs2.set_other (p:=⟨w.heap.size,0,none⟩) (by show w.heap.size<w1.heap.size;omega) (.slice ra2 rn rc2)
  clear p0 x0 p1 x1 p2 x2 p3 x3 p4 x4 p5 x5 q0 y0 q1 y1 q2 y2 q3 y3 q4 y4 q5 y5 hA hZ hs2 HR1
  have hsz3 : w1.heap.size≤(w2.setCell ⟨w.heap.size,0,none⟩ (.slice ra2 rn rc2)).heap.size:=Nat.le_trans hb2.size (by simp [World.setCell])
  generalize w2.setCell ⟨w.heap.size,0,none⟩ (.slice ra2 rn rc2)=w3 at *
  obtain ⟨-,p0,x0,p1,x1,p2,x2,p3,x3,p4,x4,p5,x5⟩:=hA3.cells6
  have HP3:=HPT _ hB3
  clear HPT
  go_upto_region 3 with (first|(go_at_call 223;(with_reducible refine HP3.out.mono ?_);intro e4 w4 hY;obtain ⟨a4,c4,rfl,hs4,hb4,hnil⟩:=hY;obtain ⟨-,q0,y0,q1,y1,q2,y2,q3,y3,q4,y4,q5,y5⟩:=(hA3.on hb4).cells6)|fail)
  have hA5:=(hA3.on hb4).set 3 (by simp) (.slice a4 n c4)
  simp only [List.set] at hA5
  have hZ5:=(hZ3.on hb4).set_other (p:=⟨w.heap.size,3,none⟩) (by show w.heap.size≠w.heap.size+1;omega) (.slice a4 n c4)
  have hB5:=(on_below hB3 hb4).setCell (p:=⟨w.heap.size,3,none⟩) (Nat.le_refl _) (.slice a4 n c4)
  have hs5:=(hs3.onW hb4).set_other (p:=⟨w.heap.size,3,none⟩) (by show w.heap.size<w1.heap.size;omega) (.slice a4 n c4)
  have hs6:=hs4.set_other (p:=⟨w.heap.size,3,none⟩) (by show w.heap.size<w3.heap.size;omega) (.slice a4 n c4)
  have hne : ∀ b,(Value.slice ra2 rn rc2).ownBlock=some b→(Value.slice a4 n c4).ownBlock≠some b:=fun b h1 h2=>by
    have h3:=(hs3.lt b h1).2
    have h4:=(hs4.lt b h2).1
    omega
  clear p0 x0 p1 x1 p2 x2 p3 x3 p4 x4 p5 x5 q0 y0 q1 y1 q2 y2 q3 y3 q4 y4 q5 y5 hA3 hZ3 hs3 hs4 HP3 hB3 hB
  generalize w4.setCell ⟨w.heap.size,3,none⟩ (.slice a4 n c4)=w5 at *
  obtain ⟨-,p0,x0,p1,x1,p2,x2,p3,x3,p4,x4,p5,x5⟩:=hA5.cells6
  obtain ⟨-,q0,y0,q1,y1,q2,y2,q3,y3,q4,y4,q5,y5⟩:=hZ5.cells6
  have hT:=Lib.hid (fun x0 x1 x2 x3 x4 x5=>At.all6 hZ5 x0 x1 x2 x3 x4 x5)
  have hUf:=Lib.hid (fun x0 x1 x2 x3 x4 x5=>Upd.all6 (Upd.refl (fun b=>b=w.heap.size+1) w5) (g:=w.heap.size+1) (fun _=>rfl) x0 x1 x2 x3 x4 x5)
  have HNIL:=Lib.hid hnil
  clear hnil
  have HFI : Hid (∀ wf,Upd (fun b=>b=w.heap.size+1) w5 wf→ApPost a rs rn l n t d k m w (.returned (.agg #[.slice ra2 rn rc2,.int .i64 t,.int .i64 d,.slice a4 n c4,.int .i64 k,.int .i64 m])) wf):=fun wf hu =>
    ⟨ra2,rc2,a4,c4,rfl,(hs5.upd hu (fun b h1 h2=>by have:=(hs5.lt b h1).1;have h2 : b=w.heap.size+1:=h2;omega)).base (by omega),(hs6.upd hu (fun b h1 h2=>by have:=(hs6.lt b h1).1;have h2 : b=w.heap.size+1:=h2;omega)).base (by omega),hB5.upd hu hB5.size (fun b _ h2=>by have h2 : b=w.heap.size+1:=h2;omega),hne,HNIL.out⟩
  clear hA5 hZ5 hs5 hs6 hne hB5
  go_wp2_with fail
  refine bodyPost_ret (results_at1 (fn:=Tryz.f175) rfl _ rfl (hT.out _ _ _ _ _ _) Tryz.underlying191 rfl (by kernel_rfl)) rfl ?_
  exact HFI.out _ (hUf.out _ _ _ _ _ _)
theorem mo_tick_vain (K : Option Addr→Nat→List R→Prop) (B g : Nat) (ru : Value) (a : Option Addr) (n c : Nat) (l : List Pv) (ps : List Pt) (t d k m x : Int) (w : World) (h : MoS K B w g ru a n c l ps t d k m) (hx : x<0) :
    Calls Tryz.prog 179 #[.pointer (some ⟨g,0,none⟩),.int .i64 x] w (MoPost K B g ru a n c ps t d k m (fun b=>b=g∨(Value.slice a n c).ownBlock=some b) [] w):=by
  have HH:=Lib.hid h
  clear h
  go_enter Tryz.func179,Tryz.ntmps179
  go_wp2_with fail
  go_ret
  exact ⟨l,.slice none 0 0,rfl,Sl.nil _ _ _,HH.out,Upd.refl _ _⟩
theorem mo_tick (K : Option Addr→Nat→List R→Prop) (B g : Nat) (ru : Value) (a : Option Addr) (n c : Nat) (l : List Pv) (s : St) (x : Int) (w : World) (h : MoS K B w g ru a n c l s.ps s.timeout s.drift s.clock s.now) (hok : s.Ok) (hx : 0≤x) (hx2 : x≤9223372036854775807) :
    Calls Tryz.prog 179 #[.pointer (some ⟨g,0,none⟩),.int .i64 x] w (MoPost K B g ru a n c (s.tickS x).ps s.timeout s.drift (s.tickS x).clock (s.tickS x).now (fun b=>b=g∨(Value.slice a n c).ownBlock=some b) (s.tickE x) w):=by
  have hlen:=h.plen
  have hn8:=hok.n
  have HOK : Hid (∀ p∈s.ps.map (fun p=>p.wait (add s.clock x)),p.Ok):=(hok.tick x).pt
  have HADD:=fun wx=>Lib.hid (sat_add s.clock x wx hok.ck ⟨by omega,hx2⟩)
  unfold St.tickS St.tickE St.ticked
  obtain ⟨ps,tm,dr,ck,nw⟩:=s
  simp only at *
  generalize add ck x=ck2 at *
  have HLE:=Lib.hid hlen
  have hn8' : n≤8:=by omega
  clear hlen hok hn8
  generalize hf : (fun p : Pt=>p.wait ck2)=f at *
  have HF : Hid (∀ p : Pt,f p=p.wait ck2):=fun p=>by rw [← hf]
  clear hf
  have HADV:=fun (l' : List Pv) (wx : World) (h : MoS K B wx g ru a n c l' (ps.map f) tm dr ck2 nw)=>Lib.hid (mo_advance K B g ru a n c l' (ps.map f) tm dr ck2 nw wx h HOK.out (by omega))
  have hnx : ¬ x<0:=by omega
  obtain ⟨h1,hu1⟩:=h.setClock ck2
  obtain ⟨hgl,-,-,-,-,-,-,-,-,p4,x4,-,-⟩:=h.blk.cells6
  go_enter Tryz.func179,Tryz.ntmps179
  go_upto_region 4 with (first|(go_at_call 77;(with_reducible refine (HADD _).out.mono ?_);rintro e2 w2 ⟨rfl,rfl⟩)|fail)
  clear p4 x4 hgl h HADD hnx
  generalize w.setCell ⟨g,4,none⟩ (.int .i64 ck2)=w1 at *
  have HI0 : MoS K B w1 g ru a n c l (wq f ps 0) tm dr ck2 nw:=by rw [wq_zero];exact h1
  have hu1' : Upd (fun b=>b=g∨(Value.slice a n c).ownBlock=some b) w w1:=hu1.mono (fun _ _ h=>.inl h)
  obtain ⟨hgl,-,-,-,-,-,-,p3,x3,p4,x4,-,-⟩:=h1.blk.cells6
  go_wp2_with fail
  go_loopw [23] (fun i wr=>∃ (q : Nat) (l' : List Pv),q≤n∧i = .int .i64 q∧MoS K B wr g ru a n c l' (wq f ps q) tm dr ck2 nw∧Upd (fun b=>b=g∨(Value.slice a n c).ownBlock=some b) w wr) (fun i _=>n - (intOf i).toNat)
  case atStart=>exact ⟨0,l,Nat.zero_le _,rfl,HI0,hu1'⟩
  case round =>
    clear HI0 hu1 hu1' h1 p3 x3 p4 x4 hgl
    obtain ⟨q,l',hq,rfl,hM,hu⟩:=hrel
    obtain ⟨hgl,-,-,-,-,-,-,p3,x3,p4,x4,-,-⟩:=hM.blk.cells6
    by_cases hlt : q<n
    · have hql : q<l'.length:=by rw [← hM.len];exact hlt
      have hqp : q<ps.length:=by rw [← HLE.out];exact hlt
      obtain ⟨b,off,rfl,hBb,hbl,hbg,hfr⟩:=hM.at_ q hql
      have hcell:=hM.rowp.cell q hql
      have hpq : l'[q].p=ps[q]:=by
        have h1:=wq_at f ps q hqp
        rw [← hM.map,List.getElem?_map,List.getElem?_eq_getElem hql] at h1
        exact Option.some.inj h1
      have hF:=HF.out ps[q]
      rw [← hpq] at hF
      have hsm:=wq_same f ps q hqp
      have hst:=wq_set f ps q hqp
      rw [← hpq] at hsm hst
      have hM1:=fun (o : Obj)=>hM.on ((Below.refl wr.heap.size wr).alloc (Nat.le_refl _) o)
      have HPK:=fun (o : Obj) (v : Pv) (hv : l'[q]=v) (x : Int)=>(hM1 o).poke q 8 hql (by omega) v hv { v.p with is:=x } (.int .i64 x) rfl rfl
      have f8:=hfr 8 (by omega)
      have hu2:=fun (o : Obj)=>hu.alloc o
      clear hpq hfr
      generalize hv : l'[q]=v at *
      have HV:=Lib.hid hv
      clear hv
      obtain ⟨⟨⟨kd,bd,pc,wn,sg⟩,recs,er,rd,is,tl⟩,av,cv⟩:=v
      simp only at hcell hF hsm hst HPK
      obtain ⟨hbb,r0,r1,r2,r3,r4,r5,r6,r7,r8,r9⟩:=hcell
      have hP:=At.alloc wr [.int .i64 kd,.int .i64 bd,.int .i64 pc,.int .i64 wn,.int .i64 sg,.slice av recs.length cv,.int .i64 er,.int .i64 rd,.int .i64 is,.int .i64 tl] 256
      have hM2:=hM1 (.cells #[.int .i64 kd,.int .i64 bd,.int .i64 pc,.int .i64 wn,.int .i64 sg,.slice av recs.length cv,.int .i64 er,.int .i64 rd,.int .i64 is,.int .i64 tl] 256)
      have hu3:=hu2 (.cells #[.int .i64 kd,.int .i64 bd,.int .i64 pc,.int .i64 wn,.int .i64 sg,.slice av recs.length cv,.int .i64 er,.int .i64 rd,.int .i64 is,.int .i64 tl] 256)
      have hqi : (q : Int)<(n : Int):=by omega
      clear hM1 hu2 HPK
      go_upto_region 7 with fail
      clear r0 r1 r2 r3 r4 r5 r6 r7 r8 r9 p3 x3 p4 x4 hgl f8 hbb
      generalize wr.alloc (.cells #[.int .i64 kd,.int .i64 bd,.int .i64 pc,.int .i64 wn,.int .i64 sg,.slice av recs.length cv,.int .i64 er,.int .i64 rd,.int .i64 is,.int .i64 tl] 256)=w3 at *
      obtain ⟨-,q0,-,q1,-,q2,-,q3,-,q4,-,q5,-,q6,-,q7,-,q8,-,q9,-⟩:=hP.ten
      obtain ⟨hgl,-,-,-,-,-,-,p3,-,p4,-,-,-⟩:=hM2.blk.cells6
      have hcell:=hM2.rowp.cell q hql
      have f8:=(sl_free hM2.row q hlt).2.2 8 (by omega)
      have HPK:=fun mm=>(hM2.on (on_quiet (w:=w3) ⟨mm,rfl⟩)).poke q 8 hql (by omega) _ HV.out { (⟨⟨kd,bd,pc,wn,sg⟩,recs,er,rd,is,tl⟩ : Pt) with is:=1 } (.int .i64 1) rfl rfl
      have HM4:=fun mm=>hM2.on (on_quiet (w:=w3) ⟨mm,rfl⟩)
      have HU4:=fun mm=>hu3.drewN mm
      rw [HV.out] at hcell
      obtain ⟨hbb,r0,r1,r2,r3,r4,r5,r6,r7,r8,r9⟩:=hcell
      by_cases hw : is=0∧tl≤ck2
      · rw [show Pt.wait ⟨⟨kd,bd,pc,wn,sg⟩,recs,er,rd,is,tl⟩ ck2=⟨⟨kd,bd,pc,wn,sg⟩,recs,er,rd,1,tl⟩ from if_pos hw] at hF
        rw [hF] at hst
        obtain ⟨rfl,htl⟩:=hw
        have HST:=Lib.hid hst
        have HPKH:=fun mm=>Lib.hid (HPK mm)
        have HU5:=fun mm=>Lib.hid (HU4 mm)
        clear hst hsm hF HPK HM4 hM2 HU4 hu3 hP
        go_quiet (fail)
        all_goals go_wp2_with fail
        all_goals go_roundw
        case rel =>
          refine ⟨q+1,l'.set q ⟨⟨⟨kd,bd,pc,wn,sg⟩,recs,er,rd,1,tl⟩,av,cv⟩,by omega,by go_num,?_,?_⟩
          · rw [← HST.out];exact (HPKH _).out.1
          · exact (HU5 _).out.trans (HPKH _).out.2 (fun _ _ h=>.inr (by rw [h];rfl))
        case measure=>simp [intOf] <;> omega
      · rw [show Pt.wait ⟨⟨kd,bd,pc,wn,sg⟩,recs,er,rd,is,tl⟩ ck2=⟨⟨kd,bd,pc,wn,sg⟩,recs,er,rd,is,tl⟩ from if_neg hw] at hF
        have hsm':=hsm hF
        rw [← hsm'] at HM4
        have HM5:=fun mm=>Lib.hid (HM4 mm)
        have HU5:=fun mm=>Lib.hid (HU4 mm)
        clear hst hsm hF HPK HM4 hM2 HU4 hu3 hP hsm'
        by_cases h0 : is=0
        · subst h0
          have htl : ck2<tl:=by omega
          have htl2 : decide (tl≤ck2)=false:=decide_eq_false (by omega)
          clear hw
          go_quiet (fail)
          all_goals go_wp2_with fail
          all_goals go_roundw
          case rel=>exact ⟨q+1,_,by omega,by go_num,(HM5 _).out,(HU5 _).out⟩
          case measure=>simp [intOf] <;> omega
        · have h0' : (is == 0)=false:=by rw [beq_eq_false_iff_ne];exact h0
          clear hw h0
          go_quiet (fail)
          all_goals go_wp2_with fail
          all_goals go_roundw
          case rel=>exact ⟨q+1,_,by omega,by go_num,(HM5 _).out,(HU5 _).out⟩
          case measure=>simp [intOf] <;> omega
    · obtain rfl : q=n:=by omega
      have hwl : wq f ps q=ps.map f:=by rw [HLE.out];exact wq_all f ps
      rw [hwl] at hM
      have HA5:=HADV l' wr hM
      have hM':=Lib.hid hM
      have hu':=Lib.hid hu
      clear hM hu HADV
      go_wp2_with (first|(go_at_call 178;(with_reducible refine HA5.out.mono ?_);intro e5 w5 hY;obtain ⟨l5,r5,rfl,hs5,hM5,hu5⟩:=hY)|fail)
      go_ret
      exact ⟨l5,r5,rfl,hs5.base hu'.out.size,hM5,hu'.out.trans hu5 (fun _ _ h=>.inl h)⟩
theorem mo_poll_no (K : Option Addr→Nat→List R→Prop) (B g : Nat) (ra : Option Addr) (rn rc : Nat) (a : Option Addr) (n c : Nat) (l : List Pv) (s : St) (i : Int) (w : World) (h : MoS K B w g (.slice ra rn rc) a n c l s.ps s.timeout s.drift s.clock s.now) (hok : s.Ok) (hv : s.refused i=true) :
    Calls Tryz.prog 180 #[.pointer (some ⟨g,0,none⟩),.int .i64 i] w (MoPost K B g (.slice ra rn rc) a n c s.ps s.timeout s.drift s.clock s.now (fun b=>b=g∨(Value.slice a n c).ownBlock=some b) [] w):=by
  have HR:=Lib.hid (mo_refused ra rn rc a n c l s i w h.rowp h.len h.map hok true hv)
  have HH:=Lib.hid h
  obtain ⟨hgl,p0,-,p1,-,p2,-,p3,-,p4,-,p5,-⟩:=h.blk.cells6
  clear h hv
  go_enter Tryz.func180,Tryz.ntmps180
  go_wp2_with (first|(go_at_call 226;(with_reducible refine HR.out.mono ?_);rintro e1 w1 ⟨rfl,hb1⟩)|fail)
  go_ret
  exact ⟨l,.slice none 0 0,rfl,Sl.nil _ _ _,HH.out.on hb1,Upd.of_below hb1 (fun q h1 h2=>by omega)⟩
theorem late_cases (now : Int) (r : R) : (now = -9223372036854775808∧lateOf now r=false)∨(now≠-9223372036854775808∧r.2.1≤now∧lateOf now r=true)∨(now≠-9223372036854775808∧now<r.2.1∧lateOf now r=false):=by
  unfold lateOf
  by_cases h1 : now = -9223372036854775808
  · exact .inl ⟨h1,decide_eq_false (fun h=>h.1 h1)⟩
  · by_cases h2 : r.2.1≤now
    · exact .inr (.inl ⟨h1,h2,decide_eq_true ⟨h1,h2⟩⟩)
    · exact .inr (.inr ⟨h1,by omega,decide_eq_false (fun h=>h2 h.2)⟩)
theorem set_twice {ps : List Pt} {i : Nat} (h : i<ps.length) (p : Pt) : (ps.set i p).set i (settled (pat (ps.set i p) i))=ps.set i (settled p)∧faults (pat (ps.set i p) i) i=faults p i:=by
  have e : pat (ps.set i p) i=p:=by rw [pat_set h];unfold put;rw [if_pos rfl]
  rw [e,List.set_set]
  exact ⟨rfl,rfl⟩
theorem MoS.gone2 {K : Option Addr→Nat→List R→Prop} {B : Nat} {w : World} {g : Nat} {ru : Value} {b off : Nat} {n c : Nat} {l : List Pv} {ps : List Pt} {t d k m : Int} (i : Nat) (hi : i<l.length) (v : Pv) (h : MoS K B w g ru (some ⟨b,off,none⟩) n c (l.set i { v with p:={ v.p with read:=v.p.read+1 } }) (ps.set i { v.p with read:=v.p.read+1 }) t d k m) (til : Int) :
    MoS K B ((w.setCell ⟨b,off+i*10+8,none⟩ (.int .i64 0)).setCell ⟨b,off+i*10+9,none⟩ (.int .i64 til)) g ru (some ⟨b,off,none⟩) n c (l.set i { v with p:=v.p.gone til }) (ps.set i (v.p.gone til)) t d k m ∧
    Upd (fun q=>q=b) w ((w.setCell ⟨b,off+i*10+8,none⟩ (.int .i64 0)).setCell ⟨b,off+i*10+9,none⟩ (.int .i64 til)):=by
  have hi1 : i<(l.set i { v with p:={ v.p with read:=v.p.read+1 } }).length:=by rw [List.length_set];exact hi
  obtain ⟨h2,u2⟩:=h.poke i 8 hi1 (by omega) { v with p:={ v.p with read:=v.p.read+1 } } (by rw [List.getElem_set_self]) { v.p with read:=v.p.read+1,is:=0 } (.int .i64 0) rfl rfl
  rw [List.set_set,List.set_set] at h2
  have hi2 : i<(l.set i { v with p:={ v.p with read:=v.p.read+1,is:=0 } }).length:=by rw [List.length_set];exact hi
  obtain ⟨h3,u3⟩:=h2.poke i 9 hi2 (by omega) { v with p:={ v.p with read:=v.p.read+1,is:=0 } } (by rw [List.getElem_set_self]) (v.p.gone til) (.int .i64 til) rfl rfl
  rw [List.set_set,List.set_set] at h3
  exact ⟨h3,u2.trans u3 (fun _ _ h=>h)⟩
theorem MoS.old {K : Option Addr→Nat→List R→Prop} {B : Nat} {w : World} {g : Nat} {ru : Value} {a : Option Addr} {n c : Nat} {l : List Pv} {ps : List Pt} {t d k m : Int} (h : MoS K B w g ru a n c l ps t d k m) {N : Nat} (hN : w.heap.size≤N) :
    MoS (fun a c r=>K a c r∧∀ p,a=some p→0<r.length→p.block<N) B w g ru a n c l ps t d k m :=
  ⟨h.blk,h.row,h.len,h.map,h.ne,h.ok,fun v hv=>⟨h.kk v hv,fun p hp h0=>by
    obtain ⟨b',off,hab,hb,-⟩:=(h.ok v hv).row.at_ 0 h0
    rw [hab] at hp;cases hp
    exact Nat.lt_of_lt_of_le hb hN⟩,h.fr⟩
theorem MoS.weak {K K' : Option Addr→Nat→List R→Prop} {B : Nat} {w : World} {g : Nat} {ru : Value} {a : Option Addr} {n c : Nat} {l : List Pv} {ps : List Pt} {t d k m : Int} (h : MoS K B w g ru a n c l ps t d k m) (hk : ∀ a c r,K a c r→K' a c r) : MoS K' B w g ru a n c l ps t d k m :=
  ⟨h.blk,h.row,h.len,h.map,h.ne,h.ok,fun v hv=>hk _ _ _ (h.kk v hv),h.fr⟩
theorem mo_poll (K : Option Addr→Nat→List R→Prop) (B g : Nat) (ra : Option Addr) (rn rc : Nat) (a : Option Addr) (n c : Nat) (l : List Pv) (ps : List Pt) (tm dr ck nw : Int) (i : Nat) (w : World) (h : MoS K B w g (.slice ra rn rc) a n c l ps tm dr ck nw) (hok : St.Ok ⟨ps,tm,dr,ck,nw⟩) (hv : St.refused ⟨ps,tm,dr,ck,nw⟩ i=false) :
    Calls Tryz.prog 180 #[.pointer (some ⟨g,0,none⟩),.int .i64 i] w (MoPost K B g (.slice ra rn rc) a n c (St.pollS ⟨ps,tm,dr,ck,nw⟩ i).ps tm dr ck (St.pollS ⟨ps,tm,dr,ck,nw⟩ i).now (fun b=>b=g∨(Value.slice a n c).ownBlock=some b) (St.pollE ⟨ps,tm,dr,ck,nw⟩ i) w):=by
  have HR : Hid (Calls Tryz.prog 226 #[.agg #[.slice ra rn rc,.int .i64 tm,.int .i64 dr,.slice a n c,.int .i64 ck,.int .i64 nw],.int .i64 i] w fun e w'=>e = .returned (.bool false)∧Below w.heap.size w w'):=mo_refused ra rn rc a n c l ⟨ps,tm,dr,ck,nw⟩ i w h.rowp h.len h.map hok false hv
  have hip : i<ps.length:=by have:=(refused_not hv).2.1;rw [Int.toNat_natCast] at this;exact this
  have hrd : (pat ps i).read<(pat ps i).recs.length:=by have:=refused_read hok hv;rw [Int.toNat_natCast] at this;exact this
  have hil : i<l.length:=by rw [← h.len,h.plen];exact hip
  have hi : i<n:=by rw [h.plen];exact hip
  have hn8 : n≤8:=by rw [h.plen];exact hok.n
  obtain ⟨b,off,rfl,hBb,hbl,hbg,hfr⟩:=h.at_ i hil
  have hpi:=h.pat i hil
  have HOK : Hid (∀ p∈St.polled ⟨ps,tm,dr,ck,nw⟩ i,p.Ok):=(hok.poll hip hrd).pt
  have hpok:=hok.pt _ (pat_mem hip)
  have hck : in64 ck:=hok.ck
  have htm : in64 tm:=by have h1 : 1≤tm∧tm≤9223372036854775807:=hok.tm;unfold in64;omega
  have HP1:=fun w' (h' : MoS K B w' g (.slice ra rn rc) (some ⟨b,off,none⟩) n c l ps tm dr ck nw) (v : Pv) (hv : l[i]=v)=>h'.poke i 7 hil (by omega) v hv { v.p with read:=v.p.read+1 } (.int .i64 ((v.p.read : Int)+1)) rfl rfl
  have HDL:=fun (l' : List Pv) (ps' : List Pt) w' (h' : MoS K B w' g (.slice ra rn rc) (some ⟨b,off,none⟩) n c l' ps' tm dr ck nw)=>Lib.hid (mo_deadline g _ _ tm dr ck nw w' h'.blk hck htm)
  have hST:=set_twice hip ((pat ps i).gone (add ck tm))
  have H400 : Hid (∀ p∈ps.set i ((pat ps i).gone (add ck tm)),p.recs.length≤400):=fun p hm=>by
    rcases List.mem_or_eq_of_mem_set hm with hm|rfl
    · exact (hok.pt p hm).few
    · exact hpok.few
  have HSE:=fun (K' : Option Addr→Nat→List R→Prop) (l' : List Pv) w' (h' : MoS K' B w' g (.slice ra rn rc) (some ⟨b,off,none⟩) n c l' (ps.set i ((pat ps i).gone (add ck tm))) tm dr ck nw)=>Lib.hid (mo_settle K' B g _ _ n c l' _ tm dr ck nw i w' h' hi H400.out (by omega))
  rw [hST.1,hST.2] at HSE
  have hfl:=faults_len ((pat ps i).gone (add ck tm)) i
  have hml:=marksE_len nw (St.polled ⟨ps,tm,dr,ck,nw⟩ i)
  have hfew : (pat ps i).recs.length≤400:=hpok.few
  have HAD:=fun (K' : Option Addr→Nat→List R→Prop) (l' : List Pv) w' (h' : MoS K' B w' g (.slice ra rn rc) (some ⟨b,off,none⟩) n c l' (ps.set i (settled ((pat ps i).gone (add ck tm)))) tm dr ck nw)=>Lib.hid (mo_advance K' B g _ _ n c l' _ tm dr ck nw w' h' HOK.out (by omega))
  have HGN:=fun w' (v : Pv) (h' : MoS K B w' g (.slice ra rn rc) (some ⟨b,off,none⟩) n c (l.set i { v with p:={ v.p with read:=v.p.read+1 } }) (ps.set i { v.p with read:=v.p.read+1 }) tm dr ck nw)=>MoS.gone2 i hil v h' (add ck tm)
  show Calls Tryz.prog 180 _ w (MoPost K B g _ _ n c (ps.set i (settled ((pat ps i).gone (add ck tm)))) tm dr ck (further nw (ps.set i (settled ((pat ps i).gone (add ck tm))))) _ (Ev.el (lateOf nw (recAt (pat ps i))) i (recAt (pat ps i)).1 (recAt (pat ps i)).2.1 (recAt (pat ps i)).2.2::(faults ((pat ps i).gone (add ck tm)) i++marksE nw (ps.set i (settled ((pat ps i).gone (add ck tm)))))) w)
  rw [show St.polled ⟨ps,tm,dr,ck,nw⟩ i=ps.set i (settled ((pat ps i).gone (add ck tm))) from rfl] at hml
  generalize faults ((pat ps i).gone (add ck tm)) i=es1 at *
  generalize marksE nw (ps.set i (settled ((pat ps i).gone (add ck tm))))=es2 at *
  generalize further nw (ps.set i (settled ((pat ps i).gone (add ck tm))))=fu at *
  generalize ps.set i (settled ((pat ps i).gone (add ck tm)))=psF at *
  generalize add ck tm=til at *
  rw [← hpi] at hrd hfew HSE ⊢
  have hcell:=fun w' (h' : MoS K B w' g (.slice ra rn rc) (some ⟨b,off,none⟩) n c l ps tm dr ck nw)=>h'.rowp.cell i hil
  have hvo:=fun w' (h' : MoS K B w' g (.slice ra rn rc) (some ⟨b,off,none⟩) n c l ps tm dr ck nw)=>h'.ok _ (List.getElem_mem hil)
  have HH:=Lib.hid h
  have hgl : g<w.heap.size:=h.blk.1
  clear hfr hpi hpok hok hv hST H400 hck htm hip
  generalize hv : l[i]=v at *
  have HV:=Lib.hid hv
  clear hv
  have HNX:=fun w' hv=>Lib.hid (mo_next_one v w' hv hfew hrd)
  have HGN1:=fun w' h'=>HGN w' v h'
  have HP2:=fun w' h'=>HP1 w' h' v rfl
  clear HGN HP1
  have HLT:=late_cases nw (recAt v.p)
  generalize hlt : lateOf nw (recAt v.p)=lt at *
  clear hlt
  generalize recAt v.p=r at *
  obtain ⟨rk,rt,rx⟩:=r
  simp only at HLT HNX ⊢
  obtain ⟨hbb,r0,r1,r2,r3,r4,r5,r6,r7,r8,r9⟩:=hcell w HH.out
  obtain ⟨-,p0,-,p1,-,p2,-,p3,-,p4,-,p5,-⟩:=h.blk.cells6
  obtain ⟨⟨⟨kd,bd,pc,wn,sg⟩,recs,er,rd,is,tl⟩,av,cv⟩:=v
  simp only [Pv.val] at HNX hcell r0 r1 r2 r3 r4 r5 r6 r7 r8 r9 HP2 HGN1 hvo
  have hii : (i : Int)<(n : Int):=by omega
  have hrb : (rd : Int)≤400:=by have h1 : rd<recs.length:=hrd;have h2 : recs.length≤400:=hfew;omega
  have hrb0 : (0 : Int)≤(rd : Int):=by omega
  clear h hrd hfew
  go_enter Tryz.func180,Tryz.ntmps180
  go_upto_region 7 with (first|(go_at_call 226;(with_reducible refine HR.out.mono ?_);rintro e1 w1 ⟨rfl,hb1⟩;have h1:=HH.out.on hb1;have HN1:=HNX w1 (hvo w1 h1);obtain ⟨hbb1,s0,s1,s2,s3,s4,s5,s6,s7,s8,s9⟩:=hcell w1 h1;obtain ⟨-,t0,-,t1,-,t2,-,t3,-,t4,-,t5,-⟩:=h1.blk.cells6)|(go_at_call 224;(with_reducible refine HN1.out.mono ?_);rintro e2 w2 ⟨rfl,hb2⟩)|fail)
  clear r0 r1 r2 r3 r4 r5 r6 r7 r8 r9 p0 p1 p2 p3 p4 p5 s0 s1 s2 s3 s4 s5 s6 s7 s8 s9 t0 t1 t2 t3 t4 t5 hbb hbb1 HN1 HNX HR
  have hb12:=on_below hb1 hb2
  have hb3:=on_below hb12 (rec_alloc w2 (.int .i64 rk) (.int .i64 rt) (.string (bstr rx)))
  have hRc:=At.alloc w2 [.int .i64 rk,.int .i64 rt,.string (bstr rx)] 54
  have h3:=HH.out.on hb3
  have hgr : w.heap.size≤w2.heap.size:=hb12.size
  clear hb1 hb2 hb12 h1
  generalize w2.alloc (.cells #[.int .i64 rk,.int .i64 rt,.string (bstr rx)] 54)=w3 at *
  generalize w2.heap.size=gr at *
  go_cut [8] (fun v wx=>v = .bool lt∧∃ mm,wx=w3.drewN mm)
  case first =>
    obtain ⟨-,-,-,-,-,-,-,-,-,-,-,p5,-⟩:=h3.blk.cells6
    obtain ⟨-,q0,-,q1,-,q2,-⟩:=hRc.three
    clear HSE HAD HDL HP2 HGN1 hcell hvo HOK hb3 h3 hRc HV
    rcases HLT with ⟨e1,e2⟩|⟨e1,e2,e3⟩|⟨e1,e2,e3⟩
    · subst e2
      have hne : (nw != -9223372036854775808)=false:=by rw [e1];rfl
      clear e1
      go_quiet (fail)
      all_goals (go_wp2_with fail;go_meet)
      all_goals exact ⟨rfl,_,rfl⟩
    · subst e3
      have hne : (nw != -9223372036854775808)=true:=by rw [bne_iff_ne];exact e1
      have e2' : rt≤nw:=e2
      clear e1 e2
      go_quiet (fail)
      all_goals (go_wp2_with fail;go_meet)
      all_goals exact ⟨rfl,_,rfl⟩
    · subst e3
      have hne : (nw != -9223372036854775808)=true:=by rw [bne_iff_ne];exact e1
      have e2' : nw<rt:=e2
      have e3' : decide (rt≤nw)=false:=decide_eq_false (by omega)
      clear e1 e2
      go_quiet (fail)
      all_goals (go_wp2_with fail;go_meet)
      all_goals exact ⟨rfl,_,rfl⟩
  case rest =>
    obtain ⟨rfl,mm,rfl⟩:=hcut
    have hb4:=on_quiet (w:=w3) ⟨mm,rfl⟩
    have hb34:=on_below hb3 hb4
    have h4:=h3.on hb4
    have hRc4:=hRc.drewN mm
    clear h3 hRc hb3 hb4 HLT
    generalize w3.drewN mm=w4 at *
    obtain ⟨hbb,r0,r1,r2,r3,r4,r5,r6,r7,r8,r9⟩:=hcell w4 h4
    have f7:=(sl_free h4.row i hi).2.2 7 (by omega)
    obtain ⟨h5,hu5⟩:=HP2 w4 h4
    have HD5:=HDL _ _ _ h5
    have hgne : gr≠g∧gr≠b:=by omega
    have hRc5:=hRc4.upd hu5 hgne.2
    have HX6 : Hid (∀ w6,Below (w4.setCell ⟨b,off+i*10+7,none⟩ (.int .i64 ((rd : Int)+1))).heap.size (w4.setCell ⟨b,off+i*10+7,none⟩ (.int .i64 ((rd : Int)+1))) w6→(w6.frozen? ⟨b,off+i*10+8,none⟩=false∧w6.frozen? ⟨b,off+i*10+9,none⟩=false∧b<w6.heap.size∧∃ x y,w6.cell? ⟨b,off+i*10+8,none⟩=some x∧w6.cell? ⟨b,off+i*10+9,none⟩=some y)):=fun w6 hb6=>by
      have h6:=h5.on hb6
      have hc:=h6.rowp.cell i (by rw [← h6.len];exact hi)
      exact ⟨(sl_free h6.row i hi).2.2 8 (by omega),(sl_free h6.row i hi).2.2 9 (by omega),hc.1,_,_,hc.2.2.2.2.2.2.2.2.2.1,hc.2.2.2.2.2.2.2.2.2.2⟩
    go_upto_region 10 with (first|(go_at_call 176;(with_reducible refine HD5.out.mono ?_);rintro e6 w6 ⟨rfl,hb6⟩;obtain ⟨f8,f9,hb9,x8,x9,c8,c9⟩:=HX6.out w6 hb6)|fail)
    obtain ⟨h7,hu7⟩:=HGN1 w6 (h5.on hb6)
    have hRc7:=(hRc5.on hb6).upd hu7 hgne.2
    have hU7 : Upd (fun q=>q=b) w ((w6.setCell ⟨b,off+i*10+8,none⟩ (.int .i64 0)).setCell ⟨b,off+i*10+9,none⟩ (.int .i64 til)):=(((Upd.of_below hb34 (fun q h1 h2=>by omega)).trans hu5 (fun _ _ h=>h)).trans (Upd.of_below (S:=fun q=>q=b) hb6 (fun q h1 h2=>by omega)) (fun _ _ h=>h)).trans hu7 (fun _ _ h=>h)
    clear r0 r1 r2 r3 r4 r5 r6 r7 r8 r9 hbb f7 f8 f9 hb9 c8 c9 HX6 h4 h5 hu5 hu7 hRc4 hRc5 hb6 HD5 HDL HGN1 HP2 hcell hvo hb34
    generalize (w6.setCell ⟨b,off+i*10+8,none⟩ (.int .i64 0)).setCell ⟨b,off+i*10+9,none⟩ (.int .i64 til)=w7 at *
    obtain ⟨-,q0,-,q1,-,q2,-⟩:=hRc7.three
    have hba:=(Below.refl w7.heap.size w7).alloc (Nat.le_refl _) (.cells #[.iface 130 (.agg #[.int .i64 i,.int .i64 rk,.int .i64 rt,.string (bstr rx),.bool lt])] 71)
    have hE8:=evi_row (B:=w7.heap.size) (T:=71) (w:=w7) (.el lt i rk rt rx) (.iface 130 (.agg #[.int .i64 i,.int .i64 rk,.int .i64 rt,.string (bstr rx),.bool lt])) rfl rfl (Nat.le_refl _)
    have h8:=(h7.old (Nat.le_refl _)).on hba
    have hu8:=hU7.alloc (.cells #[.iface 130 (.agg #[.int .i64 i,.int .i64 rk,.int .i64 rt,.string (bstr rx),.bool lt])] 71)
    have hgb7 : g<w7.heap.size∧b<w7.heap.size:=⟨h7.blk.1,Nat.lt_of_lt_of_le hbl hU7.size⟩
    have hsz7 : w.heap.size≤w7.heap.size:=hU7.size
    have h78 : w7.heap.size<(w7.alloc (.cells #[.iface 130 (.agg #[.int .i64 i,.int .i64 rk,.int .i64 rt,.string (bstr rx),.bool lt])] 71)).heap.size:=by simp
    go_upto_region 11 with fail
    clear q0 q1 q2 hRc7 h7 hU7 hba
    generalize w7.alloc (.cells #[.iface 130 (.agg #[.int .i64 i,.int .i64 rk,.int .i64 rt,.string (bstr rx),.bool lt])] 71)=w8 at *
    generalize w7.heap.size=g7 at *
    obtain ⟨i0,hi0,hz0,hz1,hz2⟩:=info_parts info_cl_ev
    have HS8:=HSE _ _ _ h8
    have hm1 : 1+es1.length≤maxLen:=by unfold maxLen;omega
    have hm2 : 1+es1.length+es2.length≤maxLen:=by unfold maxLen;omega
    go_upto_region 12 with (first|(go_at_call 177;(with_reducible refine HS8.out.mono ?_);intro e9 w9 hY;obtain ⟨l9,r9,rfl,hs9,h9,hu9⟩:=hY;obtain ⟨ar,cr,hr9⟩:=hs9.shape;subst hr9;have hE9:=hE8.upd hu9 (fun q h1 h2=>by have h1' : g7=q:=Option.some.inj h1;have h2' : b=q:=Option.some.inj h2;omega))|(at_builtin;refine wpList_append_sl _ rfl (.tmp 65) (.tmp 68) 69 69 rfl 71 i0 _ 16 Tryz.underlying69 hi0 hz0 hz1 hz2 rfl rfl hE9 (.slice ar es1.length cr) es1.length (es1.map evv) rfl (src_sl hs9 Tryz.underlying69 (evv_one _)) hm1 (by omega) (by have:=hu9.size;omega) ?_;intro v10 w10 k1 k2 k3)|fail)
    have h10:=h9.upd k2 (fun h=>by have h' : g7=g:=Option.some.inj h;omega) (fun q h1 h2=>by have h1' : b=q:=Option.some.inj h1;have h2' : g7=q:=Option.some.inj h2;omega) (fun v hv p hp h0 h=>by have h' : g7=p.block:=Option.some.inj h;have:=(h9.kk v hv).2 p hp h0;omega)
    have hu10:=(hu8.trans hu9 (fun q _ h=>(Option.some.inj h).symm)).trans k2 (fun q h1 h2=>by have h2' : g7=q:=Option.some.inj h2;omega)
    have hk10:=k1
    obtain ⟨a10,c10,hv10⟩:=k1.shape
    subst hv10
    have hs10 : w8.heap.size≤w10.heap.size:=Nat.le_trans hu9.size k2.size
    have hb10 : ∀ q,(Value.slice a10 (1+es1.length) c10).ownBlock=some q→q≠g∧q≠b∧g7≤q:=fun q hq=>by
      have:=(hk10.lt q hq).1
      omega
    have HA10:=HAD _ _ _ h10
    go_wp2_with (first|(go_at_call 178;(with_reducible refine HA10.out.mono ?_);intro e11 w11 hY;obtain ⟨l11,r11,rfl,hs11,h11,hu11⟩:=hY;obtain ⟨am,cm,hr11⟩:=hs11.shape;subst hr11;have hE11:=k1.upd hu11 (fun q h1 h2=>(hb10 q h1).1 h2))|(at_builtin;refine wpList_append_sl _ rfl (.tmp 70) (.tmp 72) 69 69 rfl 71 i0 _ 16 Tryz.underlying69 hi0 hz0 hz1 hz2 rfl rfl hE11 (.slice am es2.length cm) es2.length (es2.map evv) rfl (src_sl hs11 Tryz.underlying69 (evv_one _)) hm2 (by omega) (by have:=hu11.size;omega) ?_;intro v13 w13 m1 m2 m3)|fail)
    go_ret
    have h13:=h11.upd m2 (fun h=>(hb10 _ h).1 rfl) (fun q h1 h2=>(hb10 q h2).2.1 (Option.some.inj h1).symm) (fun v hv p hp h0 h=>by have:=(hb10 _ h).2.2;have:=(h11.kk v hv).2 p hp h0;omega)
    refine ⟨l11,v13,rfl,?_,h13.weak (fun _ _ _ h=>h.1),((hu10.mono (fun q _ h=>.inr (by rw [h];rfl))).trans hu11 (fun q _ h=>.inl h)).trans m2 (fun q h1 h2=>by have:=(hb10 q h2).2.2;omega)⟩
    have m1':=m1.base hsz7
    rw [show (Ev.el lt i rk rt rx::(es1++es2)).length=1+es1.length+es2.length by rw [List.length_cons,List.length_append];omega,show (Ev.el lt i rk rt rx::(es1++es2)).map evv=[Ev.el lt i rk rt rx].map evv++es1.map evv++es2.map evv by simp]
    exact m1'
end Go.Proofs.YtmimfkhkilijcaaGreatDoor
