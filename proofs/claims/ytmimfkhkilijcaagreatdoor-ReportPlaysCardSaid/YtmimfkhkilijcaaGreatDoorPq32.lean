/- KSrcC: what is reached of them. -/
import Derived.Test.YtmimfkhkilijcaaGreatDoorPq31
import Derived.Test.YtmimfkhkilijcaaGreatDoorPq09
import Derived.Test.YtmimfkhkilijcaaGreatDoorPq21
import Derived.Test.YtmimfkhkilijcaaGreatDoorPq19
import Derived.Deep.RegionLaw
import Derived.Deep.RegionHeld3
import Derived.Test.YtmimfkhkilijcaaGreatDoorPq30
import Derived.Test.YtmimfkhkilijcaaGreatDoorPq29
set_option linter.unusedVariables false
set_option linter.unusedSimpArgs false
set_option maxRecDepth 100000
set_option maxHeartbeats 8000000
namespace Go.Proofs.YtmimfkhkilijcaaGreatDoor
open Go.ChangeShapes Go.WideShapes Go.ChangeAt Go.RowKit
open PHist PRing PSat PClamp PBound PFrame PVar PCrc PSign PTree PEv
theorem step_append_own {P : Program} {ops : Array Oper} {o : Oper} {a : Act} {w : World} {K : Act→World→Prop} {Q : Exit→Act→World→Prop} {E : Prop}
    (hg : o.guard=none) (s x : Operand) (t tx : TypeId) (hop : o.op=Op.call { callee:=Callee.builtin Builtin.append,args:=#[s,x],argTypes:=#[t,tx] })
    {B : Nat} {size : Nat} (e : TypeId) (i : TypeInfo) (z : Value) (bytes : Nat) (ht : P.underlying t=some (.slice e)) (hi : P.info? e=some i) (hz : i.zero=some z) (hsize : i.size=size) (hby : i.bytes=bytes) (hzs : z.cells.size=size)
    (v xv : Value) {n : Nat} {xs : List Value} (m : Nat) (news : List Value) (hv : a.eval s=v) (hx : a.eval x=xv) (h : Sl B w size v n xs) (hs : Src P size tx xv m news w)
    (h63 : n+m≤maxLen) (hbytes : (n+m)*bytes≤140737488355328) (hB : B≤w.heap.size)
    (hK : ∀ a1 c1 w',Sl B w' size (.slice a1 (n+m) c1) (n+m) (xs++news)→Upd (fun k=>v.ownBlock=some k) w w'→(∀ k,(Value.slice a1 (n+m) c1).ownBlock=some k→v.ownBlock=some k∨w.heap.size≤k)→K (a.put o.dst (.slice a1 (n+m) c1)) w') :
    if Region.wanted o (yielded ops a.tmps)=true then Oper.wp P o a w K Q else E:=by
  obtain ⟨v',w',hr,r1,r2,r3⟩:=run_append_sl (P:=P) w t tx o.type e i z bytes ht hi hz hsize hby hzs h xv m news hs h63 hbytes hB
  obtain ⟨a1,c1,rfl⟩:=r1.shape
  exact step_append_run hg s x t tx hop v xv hv hx hr (hK a1 c1 w' r1 r2 r3)
open Classical in
noncomputable def gtag (tag : Nat→Nat) (n k cu st : Nat) (S' : Nat→Prop) : Nat→Nat:=fun b=>if b<n then tag b else if b=cu then 3*k+6 else if S' b then 3*k+7 else if b=st then 3*k+8 else 2
theorem gtag_old {tag : Nat→Nat} {n k cu st b : Nat} {S' : Nat→Prop} (h : b<n) : gtag tag n k cu st S' b=tag b:=if_pos h
theorem gtag_cu {tag : Nat→Nat} {n k cu st : Nat} {S' : Nat→Prop} (h : n≤cu) : gtag tag n k cu st S' cu=3*k+6:=by unfold gtag;rw [if_neg (by omega),if_pos rfl]
theorem gtag_w {tag : Nat→Nat} {n k cu st b : Nat} {S' : Nat→Prop} (h : n≤b) (h1 : b≠cu) (h2 : S' b) : gtag tag n k cu st S' b=3*k+7:=by unfold gtag;rw [if_neg (by omega),if_neg h1,if_pos h2]
theorem gtag_st {tag : Nat→Nat} {n k cu st : Nat} {S' : Nat→Prop} (h : n≤st) (h1 : st≠cu) (h2 : ¬ S' st) : gtag tag n k cu st S' st=3*k+8:=by unfold gtag;rw [if_neg (by omega),if_neg h1,if_neg h2,if_pos rfl]
theorem gtag_pv {tag : Nat→Nat} {n k cu st b : Nat} {S' : Nat→Prop} (h : n≤b) (h1 : b≠cu) (h2 : ¬ S' b) (h3 : b≠st) : gtag tag n k cu st S' b=2:=by unfold gtag;rw [if_neg (by omega),if_neg h1,if_neg h2,if_neg h3]
theorem SrcC.grow {w w3 : World} {tag : Nat→Nat} {W : Nat→Nat→Prop} {ev : Value} {V : SrcV} {g : Nat} {x : Lo} (h : SrcC w tag W ev V g x) {pv' : Value} {cu st gw : Nat} {t : TypeId} {S' : Nat→Prop} {k : Nat} (hk : x.n=k)
    (q2 : Upd (fun b=>V.pv.ownBlock=some b) w w3)
    (q1 : Sl 0 w3 3 pv' (k+1) (ptv V k++[.pointer (some ⟨cu,0,none⟩),.iface t (.pointer (some ⟨gw,0,none⟩)),.pointer (some ⟨st,0,none⟩)]))
    (q3 : ∀ b,pv'.ownBlock=some b→V.pv.ownBlock=some b∨(w.heap.size≤b∧b≠cu∧b≠st∧¬ S' b))
    (hc : CurAt w3 cu (V.lg k) (x.re k) (x.er k) (x.rd k)) (hw : GenC w3 S' t gw (x.ru k) (x.gt k)) (hs : IdleC w3 st (x.is k) x.timeout (x.tl k))
    (c0 : w.heap.size≤cu) (s0 : w.heap.size≤st) (w0 : ∀ b,S' b→w.heap.size≤b) (n1 : cu≠st) (n2 : ¬ S' cu) (n3 : ¬ S' st) :
    ∃ tag' W',SrcC (w3.setCell ⟨g,0,none⟩ pv') tag' W' ev { V with pv:=pv',cu:=put V.cu k cu,ty:=put V.ty k t,wy:=put V.wy k gw,st:=put V.st k st } g { x with n:=k+1 }∧∀ b,tag' b≠0→tag b≠0∨w.heap.size≤b:=by
  subst hk
  have hX : ∀ b,b<w.heap.size→V.pv.ownBlock=some b→tag b=2:=fun b _ e=>h.t2 b e
  have hu : Upd (fun b=>b=g) w3 (w3.setCell ⟨g,0,none⟩ pv'):=(Upd.refl (fun b=>b=g) w3).setCell (p:=⟨g,0,none⟩) (fun _=>rfl) _
  have hg:=h.blk.1
  have nt : ∀ b,tag b≠1→b≠g:=fun b hb e=>hb (e▸h.t1)
  have nn : ∀ b,w.heap.size≤b→b≠g:=fun b hb e=>by omega
  have hne : ∀ b,pv'.ownBlock=some b→b≠g:=fun b hb=>by
    rcases q3 b hb with h2|⟨h2,-⟩
    · exact nt b (by rw [h.t2 b h2];omega)
    · exact nn b h2
  have E : ∀ k,k<x.n→ptc V k=ptc { V with pv:=pv',cu:=put V.cu x.n cu,ty:=put V.ty x.n t,wy:=put V.wy x.n gw,st:=put V.st x.n st } k:=fun k hk=>by
    unfold ptc
    simp only
    rw [put_other _ _ _ (by omega),put_other _ _ _ (by omega),put_other _ _ _ (by omega),put_other _ _ _ (by omega)]
  refine ⟨gtag tag w.heap.size x.n cu st S',put W x.n S',⟨(h.k1 q2 hX (by omega)).set 0 (by simp) _,?_,(h.k3 q2 hX (by omega)).upd hu (fun b hb=>nt b (by rw [h.t3 b hb];omega)),(h.k4 q2 hX (by omega)).upd hu (nt _ (by rw [h.t4.1];omega)) (nt _ (by rw [h.t4.2];omega)),
    (h.k5 q2 hX (by omega)).upd hu (fun b hb=>nt b (by rw [h.t5 b hb];omega)),fun j hj=>?_,fun j hj=>?_,fun j hj=>?_,(gtag_old hg).trans h.t1,fun b hb=>?_,fun b hb=>(gtag_old (h.mer.lt b hb)).trans (h.t3 b hb),⟨(gtag_old h.ali.at_.1).trans h.t4.1,(gtag_old h.ali.ls.lt).trans h.t4.2⟩,
    fun b hb=>(gtag_old (h.evr.lt b hb).2).trans (h.t5 b hb),fun j hj=>?_,fun j hj b hb=>?_,fun j hj=>?_⟩,fun b hb=>?_⟩
  · show Sl 0 _ 3 pv' (x.n+1) (ptv _ x.n++ptc _ x.n)
    rw [← ptv_congr x.n E]
    unfold ptc
    simp only
    rw [put_same,put_same,put_same,put_same]
    exact q1.upd hu hne
  · show CurAt _ (put V.cu x.n cu j) (V.lg j) (x.re j) (x.er j) (x.rd j)
    by_cases e : j=x.n
    · subst e;rw [put_same];exact hc.upd hu (nn _ c0)
    · rw [put_other _ _ _ e]
      have hj : j<x.n+1:=hj
      exact (h.k6 q2 hX j (by omega) (by omega)).upd hu (nt _ (by rw [h.t6 j (by omega)];omega))
  · show GenC _ (put W x.n S' j) (put V.ty x.n t j) (put V.wy x.n gw j) (x.ru j) (x.gt j)
    by_cases e : j=x.n
    · subst e;rw [put_same,put_same,put_same];exact hw.upd hu (fun b hb=>nn b (w0 b hb))
    · rw [put_other _ _ _ e,put_other _ _ _ e,put_other _ _ _ e]
      have hj : j<x.n+1:=hj
      exact (h.k7 q2 hX j (by omega) (by omega)).upd hu (fun b hb=>nt _ (by rw [h.t7 j (by omega) b hb];omega))
  · show IdleC _ (put V.st x.n st j) (x.is j) x.timeout (x.tl j)
    by_cases e : j=x.n
    · subst e;rw [put_same];exact hs.upd hu (nn _ s0)
    · rw [put_other _ _ _ e]
      have hj : j<x.n+1:=hj
      exact (h.k8 q2 hX j (by omega) (by omega)).upd hu (nt _ (by rw [h.t8 j (by omega)];omega))
  · rcases q3 b hb with h2|⟨h2,h3,h4,h5⟩
    · exact (gtag_old (h.row.lt b h2).2).trans (h.t2 b h2)
    · exact gtag_pv h2 h3 h5 h4
  · show gtag tag w.heap.size x.n cu st S' (put V.cu x.n cu j)=_
    by_cases e : j=x.n
    · subst e;rw [put_same];exact gtag_cu c0
    · rw [put_other _ _ _ e]
      have hj : j<x.n+1:=hj
      exact (gtag_old (h.cur j (by omega)).lt).trans (h.t6 j (by omega))
  · by_cases e : j=x.n
    · subst e
      rw [put_same] at hb
      exact gtag_w (w0 b hb) (fun e=>n2 (e▸hb)) hb
    · rw [put_other _ _ _ e] at hb
      have hj : j<x.n+1:=hj
      exact (gtag_old ((h.way j (by omega)).lt b hb)).trans (h.t7 j (by omega) b hb)
  · show gtag tag w.heap.size x.n cu st S' (put V.st x.n st j)=_
    by_cases e : j=x.n
    · subst e;rw [put_same];exact gtag_st s0 (fun e=>n1 e.symm) n3
    · rw [put_other _ _ _ e]
      have hj : j<x.n+1:=hj
      exact (gtag_old (h.sta j (by omega)).lt).trans (h.t8 j (by omega))
  · rcases Nat.lt_or_ge b w.heap.size with hlt|hge
    · rw [gtag_old hlt] at hb;exact .inl hb
    · exact .inr hge
def newX (t d : Int) (rs : List Rul) (ls : List (List UInt8)) (k : Nat) : Lo:={ (loOf ⟨raws t rs ls,t,d,0,-9223372036854775808⟩ [] 0) with n:=k,m:=rs.length }
theorem raws_kk {t : Int} {rs : List Rul} {ls : List (List UInt8)} (h : ls.length=rs.length) (hc : ∀ r∈rs,rcheck r=0) : kk (raws t rs ls)=fun _=>-9223372036854775808:=by
  funext j
  unfold kk
  by_cases hj : j<rs.length
  · rw [raws_at h j hj]
    exact gnow_never (hc _ (List.getElem_mem hj))
  · rw [pat_none (by rw [raws_len h];exact hj)]
    exact gnow_never (r:=⟨0,0,0,0,0⟩) rfl
theorem raws_ss {t : Int} {rs : List Rul} {ls : List (List UInt8)} (h : ls.length=rs.length) : ss (raws t rs ls)=fun _=>0:=by
  funext j
  unfold ss
  by_cases hj : j<rs.length
  · rw [raws_at h j hj];rfl
  · rw [pat_none (by rw [raws_len h];exact hj)];rfl
theorem SrcC.made {w : World} {g gm ga gl : Nat} {F : Nat→Prop} {t d : Int} {rs : List Rul} {ls : List (List UInt8)} (lg : Nat→ByteArray) (hl : ls.length=rs.length) (hc : ∀ r∈rs,rcheck r=0)
    (hA : At w g [.slice none 0 0,.int .i64 0,.pointer (some ⟨gm,0,none⟩),.pointer (some ⟨ga,0,none⟩),.slice none 0 0,.int .i64 0])
    (hm : MergeC w F gm rs.length (fun _=>-9223372036854775808) (oa (fun _=>0) 0) (oa (fun _=>0) 1) (-9223372036854775808)) (ha : AlignC w ga gl rs.length d (-9223372036854775808) (fun _=>-9223372036854775808))
    {B : Nat} (b1 : B≤g) (b2 : ∀ b,F b→B≤b) (b3 : B≤ga) (b4 : B≤gl) (n1 : ¬ F g) (n2 : g≠ga) (n3 : g≠gl) (n4 : ¬ F ga) (n5 : ¬ F gl) :
    ∃ tag,SrcC w tag (fun _ _=>False) (.slice none 0 0) ⟨.slice none 0 0,fun _=>0,fun _=>0,fun _=>0,fun _=>0,lg,gm,F,ga,gl⟩ g (newX t d rs ls 0)∧∀ b,tag b≠0→B≤b:=by
  classical
  refine ⟨fun b=>if b=g then 1 else if F b then 3 else if b=ga∨b=gl then 4 else 0,⟨hA,Sl.nil _ _ _,?_,?_,Sl.nil _ _ _,fun j hj=>(Nat.not_lt_zero _ hj).elim,fun j hj=>(Nat.not_lt_zero _ hj).elim,fun j hj=>(Nat.not_lt_zero _ hj).elim,if_pos rfl,(fun b hb=>by cases hb),fun b hb=>?_,⟨?_,?_⟩,(fun b hb=>by cases hb),fun j hj=>(Nat.not_lt_zero _ hj).elim,fun j hj=>(Nat.not_lt_zero _ hj).elim,fun j hj=>(Nat.not_lt_zero _ hj).elim⟩,fun b hb=>?_⟩
  · show MergeC w F gm rs.length (kk (raws t rs ls)) (oa (ss (raws t rs ls)) 0) (oa (ss (raws t rs ls)) 1) _
    rw [raws_kk hl hc,raws_ss hl]
    exact hm
  · show AlignC w ga gl rs.length d _ (kk (raws t rs ls))
    rw [raws_kk hl hc]
    exact ha
  · show (if _ then _ else _)=_
    rw [if_neg (fun e : b=g=>n1 (e▸hb)),if_pos hb]
  · show (if _ then _ else _)=_
    rw [if_neg (fun e : ga=g=>n2 e.symm),if_neg n4,if_pos (.inl rfl)]
  · show (if _ then _ else _)=_
    rw [if_neg (fun e : gl=g=>n3 e.symm),if_neg n5,if_pos (.inr rfl)]
  · by_cases h1 : b=g
    · rw [h1];exact b1
    · by_cases h2 : F b
      · exact b2 b h2
      · by_cases h3 : b=ga∨b=gl
        · rcases h3 with h3|h3
          · rw [h3];exact b3
          · rw [h3];exact b4
        · exact absurd (by show (if _ then _ else _)=_;rw [if_neg h1,if_neg h2,if_neg h3]) hb
def sf (ps : List Pt) (k : Nat) : Nat→Int:=fun j=>if j<k then (settled (pat ps j)).is else ss ps j
theorem sf_next (ps : List Pt) (k : Nat) : sf ps (k+1)=put (sf ps k) k (settled (pat ps k)).is:=by
  funext j
  by_cases e : j=k
  · subst e
    rw [put_same]
    exact if_pos (by omega)
  · rw [put_other _ _ _ e]
    unfold sf
    by_cases h : j<k
    · rw [if_pos h,if_pos (by omega)]
    · rw [if_neg h,if_neg (by omega)]
theorem iter_settle (ps : List Pt) (t d c now : Int) (evs : List Ev) (beg : Nat) : ∀ k,(loOf ⟨ps,t,d,c,now⟩ evs beg).iter Lo.settle k = { (loOf ⟨ps,t,d,c,now⟩ evs beg) with is:=sf ps k,S:=sf ps k,evs:=evs++faultsTo ps k }
  | 0=>by
    have h : sf ps 0=ss ps:=by funext j;exact if_neg (by omega)
    show loOf _ _ _=_
    rw [h]
    show _=({ (loOf ⟨ps,t,d,c,now⟩ evs beg) with is:=ss ps,S:=ss ps,evs:=evs++[] } : Lo)
    rw [List.append_nil];rfl
  | k+1=>by
    show ((loOf ⟨ps,t,d,c,now⟩ evs beg).iter Lo.settle k).settle k=_
    rw [iter_settle ps t d c now evs beg k]
    unfold Lo.settle
    have hf : Lo.fin { (loOf ⟨ps,t,d,c,now⟩ evs beg) with is:=sf ps k,S:=sf ps k,evs:=evs++faultsTo ps k } k=(settled (pat ps k)).is:=by
      unfold Lo.fin settled
      show (if (pat ps k).read<(pat ps k).recs.length then sf ps k k else _)=_
      by_cases h : (pat ps k).read<(pat ps k).recs.length
      · rw [if_pos h,if_pos h]
        exact if_neg (by omega)
      · rw [if_neg h,if_neg h];rfl
    have hg : Lo.flt { (loOf ⟨ps,t,d,c,now⟩ evs beg) with is:=sf ps k,S:=sf ps k,evs:=evs++faultsTo ps k } k=faults (pat ps k) k:=rfl
    rw [hf,hg]
    show ({ (loOf ⟨ps,t,d,c,now⟩ evs beg) with is:=put (sf ps k) k _,S:=put (sf ps k) k _,evs:=(evs++faultsTo ps k)++faults (pat ps k) k } : Lo)=_
    rw [← sf_next,List.append_assoc];rfl
theorem lo_settle_all (ps : List Pt) (t d c now : Int) (evs : List Ev) (beg : Nat) : (loOf ⟨ps,t,d,c,now⟩ evs beg).iter Lo.settle ps.length=loOf ⟨ps.map settled,t,d,c,now⟩ (evs++faultsTo ps ps.length) beg:=by
  rw [iter_settle]
  have hp : ∀ j,pat (ps.map settled) j=if j<ps.length then settled (pat ps j) else zp:=fun j=>pat_map_any _ _ _
  have hf : ∀ {α : Type} (f : Pt→α),(∀ p,f (settled p)=f p)→(fun j=>f (pat (ps.map settled) j))=fun j=>f (pat ps j):=fun f hf=>by
    funext j
    rw [hp]
    by_cases hj : j<ps.length
    · rw [if_pos hj,hf]
    · rw [if_neg hj,pat_none hj]
  have w : ∀ p : Pt,(settled p).rule=p.rule∧(settled p).recs=p.recs∧(settled p).err=p.err∧(settled p).read=p.read∧(settled p).til=p.til∧(settled p).got=p.got:=fun p=>by unfold settled;split <;> exact ⟨rfl,rfl,rfl,rfl,rfl,rfl⟩
  have hl : (ps.map settled).length=ps.length:=List.length_map _
  have hkk : kk (ps.map settled)=kk ps:=hf Pt.mark settled_mark
  have hss : ss (ps.map settled)=sf ps ps.length:=by
    funext j
    show (pat (ps.map settled) j).is=if j<ps.length then (settled (pat ps j)).is else (pat ps j).is
    rw [hp]
    by_cases hj : j<ps.length
    · rw [if_pos hj,if_pos hj]
    · rw [if_neg hj,if_neg hj,pat_none hj]
  unfold loOf
  simp only [hl,hkk,hss,hf Pt.rule (fun p=>(w p).1),hf Pt.recs (fun p=>(w p).2.1),hf Pt.err (fun p=>(w p).2.2.1),hf Pt.read (fun p=>(w p).2.2.2.1),hf Pt.til (fun p=>(w p).2.2.2.2.1),hf Pt.got (fun p=>(w p).2.2.2.2.2)]
theorem lo_begin (t d : Int) (rs : List Rul) (ls : List (List UInt8)) (hl : ls.length=rs.length) (beg : Nat) :
    (loOf ⟨begun t rs ls,t,d,0,-9223372036854775808⟩ (faultsTo (raws t rs ls) rs.length) beg).adv=loOf (St.new t d rs ls) (St.newE t rs ls) beg:=by
  rw [lo_adv];rfl
def nerr (rs : List Rul) (t d : Int) (m : Nat) : Int:=if ccheck rs t d≠0 then ccheck rs t d else if m≠rs.length then 6 else 0
theorem so_new_none (rs : List Rul) (t d : Int) (ls : List ByteArray) (a : Option Addr) (n c : Nat) (b : Option Addr) (m c2 : Nat) (w : World) (h1 : RowU w a rs) (hn : n=rs.length) (hl : n≤10000) (hm : m=ls.length) (z : Int) (hz : nerr rs t d m=z) (h0 : z≠0) :
    Calls Tryz.prog 57 #[.agg #[.slice a n c,.int .i64 t,.int .i64 d],.slice b m c2] w fun e w'=>e = .returned (.tuple #[.pointer none,.int .i64 z])∧Below w.heap.size w w':=by
  have hb0 : Below w.heap.size w (w.alloc (.cells #[.slice a n c,.int .i64 t,.int .i64 d] 24)):=(Below.refl _ _).alloc (Nat.le_refl _) _
  have hA:=At.alloc w [.slice a n c,.int .i64 t,.int .i64 d] 24
  have HC:=fun y hy=>Lib.hid (cf_check rs t d a n c _ (h1.below hb0) hn hl y hy)
  unfold nerr at hz
  by_cases hc : ccheck rs t d=0
  · rw [if_neg (by omega)] at hz
    have hmn : m≠rs.length:=by intro e;rw [if_neg (by omega)] at hz;omega
    rw [if_pos hmn] at hz
    subst hz
    have HC0:=HC 0 hc
    have hne : ((m : Int) != (n : Int))=true:=by rw [bne_iff_ne];omega
    clear HC hc h1 hmn h0 hm hn
    go_enter Tryz.func57,Tryz.ntmps57
    go_wp2_with (first|(go_at_call 103;(with_reducible refine HC0.out.mono ?_);rintro e w1 ⟨rfl,hb1⟩;have hA1:=hA.on hb1;obtain ⟨hg,c0,z0,c1,z1,c2,z2⟩:=hA1.three))
    go_ret2
    exact ⟨rfl,on_below hb0 hb1⟩
  · rw [if_pos hc] at hz
    have HC0:=HC z hz
    have hz0 : (z != 0)=true:=by rw [bne_iff_ne];exact h0
    clear HC hc hz h1 hm hn h0
    go_enter Tryz.func57,Tryz.ntmps57
    go_wp2_with (first|(go_at_call 103;(with_reducible refine HC0.out.mono ?_);rintro e w1 ⟨rfl,hb1⟩))
    go_ret2
    exact ⟨rfl,on_below hb0 hb1⟩
def NewPost (s : St) (evs : List Ev) (w : World) (e : Ending) (w' : World) : Prop :=
  ∃ tag W ev V g,e = .returned (.tuple #[.pointer (some ⟨g,0,none⟩),.int .i64 0])∧SrcC w' tag W ev V g (loOf s evs evs.length)∧(∀ b,tag b≠0→w.heap.size≤b)∧Below w.heap.size w w'
def NewAt (w : World) (a : Option Addr) (n c : Nat) (t d : Int) (rs : List Rul) (ls : List ByteArray) (g k : Nat) (wr : World) : Prop :=
  ∃ tag W V,SrcC wr tag W (.slice none 0 0) V g (newX t d rs (ls.map fun s=>s.data.toList) k)∧V.lg=(fun j=>ls.getD j ⟨#[]⟩)∧(∀ b,tag b≠0→w.heap.size+1≤b)∧At wr w.heap.size [.slice a n c,.int .i64 t,.int .i64 d]∧Below w.heap.size w wr∧w.heap.size+1≤g
def MadeAt (wb : World) (n : Nat) (d : Int) (v : Value) (wx : World) : Prop :=
  ∃ g gm ga gl F,v = .pointer (some ⟨g,0,none⟩)∧At wx g [.slice none 0 0,.int .i64 0,.pointer (some ⟨gm,0,none⟩),.pointer (some ⟨ga,0,none⟩),.slice none 0 0,.int .i64 0] ∧
    MergeC wx F gm n (fun _=>-9223372036854775808) (oa (fun _=>0) 0) (oa (fun _=>0) 1) (-9223372036854775808)∧AlignC wx ga gl n d (-9223372036854775808) (fun _=>-9223372036854775808) ∧
    wb.heap.size≤g∧(∀ b,F b→wb.heap.size≤b)∧wb.heap.size≤ga∧wb.heap.size≤gl∧¬ F g∧g≠ga∧g≠gl∧¬ F ga∧¬ F gl∧Below wb.heap.size wb wx
theorem info_pn : (Tryz.prog.info? 178).map (fun i=>(i.zero,i.size,i.bytes))=some (some (.agg #[.pointer none,.nilIface,.pointer none]),3,32):=by kernel_rfl
theorem three_one (a b : Option Addr) (t : TypeId) (y : Value) : ∀ u∈[Value.pointer a,.iface t y,.pointer b],u.oneCell'=true:=by
  intro u hu
  simp only [List.mem_cons,List.not_mem_nil,or_false] at hu
  rcases hu with rfl|rfl|rfl <;> rfl
theorem grow_cell {w wz : World} {pv u : Value} {g : Nat} {o : Obj} (h1 : g<w.heap.size) (h2 : w.cell? ⟨g,0,none⟩=some u) (h3 : w.frozen? ⟨g,0,none⟩=false) (hne : pv.ownBlock≠some g) (q2 : Upd (fun b=>pv.ownBlock=some b) (w.alloc o) wz) : wz.cell? ⟨g,0,none⟩=some u∧wz.frozen? ⟨g,0,none⟩=false:=by
  have hu:=((Upd.refl (fun b=>pv.ownBlock=some b) w).alloc o).trans q2 (fun _ _ h=>h)
  exact ⟨by rw [hu.cell (p:=⟨g,0,none⟩) h1 hne];exact h2,by rw [hu.frozen (p:=⟨g,0,none⟩) h1 hne];exact h3⟩
theorem idNew_open {w w' : World} {t d : Int} {e : Ending} (h : IdNew w t d e w') : ∃ gs : Nat,w.heap.size≤gs∧gs<w'.heap.size∧e = .returned (.pointer (some ⟨gs,0,none⟩))∧IdleC w' gs 0 t d∧Below w.heap.size w w':=by
  obtain ⟨h1,h2,h3,h4⟩:=h
  exact ⟨_,Nat.le_refl _,h2.lt,h1,h2,h4⟩
theorem firstErr_ok : ∀ rs : List Rul,firstErr rs=0→∀ r∈rs,rcheck r=0
  | [],_,r,h=>by cases h
  | r::rs,h,q,hq=>by
    unfold firstErr at h
    by_cases h0 : rcheck r=0
    · rw [if_neg (by omega)] at h
      rcases List.mem_cons.1 hq with rfl|hq
      · exact h0
      · exact firstErr_ok rs h q hq
    · rw [if_pos h0] at h;exact absurd h h0
theorem ccheck_ok {rs : List Rul} {t d : Int} (h : ccheck rs t d=0) : ∀ r∈rs,rcheck r=0:=by
  unfold ccheck at h
  split at h
  · omega
  · split at h
    · omega
    · exact firstErr_ok rs h
theorem ccheck_t {rs : List Rul} {t d : Int} (h : ccheck rs t d=0) : 1≤rs.length∧1≤t∧0≤d:=by
  unfold ccheck at h
  split at h
  · omega
  · split at h
    · omega
    · omega
theorem madeAt_of {wb wx : World} {gm ga gl n : Nat} {F : Nat→Prop} {d : Int} (T : TypeId) (hM : MergeC wx F gm n (fun _=>-9223372036854775808) (oa (fun _=>0) 0) (oa (fun _=>0) 1) (-9223372036854775808)) (hL : AlignC wx ga gl n d (-9223372036854775808) (fun _=>-9223372036854775808))
    (hB : Below wb.heap.size wb wx) (b2 : ∀ b,F b→wb.heap.size≤b) (b3 : wb.heap.size≤ga) (b4 : wb.heap.size≤gl) (n4 : ¬ F ga) (n5 : ¬ F gl) :
    MadeAt wb n d (.pointer (some ⟨wx.heap.size,0,none⟩)) (wx.alloc (.cells #[.slice none 0 0,.int .i64 0,.pointer (some ⟨gm,0,none⟩),.pointer (some ⟨ga,0,none⟩),.slice none 0 0,.int .i64 0] T)) :=
  ⟨wx.heap.size,gm,ga,gl,F,rfl,At.alloc wx _ _,hM.alloc _,hL.alloc _,hB.size,b2,b3,b4,fun e=>by have:=hM.lt _ e;omega,fun e=>by have:=hL.at_.1;omega,fun e=>by have:=hL.ls.lt;omega,n4,n5,hB.alloc hB.size _⟩
theorem new_step {w wr w5 wl wz : World} {tag : Nat→Nat} {W : Nat→Nat→Prop} {V : SrcV} {a : Option Addr} {n c : Nat} {t d : Int} {rs : List Rul} {ls : List ByteArray} {g k gc gs g5 : Nat} {S5 : Nat→Prop} {t5 : TypeId} {a1 : Option Addr} {c1 : Nat}
    (hS : SrcC wr tag W (.slice none 0 0) V g (newX t d rs (ls.map fun s=>s.data.toList) k)) (hlg : V.lg=fun j=>ls.getD j ⟨#[]⟩) (htg : ∀ b,tag b≠0→w.heap.size+1≤b) (hAb : At wr w.heap.size [.slice a n c,.int .i64 t,.int .i64 d]) (hbw : Below w.heap.size w wr) (hgw : w.heap.size+1≤g)
    (hlen : ls.length=rs.length) (hk : k<rs.length) (hsz : ∀ s∈ls,s.size≤400) (hb5 : Below wr.heap.size wr w5) (hG : GenC w5 S5 t5 g5 rs[k] []) (hG0 : ∀ b,S5 b→wr.heap.size≤b)
    (hBl : Below w5.heap.size w5 wl) (hC : CurC wl gc (ls[k]'(by omega)) 0 0) (hI : IdleC wl gs 0 t t) (c0 : w5.heap.size≤gc) (s0 : w5.heap.size≤gs) (n1 : gc≠gs)
    (o : Obj) (r1 : Sl 0 wz 3 (.slice a1 (k+1) c1) (k+1) (ptv V k++[.pointer (some ⟨gc,0,none⟩),.iface t5 (.pointer (some ⟨g5,0,none⟩)),.pointer (some ⟨gs,0,none⟩)]))
    (r2 : Upd (fun b=>V.pv.ownBlock=some b) (wl.alloc o) wz) (r3 : ∀ b,(Value.slice a1 (k+1) c1).ownBlock=some b→V.pv.ownBlock=some b∨(wl.alloc o).heap.size≤b) :
    NewAt w a n c t d rs ls g (k+1) (wz.setCell ⟨g,0,none⟩ (.slice a1 (k+1) c1)):=by
  have hx : (newX t d rs (ls.map fun s=>s.data.toList) k).n=k:=rfl
  have hlm : (ls.map fun s=>s.data.toList).length=rs.length:=by rw [List.length_map];exact hlen
  have hp:=raws_at (t:=t) hlm k hk
  have hbl : Below wr.heap.size wr (wl.alloc o):=(on_below hb5 hBl).alloc (Nat.le_trans hb5.size hBl.size) o
  have hszs : (wl.alloc o).heap.size=wl.heap.size+1:=by simp
  have hpl:=fun b hb=>(hS.row.lt b hb).2
  have q2 : Upd (fun b=>V.pv.ownBlock=some b) wr wz:=(Upd.of_below (S:=fun b=>V.pv.ownBlock=some b) hbl (fun k hk h=>by omega)).trans r2 (fun _ _ h=>h)
  have h5s:=hb5.size
  have hls:=hBl.size
  have hgl:=hC.lt
  have hsl:=hI.lt
  have hG5:=fun b hb=>hG.lt b hb
  have hC3 : CurC wz gc (ls[k]'(by omega)) 0 0:=(hC.made o).upd r2 (fun e=>by have:=hpl _ e;omega)
  have hI3 : IdleC wz gs 0 t t:=(hI.on ((Below.refl _ _).alloc (Nat.le_refl _) o)).upd r2 (fun e=>by have:=hpl _ e;omega)
  have hG3 : GenC wz S5 t5 g5 rs[k] []:=((hG.on hBl).alloc o).upd r2 (fun b hb e=>by have:=hpl _ e;have:=hG0 b hb;omega)
  have hvl : V.lg k=ls[k]'(by omega):=by rw [hlg];show ls.getD k _=_;rw [List.getD_eq_getElem?_getD,List.getElem?_eq_getElem (by omega)];rfl
  obtain ⟨tag',W',hS',ht'⟩:=hS.grow hx q2 r1 (cu:=gc) (st:=gs) (gw:=g5) (t:=t5) (S':=S5) (fun b hb=>by
      rcases r3 b hb with h|h
      · exact .inl h
      · exact .inr ⟨by omega,by omega,by omega,fun e=>by have:=hG5 b e;omega⟩)
    (by
      refine ⟨0,(parse (ls[k]'(by omega)).data.toList).2.1,(by show CurC wz gc (V.lg k) 0 (pat (raws t rs (ls.map fun s=>s.data.toList)) k).read;rw [hvl,hp];exact hC3),Nat.zero_le _,by rw [hvl];exact hsz _ (List.getElem_mem (by omega)),?_⟩
      rw [hvl,List.drop_zero]
      show _=((pat (raws t rs (ls.map fun s=>s.data.toList)) k).recs.drop (pat (raws t rs (ls.map fun s=>s.data.toList)) k).read,_,(pat (raws t rs (ls.map fun s=>s.data.toList)) k).err)
      rw [hp,List.getElem_map];rfl)
    (by
      show GenC wz S5 t5 g5 (pat (raws t rs (ls.map fun s=>s.data.toList)) k).rule (pat (raws t rs (ls.map fun s=>s.data.toList)) k).got
      rw [hp];exact hG3)
    (by
      show IdleC wz gs (ss (raws t rs (ls.map fun s=>s.data.toList)) k) t (pat (raws t rs (ls.map fun s=>s.data.toList)) k).til
      rw [raws_ss hlm,hp];exact hI3)
    (by omega) (by omega) hG0 n1 (fun e=>by have:=hG5 _ e;omega) (fun e=>by have:=hG5 _ e;omega)
  have hNt : tag w.heap.size=0:=by
    apply Classical.byContradiction
    intro h
    have:=htg _ h
    omega
  have hu : Upd (fun b=>b=g) wz (wz.setCell ⟨g,0,none⟩ (.slice a1 (k+1) c1)):=(Upd.refl (fun b=>b=g) wz).setCell (p:=⟨g,0,none⟩) (fun _=>rfl) _
  refine ⟨tag',W',_,hS',hlg,fun b hb=>?_,(hAb.upd q2 (fun e=>by have:=hS.t2 _ e;omega)).upd hu (fun e=>by omega),?_,hgw⟩
  · rcases ht' b hb with h|h
    · exact htg b h
    · have:=hAb.1;omega
  · exact (hbw.upd q2 hbw.size (fun i _ h=>by have:=htg i (by rw [hS.t2 i h];omega);omega)).setCell (p:=⟨g,0,none⟩) (by show w.heap.size≤g;omega) _
theorem so_new (rs : List Rul) (t d : Int) (ls : List ByteArray) (a : Option Addr) (n c : Nat) (b : Option Addr) (m c2 : Nat) (w : World) (h1 : RowU w a rs) (h2 : RowS w b ls) (hn : n=rs.length) (hm : m=ls.length) (hz : nerr rs t d m=0) (h8 : m≤8) (hf : ∀ r∈rs,r.Fits) (ht : in64 t) (hd : in64 d) (hs : ∀ s∈ls,s.size≤400) :
    Calls Tryz.prog 57 #[.agg #[.slice a n c,.int .i64 t,.int .i64 d],.slice b m c2] w (NewPost (St.new t d rs (ls.map fun s=>s.data.toList)) (St.newE t rs (ls.map fun s=>s.data.toList)) w):=by
  have hb0 : Below w.heap.size w (w.alloc (.cells #[.slice a n c,.int .i64 t,.int .i64 d] 24)):=(Below.refl _ _).alloc (Nat.le_refl _) _
  have hA:=At.alloc w [.slice a n c,.int .i64 t,.int .i64 d] 24
  obtain ⟨hc0,hmn⟩ : ccheck rs t d=0∧m=rs.length:=by
    unfold nerr at hz
    by_cases hc : ccheck rs t d=0
    · rw [if_neg (by omega)] at hz
      refine ⟨hc,?_⟩
      apply Classical.byContradiction
      intro e
      rw [if_pos e] at hz
      omega
    · rw [if_pos hc] at hz;exact absurd hz hc
  have HC:=Lib.hid (cf_check rs t d a n c _ (h1.below hb0) hn (by omega) 0 hc0)
  have HD:=Lib.hid hd
  have H1:=Lib.hid h1
  have H2:=Lib.hid h2
  have hn8 : n≤8:=by omega
  have hnm : m=n:=by omega
  subst hnm
  have HMG:=fun w'=>Lib.hid (me_new (m : Int) m w' (by omega) (by omega))
  have HAL:=fun w'=>Lib.hid (al_new d (m : Int) m w' hd (by omega) (by omega))
  have HM:=Lib.hid hm
  have HN:=Lib.hid hn
  clear h1 h2 hz hmn hm hn
  go_enter Tryz.func57,Tryz.ntmps57
  go_wp2_with (first|(go_at_call 103;(with_reducible refine HC.out.mono ?_);rintro e w1 ⟨rfl,hb1⟩;have hA1:=hA.on hb1;obtain ⟨hg,p0,x0,p1,x1,p2,x2⟩:=hA1.three))
  go_cut [8] (fun v wx=>MadeAt w1 m d v wx)
  case first =>
    go_region_with (first|(go_at_call 104;(with_reducible refine (HMG _).out.mono ?_);rintro e wm ⟨F,gm,rfl,hM,hMF,hbm⟩;first|(have hBm:=on_below (Below.refl w1.heap.size w1).drew hbm;have hA2:=hA1.on hBm;obtain ⟨-,q0,-,q1,-,q2,-⟩:=hA2.three)|(have hBm:=on_below hBa hbm))|(go_at_call 105;(with_reducible refine (HAL _).out.mono ?_);rintro e wa ⟨ga,gl,rfl,hL,hg1,hg2,hba⟩;first|(have hBa:=on_below (Below.refl w1.heap.size w1).drew hba)|(have hBa:=on_below hBm hba)))
    all_goals (go_wp2_with fail;go_meet)
    all_goals first
      | exact madeAt_of _ (hM.on hba) hL hBa (fun b hb=>by have:=hMF b hb;simpa using this) (by have:=hBm.size;omega) (by have:=hBm.size;omega) (fun e=>by have:=hM.lt _ e;omega) (fun e=>by have:=hM.lt _ e;omega)
      | exact madeAt_of _ hM (hL.on hbm) hBm (fun b hb=>by have:=hMF b hb;have:=hBa.size;omega) (by simpa using hg1) (by simpa using hg2) (fun e=>by have:=hMF _ e;have:=hL.at_.1;omega) (fun e=>by have:=hMF _ e;have:=hL.ls.lt;omega)
  case rest =>
    obtain ⟨g,gm,ga,gl,F,rfl,hAg,hM,hL,b1,b2,b3,b4,d1,d2,d3,d4,d5,hbc⟩:=hcut
    have hw1:=hb1.size
    have hw1' : w.heap.size+1≤w1.heap.size:=by simpa using hw1
    have hAc:=hA1.on hbc
    have hbw : Below w.heap.size w wc:=on_below (on_below hb0 hb1) hbc
    have hlen : ls.length=rs.length:=by rw [← HM.out,HN.out]
    have hchk : ∀ r∈rs,rcheck r=0:=ccheck_ok hc0
    have ht1:=ccheck_t hc0
    have hlm : (ls.map fun s=>s.data.toList).length=rs.length:=by rw [List.length_map];exact hlen
    rw [HN.out] at hM hL
    obtain ⟨tag0,hS0,htg0⟩:=SrcC.made (t:=t) (d:=d) (fun j=>ls.getD j ⟨#[]⟩) hlm hchk hAg hM hL (B:=w.heap.size+1) (by omega) (fun b hb=>by have:=b2 b hb;omega) (by omega) (by omega) d1 d2 d3 d4 d5
    have hNA : NewAt w a m c t d rs ls g 0 wc:=⟨tag0,_,_,hS0,rfl,htg0,hAc,hbw,by omega⟩
    clear hAg hM hL b2 d1 d2 d3 d4 d5 hS0 htg0 hbc hbw p0 x0 p1 x1 p2 x2 hA1
    obtain ⟨hg,p0,x0,p1,x1,p2,x2⟩:=hAc.three
    go_wp2
    go_loopw [36] (fun i wr=>∃ k : Nat,k≤m∧i = .int .i64 k∧NewAt w a m c t d rs ls g k wr) (fun i _=>m - (intOf i).toNat)
    case atStart=>exact ⟨0,Nat.zero_le _,rfl,hNA⟩
    case round =>
      clear hNA hAc hg p0 x0 p1 x1 p2 x2
      obtain ⟨k,hk,rfl,hR⟩:=hrel
      by_cases hlt : k<m
      · obtain ⟨tag,W,V,hS,hlg,htg,hAb,hbwr,hgw⟩:=hR
        have hkr : k<rs.length:=by rw [← HN.out];exact hlt
        have hkl : k<ls.length:=by rw [← HM.out];exact hlt
        have hrow:=H1.out.below hbwr
        have hstr:=H2.out.below hbwr
        obtain ⟨bb,offb,hb',-,-⟩:=hrow.at_ k hkr
        obtain ⟨bs,offs,hs',-,-⟩:=hstr.at_ k hkl
        subst hb' hs'
        obtain ⟨hbb,r0,r1,r2,r3,r4⟩:=RowU.cells hrow k hkr
        have HO:=fun w'=>Lib.hid (gn_of rs[k] w' (hchk _ (List.getElem_mem hkr)))
        have hfk:=hf _ (List.getElem_mem hkr)
        generalize hrk : rs[k]=r at *
        have HRK:=Lib.hid hrk
        clear hrk
        obtain ⟨kd,bd,pc,wn,sg⟩:=r
        simp only [Rul.val] at HO
        simp only at r0 r1 r2 r3 r4
        go_wp2_with (first|(go_at_call 106;(with_reducible refine (HO _).out.mono ?_);rintro e w5 ⟨t5,g5,S5,rfl,hG,hG0,hb5⟩))
        have hB5 : Below wr.heap.size wr w5:=on_below ((Below.refl _ _).alloc (Nat.le_refl _) _) hb5
        have hS5:=hS.on hB5
        have hstr5:=hstr.below hB5
        have hAb5:=hAb.on hB5
        have hG' : GenC w5 S5 t5 g5 rs[k] []:=by rw [HRK.out];exact hG
        have hG0' : ∀ b,S5 b→wr.heap.size≤b:=fun b hb=>by have:=hG0 b hb;simp at this;omega
        have hsk:=hs _ (List.getElem_mem hkl)
        have HF : ∀ wx,Below w5.heap.size w5 wx→g<wx.heap.size∧wx.cell? ⟨g,0,none⟩=some V.pv∧wx.frozen? ⟨g,0,none⟩=false∧wx.cell? ⟨bs,offs+k,none⟩=some (.string ls[k])∧wx.cell? ⟨w.heap.size,1,none⟩=some (.int .i64 t):=fun wx h=>by
          have h6:=(hS5.on h).blk.cells6
          exact ⟨h6.1,h6.2.1,h6.2.2.1,((hstr5.below h).cell k hkl).2,((hAb5.on h).three).2.2.2.1⟩
        have HROW : ∀ wx,Below w5.heap.size w5 wx→Sl 0 wx 3 V.pv k (ptv V k):=fun wx h=>(hS5.on h).row
        have HCN:=fun wx=>Lib.hid (cu_new ls[k] wx (by omega))
        have hts : add 0 (max t 0)=t:=by unfold add clampI;have:=ht.2;have:=ht1.2.1;rw [if_neg (by omega),if_neg (by omega)];omega
        have HIN:=fun wx (h : Below w5.heap.size w5 wx)=>Lib.hid (jd_new g 0 t wx (hS5.on h).clk (by omega) ht t hts)
        obtain ⟨i0,hi0,hz0,hz1,hz2⟩:=info_parts info_pn
        obtain ⟨hgl,f0,y0,f1,f2⟩:=HF w5 (Below.refl _ _)
        have hbss:=hstr5.cell k hkl |>.1
        have hm1 : k+1≤maxLen:=by unfold maxLen;omega
        have hpg : V.pv.ownBlock≠some g:=fun e=>by have h1:=hS.t2 _ e;rw [hS.t1] at h1;omega
        clear hstr hstr5 hrow hG hG0 hb5 hts r0 r1 r2 r3 r4 hbb
        go_region_law (first|(refine step_append_own rfl (.tmp 50) (.tmp 64) 165 165 rfl 178 i0 (.agg #[.pointer none,.nilIface,.pointer none]) 32 Tryz.underlying165 hi0 hz0 hz1 hz2 rfl V.pv _ 1 [.pointer (some ⟨gc,0,none⟩),.iface t5 (.pointer (some ⟨g5,0,none⟩)),.pointer (some ⟨gs,0,none⟩)] rfl rfl (by first|exact (HROW _ hBb).alloc _|exact (HROW _ hBa).alloc _) (src_cells Tryz.underlying165 _ _ _ _ rfl 3 rfl (three_one _ _ _ _)) hm1 (by omega) (Nat.zero_le _) ?_;intro a1 c1 wz q1 q2 q3;have hgz : wz.cell? ⟨g,0,none⟩=some V.pv∧wz.frozen? ⟨g,0,none⟩=false:=(by first|exact grow_cell hglb fb0 yb0 hpg q2|exact grow_cell hgla fa0 ya0 hpg q2);obtain ⟨gz0,gz1⟩:=hgz)|(go_simp;go_at_call 107;(with_reducible refine (HCN _).out.mono ?_);rintro e wa ⟨gc,rfl,hgc,hC,hba,-⟩;have hBa : Below w5.heap.size w5 wa:=(by first|exact on_below (Below.refl _ _).drew hba|exact on_below hBb hba);obtain ⟨hgla,fa0,ya0,fa1,fa2⟩:=HF _ hBa)|(go_simp;go_at_call 108;(with_reducible refine (HIN _ (by first|exact (Below.refl _ _).drew|exact hBa)).out.mono ?_);rintro e wb hIN;obtain ⟨gs,hgs,hgse,rfl,hI,hbb⟩:=idNew_open hIN;have hBb : Below w5.heap.size w5 wb:=(by first|exact on_below (Below.refl _ _).drew hbb|exact on_below hBa hbb);obtain ⟨hglb,fb0,yb0,fb1,fb2⟩:=HF _ hBb))
        all_goals (go_wp2_with fail;go_roundw)
        all_goals first
          | exact ⟨k+1,by omega,by go_num,new_step hS hlg htg hAb hbwr hgw hlen hkr hs hB5 hG' hG0' hBb (hC.on hbb) hI (by simpa using hgc) (by have:=hBa.size;omega) (by have:=hC.lt;omega) _ q1 q2 q3⟩
          | exact ⟨k+1,by omega,by go_num,new_step hS hlg htg hAb hbwr hgw hlen hkr hs hB5 hG' hG0' hBa hC (hI.on hba) (by have:=hBb.size;omega) (by simpa using hgs) (by omega) _ q1 q2 q3⟩
          | (simp [intOf];omega)
      · obtain rfl : k=m:=by omega
        clear hk hlt
        rw [HN.out] at hR
        obtain ⟨tag,W,V,hS,hlg,htg,hAb,hbwr,hgw⟩:=hR
        have hrl:=raws_len (t:=t) hlm
        have hrs8 : rs.length≤8:=by rw [← HN.out];exact hn8
        have e1 : newX t d rs (ls.map fun s=>s.data.toList) rs.length=loOf ⟨raws t rs (ls.map fun s=>s.data.toList),t,d,0,-9223372036854775808⟩ [] 0:=by
          unfold newX loOf
          simp only [hrl]
        rw [e1] at hS
        have HE:=Lib.hid (so_each_settle tag W _ V g _ wr hS (Nat.le_refl _) (fun j hj=>by show 0≤ss _ j∧ss _ j<2;rw [raws_ss hlm];exact ⟨Int.le_refl _,by show (0 : Int)<2;omega⟩) (by show 0+(raws t rs (ls.map fun s=>s.data.toList)).length≤100000;omega))
        rw [show (loOf ⟨raws t rs (ls.map fun s=>s.data.toList),t,d,0,-9223372036854775808⟩ [] 0).n=(raws t rs (ls.map fun s=>s.data.toList)).length from rfl,lo_settle_all,List.nil_append] at HE
        have hok : ∀ p∈begun t rs (ls.map fun s=>s.data.toList),p.Ok:=fun p hp=>by
          obtain ⟨q,hq,rfl⟩:=List.mem_map.1 hp
          exact (raws_ok (fun r hr=>⟨hchk r hr,hf r hr⟩) (fun l hl=>by
            obtain ⟨s,hs',rfl⟩:=List.mem_map.1 hl
            exact hs s hs') ⟨ht1.2.1,ht.2⟩ q hq).settled
        have HA:=fun w' tag' W' ev' (h : SrcC w' tag' W' ev' V g (loOf ⟨begun t rs (ls.map fun s=>s.data.toList),t,d,0,-9223372036854775808⟩ (faultsTo (raws t rs (ls.map fun s=>s.data.toList)) (raws t rs (ls.map fun s=>s.data.toList)).length) 0))=>Lib.hid (so_advance tag' W' ev' V g _ w' h (least_in hok) (by
          have:=faultsTo_len (raws t rs (ls.map fun s=>s.data.toList)) (raws t rs (ls.map fun s=>s.data.toList)).length
          show (faultsTo _ _).length≤100000
          omega))
        rw [hrl,lo_begin t d rs _ hlm] at HA
        rw [hrl] at HE
        clear e1 hok hS hlg
        go_wp2_with (first|(go_at_call 109;(with_reducible refine HE.out.mono ?_);rintro e w6 ⟨rfl,tag6,W6,ev6,hS6,hu6,ht6⟩)|(go_at_call 111;(with_reducible refine (HA _ _ _ _ hS6).out.mono ?_);rintro e w7 ⟨rfl,tag7,W7,ev7,hS7,hu7,ht7⟩;obtain ⟨hg7,c0,z0,c1,z1,c2,z2,c3,z3,c4,z4,c5,z5⟩:=hS7.blk.cells6;obtain ⟨ae,ce,hev⟩:=hS7.evr.shape;have hel : (loOf (St.new t d rs (ls.map fun s=>s.data.toList)) (St.newE t rs (ls.map fun s=>s.data.toList)) 0).evs.length=(St.newE t rs (ls.map fun s=>s.data.toList)).length:=rfl;rw [hel] at hev;rw [hev] at c4;clear hel hev))
        go_ret2
        have htw : ∀ b,tag7 b≠0→w.heap.size≤b:=fun b hb=>by
          rcases ht7 b hb with h|h
          · rcases ht6 b h with h|h
            · have:=htg b h;omega
            · have:=hbwr.size;omega
          · have:=hu6.size;have:=hbwr.size;omega
        have hb6 : Below w.heap.size w w6:=hbwr.upd hu6 hbwr.size (fun i _ h=>by have:=htg i h;omega)
        have hb7 : Below w.heap.size w w7:=hb6.upd hu7 hb6.size (fun i _ h=>by
          rcases ht6 i h with h|h
          · have:=htg i h;omega
          · have:=hbwr.size;omega)
        exact ⟨tag7,W7,ev7,V,g,rfl,hS7.toBeg (St.newE t rs (ls.map fun s=>s.data.toList)).length,htw,hb7.setCell (p:=⟨g,5,none⟩) (htw g (by rw [hS7.t1];omega)) _⟩
theorem nerr_zero {rs : List Rul} {t d : Int} {m : Nat} (hz : nerr rs t d m=0) : ccheck rs t d=0∧m=rs.length:=by
  unfold nerr at hz
  by_cases hc : ccheck rs t d=0
  · rw [if_neg (by omega)] at hz
    refine ⟨hc,?_⟩
    apply Classical.byContradiction
    intro e
    rw [if_pos e] at hz
    omega
  · rw [if_pos hc] at hz;exact absurd hz hc
structure SrcI (w0 w : World) (tag : Nat→Nat) (W : Nat→Nat→Prop) (ev : Value) (V : SrcV) (g : Nat) (s : St) (evs : List Ev) (beg : Nat) : Prop where
  src : SrcC w tag W ev V g (loOf s evs beg)
  own : ∀ b,tag b≠0→w0.heap.size≤b
  new : Below w0.heap.size w0 w
  ok : s.Ok
theorem SrcI.on {w0 w w' : World} {tag : Nat→Nat} {W : Nat→Nat→Prop} {ev : Value} {V : SrcV} {g : Nat} {s : St} {evs : List Ev} {beg : Nat} (h : SrcI w0 w tag W ev V g s evs beg) (hb : Below w.heap.size w w') : SrcI w0 w' tag W ev V g s evs beg :=
  ⟨h.src.on hb,h.own,on_below h.new hb,h.ok⟩
theorem SrcI.did {w0 w w' : World} {tag : Nat→Nat} {W : Nat→Nat→Prop} {ev : Value} {V : SrcV} {g : Nat} {s : St} {evs : List Ev} {beg : Nat} (h : SrcI w0 w tag W ev V g s evs beg) {x : Bool×Int} {e : Ending} (k : DoPost tag V g (loOf (s.doS x) (evs++s.doE x) beg) (s.doE x) w e w') :
    ∃ v tag' W' ev',e = .returned v∧Sl w.heap.size w' 1 v (s.doE x).length ((s.doE x).map evv)∧SrcI w0 w' tag' W' ev' V g (s.doS x) (evs++s.doE x) beg∧Upd (fun b=>tag b≠0) w w'∧∀ b,v.ownBlock=some b→tag' b=0:=by
  obtain ⟨v,tag',W',ev',h1,h2,h3,h4,h5,h6⟩:=k
  refine ⟨v,tag',W',ev',h1,h2,⟨h3,fun b hb=>?_,h.new.upd h4 h.new.size (fun i _ hi=>h.own i hi),h.ok.do x⟩,h4,h6⟩
  rcases h5 b hb with h7|h7
  · exact h.own b h7
  · exact Nat.le_trans h.new.size h7
theorem SrcI.of_new {w0 w w' : World} {s : St} {evs : List Ev} {e : Ending} (hb : Below w0.heap.size w0 w) (hok : s.Ok) (k : NewPost s evs w e w') :
    ∃ tag W ev V g,e = .returned (.tuple #[.pointer (some ⟨g,0,none⟩),.int .i64 0])∧SrcI w0 w' tag W ev V g s evs evs.length∧Below w.heap.size w w':=by
  obtain ⟨tag,W,ev,V,g,h1,h2,h3,h4⟩:=k
  exact ⟨tag,W,ev,V,g,h1,⟨h2,fun b hb'=>Nat.le_trans hb.size (h3 b hb'),on_below hb h4,hok⟩,h4⟩
section
variable {w0 w : World} {tag : Nat→Nat} {W : Nat→Nat→Prop} {ev : Value} {V : SrcV} {g : Nat} {s : St} {evs : List Ev} {beg : Nat}
theorem SrcI.status (h : SrcI w0 w tag W ev V g s evs beg) (i : Nat) (hi : i<s.ps.length) :
    Calls Tryz.prog 61 #[.pointer (some ⟨g,0,none⟩),.int .i64 i] w fun e w'=>e = .returned (.int .i64 (ss s.ps i))∧w=w' :=
  so_status tag W ev V g _ i _ w h.src (by rw [if_pos ⟨by omega,by show (i : Int)<(s.ps.length : Nat);omega⟩,Int.toNat_natCast];rfl)
end
theorem case_new (rs : List Rul) (t d : Int) (ls : List ByteArray) (a : Option Addr) (n c : Nat) (b : Option Addr) (m c2 : Nat) (w0 w : World) (hb : Below w0.heap.size w0 w) (h1 : RowU w0 a rs) (h2 : RowS w0 b ls) (hn : n=rs.length) (hm : m=ls.length) (hz : nerr rs t d m=0) (h8 : m≤8) (hf : ∀ r∈rs,r.Fits) (ht : in64 t) (hd : in64 d) (hs : ∀ s∈ls,s.size≤400) :
    Calls Tryz.prog 57 #[.agg #[.slice a n c,.int .i64 t,.int .i64 d],.slice b m c2] w fun e w'=>∃ tag W ev V g,e = .returned (.tuple #[.pointer (some ⟨g,0,none⟩),.int .i64 0])∧SrcI w0 w' tag W ev V g (St.new t d rs (ls.map fun s=>s.data.toList)) (St.newE t rs (ls.map fun s=>s.data.toList)) (St.newE t rs (ls.map fun s=>s.data.toList)).length∧Below w.heap.size w w':=by
  obtain ⟨hc0,hmn⟩:=nerr_zero hz
  have ht1:=ccheck_t hc0
  have hok : (St.new t d rs (ls.map fun s=>s.data.toList)).Ok:=new_ok (by rw [List.length_map];omega) (by omega) (fun r hr=>⟨ccheck_ok hc0 r hr,hf r hr⟩) (fun l hl=>by
    obtain ⟨s,hs',rfl⟩:=List.mem_map.1 hl
    exact hs s hs') ⟨ht1.2.1,ht.2⟩ ⟨ht1.2.2,hd.2⟩
  exact (so_new rs t d ls a n c b m c2 w (h1.below hb) (h2.below hb) hn hm hz h8 hf ht hd hs).mono fun e w' k=>SrcI.of_new hb hok k
theorem new_plen {rs : List Rul} {t d : Int} {ls : List ByteArray} {m : Nat} (hm : m=ls.length) (hz : nerr rs t d m=0) : (St.new t d rs (ls.map fun s=>s.data.toList)).ps.length=m:=by
  obtain ⟨hc0,hmn⟩:=nerr_zero hz
  show ((raws t rs _).map settled).length=m
  rw [List.length_map,raws_len (by rw [List.length_map];omega)]
  exact hmn.symm
section
variable {w0 w w' : World} {tag : Nat→Nat} {W : Nat→Nat→Prop} {ev : Value} {V : SrcV} {g : Nat} {s : St} {evs : List Ev} {beg : Nat} {u v : Value} {ts : List (Bool×Int)} {n : Nat}
end
end Go.Proofs.YtmimfkhkilijcaaGreatDoor
