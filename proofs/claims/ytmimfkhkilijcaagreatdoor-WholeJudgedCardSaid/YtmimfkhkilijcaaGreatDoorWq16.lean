/- KConfA: what is reached of them. -/
import Derived.Test.YtmimfkhkilijcaaGreatDoorWq11
import Derived.Test.YtmimfkhkilijcaaGreatDoorWq09
import Derived.Test.YtmimfkhkilijcaaGreatDoorWq15
import Derived.Deep.LoopGhost
set_option linter.unusedVariables false
set_option linter.unusedSimpArgs false
set_option maxRecDepth 100000
set_option maxHeartbeats 8000000
namespace Go.Proofs.YtmimfkhkilijcaaGreatDoor
open Go.ChangeShapes Go.WideShapes Go.ChangeAt Go.RowKit
open PWord
open Go.Lib (itoa)
theorem cuts_le (c : UInt8) : ∀ (k : Nat) (l : List UInt8),(cuts c k l).length≤k+1∧∀ x∈cuts c k l,x.length≤l.length:=by
  intro k
  induction k with
  | zero=>intro l;exact ⟨by show [l].length≤_;simp,fun x hx=>by have : x∈[l]:=hx;simp at this;rw [this];exact Nat.le_refl _⟩
  | succ k ih =>
    intro l
    by_cases hc : c∈l
    · obtain ⟨a,b,rfl,ha⟩:=part_at c l hc
      rw [cuts_some c k a b ha]
      obtain ⟨h1,h2⟩:=ih b
      refine ⟨by simp only [List.length_cons];omega,fun x hx=>?_⟩
      rcases List.mem_cons.1 hx with rfl|hx
      · simp
      · have:=h2 x hx;simp;omega
    · rw [cuts_none c _ l hc]
      exact ⟨by simp,fun x hx=>by simp at hx;rw [hx];exact Nat.le_refl _⟩
def SplitPost (p : List UInt8×List Int) (w : World) (e : Ending) (w' : World) : Prop :=
  ∃ v,e = .returned (.tuple #[.string (bstr p.1),v])∧Sl w.heap.size w' 1 v p.2.length (iv p.2)∧Below w.heap.size w w'
theorem one_cell : ∀ w : World,(Go.sizeOf 9).run Tryz.prog w = .ok 1 w:=Tryz.sizeOf9
theorem cf_split (s : ByteArray) (w : World) (he : EnvW w) (hs : s.size≤1000000) :
    Calls Tryz.prog 190 #[.string s] w (SplitPost (split s.data.toList) w):=by
  have hne:=cuts_ne 32 3 s.data.toList
  obtain ⟨hcl,hcx⟩:=cuts_le 32 3 s.data.toList
  have hsl : s.data.toList.length=s.size:=by simp
  rw [hsl] at hcx
  have HSN : Hid (Calls Tryz.prog 125 #[.string s,.string ⟨#[32]⟩,.int .i64 4] w (Parted w (cuts 32 3 s.data.toList))):=li_splitn s w hs he
  have hsp : split s.data.toList=match cuts 32 3 s.data.toList with
    | []=>([],[])
    | n::ws=>(n,(nums ws).getD []):=rfl
  rw [hsp]
  clear hsp
  generalize cuts 32 3 s.data.toList=L at *
  cases L with
  | nil=>exact absurd rfl hne
  | cons name L =>
    simp only
    go_enter Tryz.func190,Tryz.ntmps190
    go_wp2_with (go_at_call 125;refine HSN.out.mono ?_)
    rintro e w1 ⟨g,c,ws,rfl,hL,hR,hc,hcm,hg,hb1⟩
    cases ws with
    | nil=>simp at hL
    | cons x ws =>
      simp only [List.map_cons,List.cons.injEq] at hL
      obtain ⟨hx,hL⟩:=hL
      obtain rfl : x=bstr name:=by rw [← hx]
      have he1:=he.on hb1
      obtain ⟨hgl,c0⟩:=hR.cell 0 (by simp)
      simp only [List.getElem_cons_zero] at c0
      simp only [List.length_cons] at hc
      obtain ⟨a',c',hrun,hmc,hcc,hR'⟩:=rows_from (P:=Tryz.prog) (a:=some ⟨g,0,none⟩) (n:=ws.length+1) (c:=c) (t:=25) (e:=9) hc (by unfold maxLen;omega) Tryz.underlying25 one_cell 1 ws.length 1 rfl (by omega) (by omega)
      have hR1:=hR' w1 _ rfl hR
      simp only [List.drop_succ_cons,List.drop_zero] at hR1
      have hwl : ws.length≤3:=by rw [← hL] at hcl;simpa using hcl
      have hsz : ∀ s'∈ws,s'.size≤1000000:=fun s' hs'=>by
        have:=hcx s'.data.toList (by rw [← hL];simp only [List.mem_cons,List.mem_map];exact .inr ⟨s',hs',rfl⟩)
        have e : s'.data.toList.length=s'.size:=by simp
        omega
      have HNUM:=Lib.hid (cf_numbers a' ws.length c' ws w1 he1 hR1 rfl (by omega) hsz)
      rw [show bl ws=L from hL] at HNUM
      clear hR' hR1 hsz hcx hcl hL hmc hne
      go_wp2_with (go_at_call 126;refine HNUM.out.mono ?_;rintro e w2 ⟨v,rfl,hv,hb2⟩;have d0:=cell_stays hb2 c0)
      go_ret2
      exact ⟨v,rfl,hv.base hb1.size,on_below hb1 hb2⟩
theorem split_in64 (l : List UInt8) : ∀ n∈(split l).2,in64 n:=by
  intro n hn
  by_cases h : (split l).2=[]
  · rw [h] at hn;cases hn
  · exact (split_back (l:=l) (name:=(split l).1) (ns:=(split l).2) rfl h).2 n hn
def SplitRow (p : List UInt8×List Int) (w : World) (e : Ending) (w' : World) : Prop :=
  ∃ a c,e = .returned (.tuple #[.string (bstr p.1),.slice a p.2.length c])∧RowI w' .i64 a p.2∧Below w.heap.size w w'
theorem cf_split2 (s : ByteArray) (w : World) (he : EnvW w) (hs : s.size≤1000000) :
    Calls Tryz.prog 190 #[.string s] w (SplitRow (split s.data.toList) w) :=
  (cf_split s w he hs).mono fun e w' ⟨v,h1,h2,h3⟩=>by
    obtain ⟨-,a,c,rfl,hr⟩:=rowi_of_sl h2 (split_in64 _)
    exact ⟨a,c,h1,hr,h3⟩
def ruleOfP (name : List UInt8) (ns : List Int) : Option Rul :=
  match ns with
  | [a]=>if name=tBounded then some ⟨0,a,0,0,0⟩ else if name=tMarked then some ⟨1,0,0,0,a⟩ else none
  | [a,b]=>if name=tPercent then some ⟨2,0,a,b,0⟩ else none
  | _=>none
theorem ruleOf_eq (l : List UInt8) : ruleOf l=ruleOfP (split l).1 (split l).2:=rfl
abbrev zRul : Rul:=⟨0,0,0,0,0⟩
def RulOut (o : Option Rul) (w : World) (e : Ending) (w' : World) : Prop:=e = .returned (.tuple #[(o.getD zRul).val,.bool o.isSome])∧Below w.heap.size w w'
theorem cf_ruleOf (s : ByteArray) (w : World) (he : EnvW w) (hn : Names w) (hs : s.size≤1000000) :
    Calls Tryz.prog 191 #[.string s] w (RulOut (ruleOf s.data.toList) w):=by
  rw [ruleOf_eq]
  have hA:=At.alloc w [.int .i64 0,.int .i64 0,.int .i64 0,.int .i64 0,.int .i64 0] 59
  have hb0 : Below w.heap.size w (w.alloc (.cells #[.int .i64 0,.int .i64 0,.int .i64 0,.int .i64 0,.int .i64 0] 59)):=(Below.refl _ _).alloc (Nat.le_refl _) _
  have HSP:=Lib.hid (cf_split2 s _ (he.on hb0) hs)
  have hn0:=hn.on hb0
  clear he hn
  generalize split s.data.toList=p at *
  obtain ⟨name,ns⟩:=p
  simp only
  by_cases k0 : name=tBounded
  · subst k0
    by_cases hl : ns.length=1
    · obtain ⟨x,rfl⟩:=List.length_eq_one_iff.1 hl
      have ho : ruleOfP tBounded [x]=some ⟨0,x,0,0,0⟩:=by simp [ruleOfP]
      rw [ho]
      clear ho hl
      go_enter Tryz.func191,Tryz.ntmps191
      go_wp2_with (go_at_call 190;refine HSP.out.mono ?_;rintro e w1 ⟨a,c,rfl,hR,hb1⟩;obtain ⟨n0,n1,n2⟩:=hn0.on hb1;obtain ⟨b,off,rfl,hbl,q0⟩:=hR.at_ 0 (by simp);rw [Nat.add_zero] at q0;simp only [List.getElem_cons_zero] at q0;obtain ⟨hg,c0,z0,c1,z1,c2,z2,c3,z3,c4,z4⟩:=(hA.on hb1).five;obtain ⟨p0,p1,p2,p3,p4⟩:=(hA.on hb1).put5)
      exact bodyPost_ret (v:=.tuple #[.agg #[.int .i64 0,.int .i64 x,.int .i64 0,.int .i64 0,.int .i64 0],.bool true]) (by simp [results,Tryz.results191,go_sem,p0,p1,p2,p3,p4,hg]) rfl ⟨rfl,((((((on_below hb0 hb1).setCell (Nat.le_refl _) _).setCell (Nat.le_refl _) _).setCell (Nat.le_refl _) _).setCell (Nat.le_refl _) _).setCell (Nat.le_refl _) _)⟩
    · have ho : ruleOfP tBounded ns=none:=by
        unfold ruleOfP
        split <;> simp_all
      rw [ho]
      have hl' : ((ns.length : Int) == 1)=false:=by simp;omega
      clear ho hl
      go_enter Tryz.func191,Tryz.ntmps191
      go_wp2_with (go_at_call 190;refine HSP.out.mono ?_;rintro e w1 ⟨a,c,rfl,hR,hb1⟩;obtain ⟨n0,n1,n2⟩:=hn0.on hb1;obtain ⟨hg,c0,z0,c1,z1,c2,z2,c3,z3,c4,z4⟩:=(hA.on hb1).five;obtain ⟨p0,p1,p2,p3,p4⟩:=(hA.on hb1).put5)
      exact bodyPost_ret (v:=.tuple #[.agg #[.int .i64 0,.int .i64 0,.int .i64 0,.int .i64 0,.int .i64 0],.bool false]) (by simp [results,Tryz.results191,go_sem,p0,p1,p2,p3,p4,hg]) rfl ⟨rfl,((((((on_below hb0 hb1).setCell (Nat.le_refl _) _).setCell (Nat.le_refl _) _).setCell (Nat.le_refl _) _).setCell (Nat.le_refl _) _).setCell (Nat.le_refl _) _)⟩
  by_cases k1 : name=tMarked
  · subst k1
    by_cases hl : ns.length=1
    · obtain ⟨x,rfl⟩:=List.length_eq_one_iff.1 hl
      have ho : ruleOfP tMarked [x]=some ⟨1,0,0,0,x⟩:=by simp [ruleOfP]
      rw [ho]
      clear ho hl
      go_enter Tryz.func191,Tryz.ntmps191
      go_wp2_with (go_at_call 190;refine HSP.out.mono ?_;rintro e w1 ⟨a,c,rfl,hR,hb1⟩;obtain ⟨n0,n1,n2⟩:=hn0.on hb1;obtain ⟨b,off,rfl,hbl,q0⟩:=hR.at_ 0 (by simp);rw [Nat.add_zero] at q0;simp only [List.getElem_cons_zero] at q0;obtain ⟨hg,c0,z0,c1,z1,c2,z2,c3,z3,c4,z4⟩:=(hA.on hb1).five;obtain ⟨p0,p1,p2,p3,p4⟩:=(hA.on hb1).put5)
      exact bodyPost_ret (v:=.tuple #[.agg #[.int .i64 1,.int .i64 0,.int .i64 0,.int .i64 0,.int .i64 x],.bool true]) (by simp [results,Tryz.results191,go_sem,p0,p1,p2,p3,p4,hg]) rfl ⟨rfl,((((((on_below hb0 hb1).setCell (Nat.le_refl _) _).setCell (Nat.le_refl _) _).setCell (Nat.le_refl _) _).setCell (Nat.le_refl _) _).setCell (Nat.le_refl _) _)⟩
    · have ho : ruleOfP tMarked ns=none:=by
        unfold ruleOfP
        split <;> simp_all
      rw [ho]
      have hl' : ((ns.length : Int) == 1)=false:=by simp;omega
      clear ho hl
      go_enter Tryz.func191,Tryz.ntmps191
      go_wp2_with (go_at_call 190;refine HSP.out.mono ?_;rintro e w1 ⟨a,c,rfl,hR,hb1⟩;obtain ⟨n0,n1,n2⟩:=hn0.on hb1;obtain ⟨hg,c0,z0,c1,z1,c2,z2,c3,z3,c4,z4⟩:=(hA.on hb1).five;obtain ⟨p0,p1,p2,p3,p4⟩:=(hA.on hb1).put5)
      exact bodyPost_ret (v:=.tuple #[.agg #[.int .i64 0,.int .i64 0,.int .i64 0,.int .i64 0,.int .i64 0],.bool false]) (by simp [results,Tryz.results191,go_sem,p0,p1,p2,p3,p4,hg]) rfl ⟨rfl,((((((on_below hb0 hb1).setCell (Nat.le_refl _) _).setCell (Nat.le_refl _) _).setCell (Nat.le_refl _) _).setCell (Nat.le_refl _) _).setCell (Nat.le_refl _) _)⟩
  by_cases k2 : name=tPercent
  · subst k2
    by_cases hl : ns.length=2
    · obtain ⟨x,y,rfl⟩ : ∃ x y,ns=[x,y]:=by
        match ns,hl with
        | [x,y],_=>exact ⟨x,y,rfl⟩
      have ho : ruleOfP tPercent [x,y]=some ⟨2,0,x,y,0⟩:=by simp [ruleOfP]
      rw [ho]
      clear ho hl
      go_enter Tryz.func191,Tryz.ntmps191
      go_wp2_with (go_at_call 190;refine HSP.out.mono ?_;rintro e w1 ⟨a,c,rfl,hR,hb1⟩;obtain ⟨n0,n1,n2⟩:=hn0.on hb1;obtain ⟨b,off,rfl,hbl,q0⟩:=hR.at_ 0 (by simp);have q1:=(hR.cell 1 (by simp)).2;rw [Nat.add_zero] at q0;simp only [List.getElem_cons_zero,List.getElem_cons_succ] at q0 q1;obtain ⟨hg,c0,z0,c1,z1,c2,z2,c3,z3,c4,z4⟩:=(hA.on hb1).five;obtain ⟨p0,p1,p2,p3,p4⟩:=(hA.on hb1).put5)
      go_region
      go_wp2
      exact bodyPost_ret (v:=.tuple #[.agg #[.int .i64 2,.int .i64 0,.int .i64 x,.int .i64 y,.int .i64 0],.bool true]) (by simp [results,Tryz.results191,go_sem,p0,p1,p2,p3,p4,hg]) rfl ⟨rfl,((((((on_below hb0 hb1).setCell (Nat.le_refl _) _).setCell (Nat.le_refl _) _).setCell (Nat.le_refl _) _).setCell (Nat.le_refl _) _).setCell (Nat.le_refl _) _).drew⟩
    · have ho : ruleOfP tPercent ns=none:=by
        unfold ruleOfP
        split <;> simp_all
      rw [ho]
      have hl' : ((ns.length : Int) == 2)=false:=by simp;omega
      clear ho hl
      go_enter Tryz.func191,Tryz.ntmps191
      go_wp2_with (go_at_call 190;refine HSP.out.mono ?_;rintro e w1 ⟨a,c,rfl,hR,hb1⟩;obtain ⟨n0,n1,n2⟩:=hn0.on hb1;obtain ⟨hg,c0,z0,c1,z1,c2,z2,c3,z3,c4,z4⟩:=(hA.on hb1).five;obtain ⟨p0,p1,p2,p3,p4⟩:=(hA.on hb1).put5)
      exact bodyPost_ret (v:=.tuple #[.agg #[.int .i64 0,.int .i64 0,.int .i64 0,.int .i64 0,.int .i64 0],.bool false]) (by simp [results,Tryz.results191,go_sem,p0,p1,p2,p3,p4,hg]) rfl ⟨rfl,((((((on_below hb0 hb1).setCell (Nat.le_refl _) _).setCell (Nat.le_refl _) _).setCell (Nat.le_refl _) _).setCell (Nat.le_refl _) _).setCell (Nat.le_refl _) _)⟩
  have ho : ruleOfP name ns=none:=by
    unfold ruleOfP
    split <;> simp_all
  rw [ho]
  have e0 : ¬ name=[98,111,117,110,100,101,100]:=k0
  have e1 : ¬ name=[109,97,114,107,101,100]:=k1
  have e2 : ¬ name=[112,101,114,99,101,110,116]:=k2
  clear ho k0 k1 k2
  go_enter Tryz.func191,Tryz.ntmps191
  go_wp2_with (go_at_call 190;refine HSP.out.mono ?_;rintro e w1 ⟨a,c,rfl,hR,hb1⟩;obtain ⟨n0,n1,n2⟩:=hn0.on hb1;obtain ⟨hg,c0,z0,c1,z1,c2,z2,c3,z3,c4,z4⟩:=(hA.on hb1).five;obtain ⟨p0,p1,p2,p3,p4⟩:=(hA.on hb1).put5)
  exact bodyPost_ret (v:=.tuple #[.agg #[.int .i64 0,.int .i64 0,.int .i64 0,.int .i64 0,.int .i64 0],.bool false]) (by simp [results,Tryz.results191,go_sem,p0,p1,p2,p3,p4,hg]) rfl ⟨rfl,((((((on_below hb0 hb1).setCell (Nat.le_refl _) _).setCell (Nat.le_refl _) _).setCell (Nat.le_refl _) _).setCell (Nat.le_refl _) _).setCell (Nat.le_refl _) _)⟩
theorem prules_go {ls : List (List UInt8)} {k : Nat} (hk : k<ls.length) (h : (prules (ls.take k)).length=k) {r : Rul} (hr : ruleOf ls[k]=some r) : prules (ls.take (k+1))=prules (ls.take k)++[r]:=by
  rw [prules_take] at h ⊢
  rw [List.length_take] at h
  have hlt : k<(prules ls).length:=by
    rcases Nat.lt_or_ge k (prules ls).length with h' | h'
    · exact h'
    · have e : (prules ls).length=k:=by omega
      have hn : ruleOf ls[k]=none:=by have:=prules_end ls (by omega);simpa [e] using this
      rw [hr] at hn;cases hn
  rw [prules_take,List.take_succ_eq_append_getElem hlt]
  have:=prules_at ls k hlt hk
  rw [hr] at this
  rw [Option.some.inj this]
theorem prules_stop {ls : List (List UInt8)} {k : Nat} (hk : k<ls.length) (h : (prules (ls.take k)).length=k) (hr : ruleOf ls[k]=none) : (prules ls).length=k:=by
  rw [prules_take,List.length_take] at h
  rcases Nat.lt_or_ge k (prules ls).length with h' | h'
  · have:=prules_at ls k h' hk
    rw [hr] at this;cases this
  · omega
def rlv : List Rul→List Value
  | []=>[]
  | r::rs=>r.cells++rlv rs
theorem rlv_snoc : ∀ (a : List Rul) (r : Rul),rlv (a++[r])=rlv a++r.cells
  | [],r=>by show r.cells++[]=_;simp [rlv]
  | x::a,r=>by show x.cells++rlv (a++[r])=(x.cells++rlv a)++r.cells;rw [rlv_snoc a r,List.append_assoc]
def ParsePostC (p : Cfg×Nat) (w : World) (e : Ending) (w' : World) : Prop :=
  ∃ v,e = .returned (.tuple #[.agg #[v,.int .i64 p.1.timeout,.int .i64 p.1.drift],.int .i64 (p.2 : Int)])∧Sl w.heap.size w' 5 v p.1.rules.length (rlv p.1.rules)∧Below w.heap.size w w'
theorem ParsePostC.none {n : Nat} {w w' : World} {e : Ending} (he : e = .returned (.tuple #[.agg #[.slice none 0 0,.int .i64 0,.int .i64 0],.int .i64 (n : Int)])) (hb : Below w.heap.size w w') : ParsePostC (noCfg,n) w e w':=⟨_,he,Sl.nil _ _ _,hb⟩
def headP (name : List UInt8) (ns : List Int) : Option (Int×Int) :=
  match ns with
  | [a,b]=>if name=tSource then some (a,b) else none
  | _=>none
theorem headOf_eq (l : List UInt8) : headOf l=headP (split l).1 (split l).2:=rfl
theorem info_rul : (Tryz.prog.info? 59).map (fun i=>(i.zero,i.size,i.bytes))=some (some (.agg #[.int .i64 0,.int .i64 0,.int .i64 0,.int .i64 0,.int .i64 0]),5,40):=by kernel_rfl
theorem src_rul {P : Program} {tx e' : TypeId} (hk : P.underlying tx=some (.slice e')) (w : World) (k b p n s : Int) (e : TypeId) (N : Nat) (hN : w.heap.size=N) :
    Src P 5 tx (.slice (some ⟨N,0,none⟩) 1 1) 1 [.int .i64 k,.int .i64 b,.int .i64 p,.int .i64 n,.int .i64 s] (w.alloc (.cells #[.int .i64 k,.int .i64 b,.int .i64 p,.int .i64 n,.int .i64 s] e)):=by
  subst hN
  refine Src.ofSlice _ hk ⟨w.heap.size,0,none⟩ 1 1 [.int .i64 k,.int .i64 b,.int .i64 p,.int .i64 n,.int .i64 s] rfl (fun j u hx=>?_) (fun u hx=>?_)
  · have ha:=At.alloc w [.int .i64 k,.int .i64 b,.int .i64 p,.int .i64 n,.int .i64 s] e
    obtain ⟨hj,rfl⟩:=List.getElem?_eq_some_iff.1 hx
    rw [Addr.add_lit,Nat.zero_add]
    exact (ha.2 j hj).1
  · simp at hx
    rcases hx with rfl|rfl|rfl|rfl|rfl <;> rfl
theorem cf_parse (a : Option Addr) (n c : Nat) (ws : List ByteArray) (w : World) (he : EnvW w) (hnm : Names w) (hr : RowS w a ws) (hn : n=ws.length) (hc : n≤c) (hm : c≤maxLen) (hl : ws.length≤1000) (hs : ∀ s∈ws,s.size≤1000000) :
    Calls Tryz.prog 134 #[.slice a n c] w (ParsePostC (parse (bl ws)) w):=by
  have hA:=At.alloc w [.slice none 0 0,.int .i64 0,.int .i64 0] 24
  have hb0 : Below w.heap.size w (w.alloc (.cells #[.slice none 0 0,.int .i64 0,.int .i64 0] 24)):=(Below.refl _ _).alloc (Nat.le_refl _) _
  cases ws with
  | nil =>
    subst hn
    obtain ⟨hg,c0,z0,c1,z1,c2,z2⟩:=hA.three
    obtain ⟨p0,p1,p2⟩:=hA.put3
    go_enter Tryz.func134,Tryz.ntmps134
    go_wp2
    exact bodyPost_ret (v:=.tuple #[.agg #[.slice none 0 0,.int .i64 0,.int .i64 0],.int .i64 1]) (by simp [results,Tryz.results134,go_sem,p0,p1,p2,hg]) rfl (ParsePostC.none rfl hb0)
  | cons l0 ws =>
    obtain ⟨b,off,rfl,hbl,q0⟩:=(hr.below hb0).at_ 0 (by simp)
    rw [Nat.add_zero] at q0
    simp only [List.getElem_cons_zero] at q0
    have HSP:=Lib.hid (cf_split2 l0 _ (he.on hb0) (hs l0 (by simp)))
    have hh:=headOf_eq l0.data.toList
    have hp : parse (bl (l0::ws))=match headOf l0.data.toList with
      | none=>(noCfg,1)
      | some td=>if (prules (bl ws)).length=(bl ws).length then (⟨prules (bl ws),td.1,td.2⟩,0) else (noCfg,(prules (bl ws)).length+2):=rfl
    rw [hp,hh]
    clear hp hh
    generalize split l0.data.toList=p at *
    obtain ⟨name,ns⟩:=p
    simp only at *
    have hn1 : n=ws.length+1:=by rw [hn];simp
    have hn0 : ((n : Int) == 0)=false:=by simp;omega
    have h0n : (0 : Int)<n:=by omega
    by_cases k0 : name=tSource
    · subst k0
      by_cases k1 : ns.length=2
      · obtain ⟨t,d,rfl⟩ : ∃ x y,ns=[x,y]:=by
          match ns,k1 with
          | [x,y],_=>exact ⟨x,y,rfl⟩
        have ho : headP tSource [t,d]=some (t,d):=by simp [headP]
        rw [ho]
        simp only
        have hk0 : (bl ws).length=ws.length:=by simp [bl]
        obtain ⟨p,hp⟩ : ∃ p,(if (prules (bl ws)).length=(bl ws).length then ((⟨prules (bl ws),t,d⟩ : Cfg),0) else (noCfg,(prules (bl ws)).length+2))=p:=⟨_,rfl⟩
        rw [hp]
        have HP:=Lib.hid hp
        have HN:=Lib.hid hn1
        have HK:=Lib.hid hk0
        obtain ⟨a',c',hrun,hmc,hcc,hR'⟩:=rows_from (P:=Tryz.prog) (a:=some ⟨b,off,none⟩) (n:=n) (c:=c) (t:=25) (e:=9) hc hm Tryz.underlying25 one_cell 1 (n - 1) 1 rfl (by omega) rfl
        obtain ⟨m,hmn⟩ : ∃ m,n - 1=m:=⟨_,rfl⟩
        rw [hmn] at hrun hmc
        have HM : Hid (m=ws.length):=Lib.hid (by omega)
        have hRR : Hid (∀ w',RowS w' (some ⟨b,off,none⟩) (l0::ws)→RowS w' a' ws):=Lib.hid (fun w' h=>hR' w' _ (by rw [HN.out];rfl) h)
        have HS:=Lib.hid (fun s h=>hs s (List.mem_cons_of_mem _ h))
        have hm9 : m≤1000:=by have h:=HM.out;simp at hl;omega
        have HRW:=Lib.hid hr
        clear ho k1 hn hn1 hp hk0 hmn hR' hs hl hr hcc
        go_enter Tryz.func134,Tryz.ntmps134
        go_wp2_with (go_at_call 190;refine HSP.out.mono ?_;rintro e w1 ⟨a1,c1',rfl,hR,hb1⟩;obtain ⟨b1,off1,rfl,hbl1,r0⟩:=hR.at_ 0 (by simp);have r1:=(hR.cell 1 (by simp)).2;rw [Nat.add_zero] at r0;simp only [List.getElem_cons_zero,List.getElem_cons_succ] at r0 r1)
        have hA1:=((hA.on hb1).upd (S:=fun _=>False) (((Upd.refl _ _).alloc (.cells #[.slice none 0 0,.int .i64 t,.int .i64 d] 24)).drew) id)
        have hAc:=(At.alloc w1 [.slice none 0 0,.int .i64 t,.int .i64 d] 24).drew
        have hb2:=(on_below hb0 hb1).upd (((Upd.refl (fun _=>False) _).alloc (.cells #[.slice none 0 0,.int .i64 t,.int .i64 d] 24)).drew) (on_below hb0 hb1).size (fun _ _ h=>h.elim)
        have hgz : w.heap.size<w1.heap.size:=by have:=hb1.size;simp at this;omega
        go_region
        go_wp2
        generalize hg1 : w1.heap.size=g1 at *
        have hAc' : At ((w1.alloc (.cells #[.slice none 0 0,.int .i64 t,.int .i64 d] 24)).drew) g1 [.slice none 0 0,.int .i64 t,.int .i64 d]:=hAc
        have hsz2 : g1+1≤((w1.alloc (.cells #[.slice none 0 0,.int .i64 t,.int .i64 d] 24)).drew).heap.size:=hAc.1
        generalize (w1.alloc (.cells #[.slice none 0 0,.int .i64 t,.int .i64 d] 24)).drew=w2 at *
        clear hAc hb1 hb0 hA HSP hbl q0 hR r0 r1 hbl1 hg1
        obtain ⟨i0,hi,hz0,hz1,hz2⟩:=info_parts info_rul
        have h00 : Sl (g1+1) w2 5 (.slice none 0 0) 0 (rlv []):=Sl.nil _ _ _
        go_loopw [40] (fun i wr=>∃ (k : Nat) (v : Value),i = .int .i64 k∧k≤m∧Hid ((prules ((bl ws).take k)).length=k)∧At wr g1 [v,.int .i64 t,.int .i64 d]∧Sl (g1+1) wr 5 v k (rlv (prules ((bl ws).take k)))∧At wr w.heap.size [.slice none 0 0,.int .i64 0,.int .i64 0]∧Below w.heap.size w wr∧g1+1≤wr.heap.size) (fun i _=>m - (intOf i).toNat)
        case atStart=>exact ⟨0,_,rfl,Nat.zero_le _,rfl,hAc',h00,hA1,hb2,hsz2⟩
        case round =>
          clear hAc' h00 hA1 hb2 hsz2
          obtain ⟨k,v,rfl,hk,HL,hac,hsl,haz,hb,hsz⟩:=hrel
          obtain ⟨av,cv,rfl⟩:=hsl.shape
          have hrr:=hRR.out wr (HRW.out.below hb)
          have heW:=he.on hb
          have hnW:=hnm.on hb
          by_cases hlt : k<m
          · have hk1 : k<ws.length:=by rw [← HM.out];exact hlt
            have hk2 : k<(bl ws).length:=by rw [HK.out];exact hk1
            obtain ⟨b2,off2,rfl,hbl2,q2⟩:=hrr.at_ k hk1
            have hsize:=HS.out _ (List.getElem_mem hk1)
            have hbk : (bl ws)[k]=ws[k].data.toList:=by simp [bl]
            have HRU:=Lib.hid (cf_ruleOf ws[k] wr heW hnW hsize)
            have HGO:=Lib.hid (fun (r : Rul)=>prules_go (r:=r) hk2 HL.out)
            have HST:=Lib.hid (prules_stop hk2 HL.out)
            rw [hbk] at HGO HST
            clear hbk hsize hrr
            generalize hwk : ws[k]=s at *
            clear hwk hk1 hk2
            cases hro : ruleOf s.data.toList with
            | none =>
              have hpl:=HST.out hro
              have hpe:=HP.out
              rw [if_neg (by rw [hpl,HK.out,← HM.out];omega),hpl] at hpe
              subst hpe
              rw [hro] at HRU
              clear hro hpl HP HST HGO
              have HRU : Hid (Calls Tryz.prog 191 #[.string s] wr fun e w'=>e = .returned (.tuple #[.agg #[.int .i64 0,.int .i64 0,.int .i64 0,.int .i64 0,.int .i64 0],.bool false])∧Below wr.heap.size wr w'):=HRU
              go_wp2_with (go_at_call 191;refine HRU.out.mono ?_;rintro e w3 ⟨rfl,hb3⟩;obtain ⟨hg,c0,z0,c1,z1,c2,z2⟩:=(haz.on hb3).three;obtain ⟨p0,p1,p2⟩:=(haz.on hb3).put3)
              exact bodyPost_ret (v:=.tuple #[.agg #[.slice none 0 0,.int .i64 0,.int .i64 0],.int .i64 ((k : Int)+2)]) (by simp [results,Tryz.results134,go_sem,p0,p1,p2,hg]) rfl (ParsePostC.none (n:=k+2) rfl (((((on_below hb hb3).setCell (Nat.le_refl _) _).setCell (Nat.le_refl _) _).setCell (Nat.le_refl _) _).alloc (by simp;omega) _))
            | some r =>
              have hg1':=HGO.out r hro
              have HX:=Lib.hid hg1'
              rw [hro] at HRU
              obtain ⟨rk,rb,rp,rn,rs⟩:=r
              clear hro hg1' HST HGO
              have HRU : Hid (Calls Tryz.prog 191 #[.string s] wr fun e w'=>e = .returned (.tuple #[.agg #[.int .i64 rk,.int .i64 rb,.int .i64 rp,.int .i64 rn,.int .i64 rs],.bool true])∧Below wr.heap.size wr w'):=HRU
              have hm1 : k+1≤maxLen:=by unfold maxLen;omega
              go_wp2_with (first|(go_at_call 191;refine HRU.out.mono ?_;rintro e w3 ⟨rfl,hb3⟩;obtain ⟨hg,c0,z0,c1,z1,c2,z2⟩:=(hac.on hb3).three;have hs3:=((hsl.onW hb3).alloc (.cells #[.int .i64 rk,.int .i64 rb,.int .i64 rp,.int .i64 rn,.int .i64 rs] 59)).alloc (.cells #[.int .i64 rk,.int .i64 rb,.int .i64 rp,.int .i64 rn,.int .i64 rs] 59);have hac3:=(hac.on hb3).upd (S:=fun _=>False) (((Upd.refl _ _).alloc (.cells #[.int .i64 rk,.int .i64 rb,.int .i64 rp,.int .i64 rn,.int .i64 rs] 59)).alloc (.cells #[.int .i64 rk,.int .i64 rb,.int .i64 rp,.int .i64 rn,.int .i64 rs] 59)) id;have hsz3 : g1+1≤w3.heap.size:=Nat.le_trans hsz hb3.size)|(at_builtin;(refine wpList_append_sl _ rfl (.tmp 56) (.tmp 58) 22 22 rfl 59 i0 _ 40 Tryz.underlying22 hi hz0 hz1 hz2 rfl rfl hs3 _ 1 _ rfl (src_rul Tryz.underlying22 _ rk rb rp rn rs _ _ (by simp)) hm1 (by omega) (by simp;omega) ?_;intro v1 w4 k1 k2 k3;obtain ⟨av1,cv1,rfl⟩:=k1.shape;have hac4:=hac3.upd k2 (fun hi=>by have:=(hsl.lt g1 hi).1;omega);obtain ⟨hg4,d0,y0,d1,y1,d2,y2⟩:=hac4.three)))
              go_roundw
              case rel=>exact ⟨k+1,_,by go_num,by omega,(by show _=_;rw [HX.out,List.length_append,HL.out];rfl),hac4.set 0 (by simp) _,(by rw [HX.out,rlv_snoc];exact k1.set_other (Nat.lt_succ_self _) _),((((haz.on hb3).upd (S:=fun _=>False) (((Upd.refl _ _).alloc _).alloc _) id).upd k2 (fun hi=>by have:=(hsl.lt _ hi).1;omega)).set_other (by simp;omega) _),(((((on_below hb hb3).alloc (by omega) _).alloc (by simp;omega) _).upd k2 (by simp;omega) (fun i _ hi=>by have:=(hsl.lt i hi).1;omega)).setCell (by simp;omega) _),(by have:=k2.size;simp [World.setCell] at this ⊢;omega)⟩
              case measure=>simp [intOf];omega
          · have hk2 : k=m:=by omega
            subst hk2
            have hta : (bl ws).take k=bl ws:=List.take_of_length_le (by have:=HK.out;have:=HM.out;omega)
            rw [hta] at HL hsl
            have hpe:=HP.out
            rw [if_pos (by rw [HL.out,HK.out];exact HM.out)] at hpe
            subst hpe
            obtain ⟨hg,c0,z0,c1,z1,c2,z2⟩:=hac.three
            obtain ⟨hg0,d0,y0,d1,y1,d2,y2⟩:=haz.three
            obtain ⟨p0,p1,p2⟩:=haz.put3
            have hne:=Nat.ne_of_lt hgz
            clear HP hrr
            go_wp2
            exact bodyPost_ret (v:=.tuple #[.agg #[.slice av k cv,.int .i64 t,.int .i64 d],.int .i64 0]) (by simp [results,Tryz.results134,go_sem,p0,p1,p2,hg0]) rfl ⟨_,rfl,(by show Sl _ _ 5 _ (prules (bl ws)).length (rlv (prules (bl ws)));rw [HL.out];exact (((hsl.set_other (by simp;omega) _).set_other (by simp;omega) _).set_other (by simp;omega) _).base (by omega)),(((hb.setCell (Nat.le_refl _) _).setCell (Nat.le_refl _) _).setCell (Nat.le_refl _) _)⟩
      · have ho : headP tSource ns=none:=by
          unfold headP
          split <;> simp_all
        rw [ho]
        have hl' : ((ns.length : Int) == 2)=false:=by simp;omega
        clear ho k1
        go_enter Tryz.func134,Tryz.ntmps134
        go_wp2_with (go_at_call 190;refine HSP.out.mono ?_;rintro e w1 ⟨a1,c1',rfl,hR,hb1⟩;obtain ⟨hg,c0,z0,c1,z1,c2,z2⟩:=(hA.on hb1).three;obtain ⟨p0,p1,p2⟩:=(hA.on hb1).put3)
        exact bodyPost_ret (v:=.tuple #[.agg #[.slice none 0 0,.int .i64 0,.int .i64 0],.int .i64 1]) (by simp [results,Tryz.results134,go_sem,p0,p1,p2,hg]) rfl (ParsePostC.none rfl ((((on_below hb0 hb1).setCell (Nat.le_refl _) _).setCell (Nat.le_refl _) _).setCell (Nat.le_refl _) _))
    · have ho : headP name ns=none:=by
        unfold headP
        split <;> simp_all
      rw [ho]
      have e0 : ¬ name=[115,111,117,114,99,101]:=k0
      clear ho k0
      go_enter Tryz.func134,Tryz.ntmps134
      go_wp2_with (go_at_call 190;refine HSP.out.mono ?_;rintro e w1 ⟨a1,c1',rfl,hR,hb1⟩;obtain ⟨hg,c0,z0,c1,z1,c2,z2⟩:=(hA.on hb1).three;obtain ⟨p0,p1,p2⟩:=(hA.on hb1).put3)
      exact bodyPost_ret (v:=.tuple #[.agg #[.slice none 0 0,.int .i64 0,.int .i64 0],.int .i64 1]) (by simp [results,Tryz.results134,go_sem,p0,p1,p2,hg]) rfl (ParsePostC.none rfl ((((on_below hb0 hb1).setCell (Nat.le_refl _) _).setCell (Nat.le_refl _) _).setCell (Nat.le_refl _) _))
end Go.Proofs.YtmimfkhkilijcaaGreatDoor
