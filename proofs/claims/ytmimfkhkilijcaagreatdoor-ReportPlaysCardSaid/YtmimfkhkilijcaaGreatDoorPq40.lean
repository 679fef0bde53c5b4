/- QuoInj; RepPlain; RepRdr; RepHead; AppNil; RepRule: what is reached of them. -/
import Derived.Test.YtmimfkhkilijcaaGreatDoorPq08
import Derived.Test.YtmimfkhkilijcaaGreatDoorPq34
import Derived.Test.YtmimfkhkilijcaaGreatDoorPq39
import Derived.Test.YtmimfkhkilijcaaGreatDoorPq37
import Derived.Test.YtmimfkhkilijcaaGreatDoorPq33
import Derived.Test.YtmimfkhkilijcaaGreatDoorPq30
import Derived.Test.YtmimfkhkilijcaaGreatDoorPq38
import Derived.Test.YtmimfkhkilijcaaGreatDoorPq11
import Derived.Test.YtmimfkhkilijcaaGreatDoorPq01
import Derived.Deep.RegionLaw
import Derived.Lib.AppendZerosOnto
import Derived.Deep.DeepCutAuto
set_option linter.unusedVariables false
set_option linter.unusedSimpArgs false
set_option maxRecDepth 100000
set_option maxHeartbeats 8000000
namespace Go.Proofs.YtmimfkhkilijcaaGreatDoor
open Go.ChangeShapes Go.WideShapes Go.ChangeAt Go.RowKit
open PSign PHex PQuote
theorem hex_inj {a b : Nat} (h : hex a=hex b) : a=b:=by rw [← num_hex a,h,num_hex b]
theorem hex_two {m : Nat} (h1 : 16≤m) (h2 : m<256) : (hex m).length=2:=by
  rw [hex_high h1,hex_low (by omega)];rfl
theorem end_inj {c : UInt8} : ∀ {a b x y : List UInt8},(∀ z∈a,z≠c)→(∀ z∈b,z≠c)→a++c::x=b++c::y→a=b∧x=y
  | [],[],x,y,_,_,h=>⟨rfl,(List.cons.inj h).2⟩
  | [],v::b,x,y,_,hb,h=>absurd (List.cons.inj h).1.symm (hb v (by simp))
  | u::a,[],x,y,ha,_,h=>absurd (List.cons.inj h).1 (ha u (by simp))
  | u::a,v::b,x,y,ha,hb,h=>by
    obtain ⟨h1,h2⟩:=List.cons.inj h
    obtain ⟨e1,e2⟩:=end_inj (fun z hz=>ha z (by simp [hz])) (fun z hz=>hb z (by simp [hz])) h2
    exact ⟨by rw [h1,e1],e2⟩
def SgOk (n : Int) : Prop:=(n<0→128≤(-1 - n).toNat∧(-1 - n).toNat≤255)∧n≤1114111
theorem told_cases {n : Int} (h : SgOk n) : (n<0∧told n=92::120::hex (-1 - n).toNat)∨(0≤n∧told n=92::117::123::(hex n.toNat++[125]))∨(n=34∧told n=[92,34])∨(n=92∧told n=[92,92])∨(0≤n∧n≤126∧n≠34∧n≠92∧told n=[UInt8.ofNat n.toNat]):=by
  unfold told
  by_cases h1 : n<0
  · rw [if_pos h1];exact .inl ⟨h1,rfl⟩
  · rw [if_neg h1]
    by_cases h2 : n<32∨126<n
    · rw [if_pos h2];exact .inr (.inl ⟨by omega,rfl⟩)
    · rw [if_neg h2]
      by_cases h3 : n=34∨n=92
      · rw [if_pos h3]
        rcases h3 with rfl|rfl
        · exact .inr (.inr (.inl ⟨rfl,rfl⟩))
        · exact .inr (.inr (.inr (.inl ⟨rfl,rfl⟩)))
      · rw [if_neg h3]
        exact .inr (.inr (.inr (.inr ⟨by omega,by omega,by omega,by omega,rfl⟩)))
theorem byte_of {n : Int} (h0 : 0≤n) (h1 : n≤126) : (UInt8.ofNat n.toNat).toNat=n.toNat:=by
  rw [UInt8.toNat_ofNat'];omega
theorem byte_no {n : Int} (h0 : 0≤n) (h1 : n≤126) (h2 : n≠92) : UInt8.ofNat n.toNat≠92:=fun e=>by
  have h3:=byte_of h0 h1
  rw [e] at h3
  have : (92 : UInt8).toNat=92:=rfl
  omega
theorem told_inj {n m : Int} (hn : SgOk n) (hm : SgOk m) {x y : List UInt8} (h : told n++x=told m++y) : n=m∧x=y:=by
  rcases told_cases hn with ⟨a0,a⟩|⟨a0,a⟩|⟨a0,a⟩|⟨a0,a⟩|⟨a0,a1,a2,a3,a⟩ <;> rcases told_cases hm with ⟨b0,b⟩|⟨b0,b⟩|⟨b0,b⟩|⟨b0,b⟩|⟨b0,b1,b2,b3,b⟩ <;> rw [a,b] at h
  · simp only [List.cons_append,List.cons.injEq,true_and] at h
    have l1:=hex_two (m:=(-1 - n).toNat) (by have:=hn.1 a0;omega) (by have:=hn.1 a0;omega)
    have l2:=hex_two (m:=(-1 - m).toNat) (by have:=hm.1 b0;omega) (by have:=hm.1 b0;omega)
    obtain ⟨e1,e2⟩:=List.append_inj h (by rw [l1,l2])
    have:=hex_inj e1
    exact ⟨by omega,e2⟩
  · simp at h
  · simp at h
  · simp at h
  · simp only [List.cons_append,List.cons.injEq] at h
    exact absurd h.1.symm (byte_no b0 b1 b3)
  · simp at h
  · simp only [List.cons_append,List.append_assoc,List.cons.injEq,true_and,List.nil_append] at h
    obtain ⟨e1,e2⟩:=end_inj (hex_close _) (hex_close _) h
    have:=hex_inj e1
    exact ⟨by omega,e2⟩
  · simp at h
  · simp at h
  · simp only [List.cons_append,List.cons.injEq] at h
    exact absurd h.1.symm (byte_no b0 b1 b3)
  · simp at h
  · simp at h
  · simp at h;exact ⟨by omega,h⟩
  · simp at h
  · simp only [List.cons_append,List.cons.injEq] at h
    exact absurd h.1.symm (byte_no b0 b1 b3)
  · simp at h
  · simp at h
  · simp at h
  · simp at h;exact ⟨by omega,h⟩
  · simp only [List.cons_append,List.cons.injEq] at h
    exact absurd h.1.symm (byte_no b0 b1 b3)
  · simp only [List.cons_append,List.cons.injEq] at h
    exact absurd h.1 (byte_no a0 a1 a3)
  · simp only [List.cons_append,List.cons.injEq] at h
    exact absurd h.1 (byte_no a0 a1 a3)
  · simp only [List.cons_append,List.cons.injEq] at h
    exact absurd h.1 (byte_no a0 a1 a3)
  · simp only [List.cons_append,List.cons.injEq] at h
    exact absurd h.1 (byte_no a0 a1 a3)
  · simp only [List.cons_append,List.nil_append,List.cons.injEq] at h
    have h3:=byte_of a0 a1
    have h4:=byte_of b0 b1
    rw [h.1] at h3
    exact ⟨by omega,h.2⟩
theorem told_ne (n : Int) : told n≠[]:=fun h=>by have:=told_pos n;rw [h] at this;simp at this
theorem toldAll_inj : ∀ {a b : List Int},(∀ n∈a,SgOk n)→(∀ n∈b,SgOk n)→toldAll a=toldAll b→a=b
  | [],[],_,_,_=>rfl
  | [],m::b,_,_,h=>by
    have h' : []=told m++toldAll b:=h
    exact absurd (List.append_eq_nil_iff.1 h'.symm).1 (told_ne m)
  | n::a,[],_,_,h=>by
    have h' : told n++toldAll a=[]:=h
    exact absurd (List.append_eq_nil_iff.1 h').1 (told_ne n)
  | n::a,m::b,ha,hb,h=>by
    have h' : told n++toldAll a=told m++toldAll b:=h
    obtain ⟨e1,e2⟩:=told_inj (ha n (by simp)) (hb m (by simp)) h'
    rw [e1,toldAll_inj (fun z hz=>ha z (by simp [hz])) (fun z hz=>hb z (by simp [hz])) e2]
theorem signs_enc : ∀ (k : Nat) (l : List UInt8),l.length≤k→(signs l).flatMap enc=l∧∀ n∈signs l,SgOk n
  | 0,l,h=>by
    obtain rfl : l=[]:=List.eq_nil_of_length_eq_zero (by omega)
    rw [signs_nil];exact ⟨rfl,fun n hn=>absurd hn List.not_mem_nil⟩
  | k+1,l,h=>by
    by_cases hl : l=[]
    · subst hl;rw [signs_nil];exact ⟨rfl,fun n hn=>absurd hn List.not_mem_nil⟩
    · have h1:=stp_pos l
      have h2:=stp_le l hl
      obtain ⟨e,ho⟩:=signs_enc k (l.drop (stp l)) (by rw [List.length_drop];omega)
      rw [signs_cons l hl,List.flatMap_cons,e,enc_sg l hl,List.take_append_drop]
      refine ⟨rfl,fun n hn=>?_⟩
      rcases List.mem_cons.1 hn with rfl|hn
      · exact ⟨sg_stray l,(sg_range l).2⟩
      · exact ho n hn
theorem quote_inj {a b : List UInt8} (h : quote a=quote b) : a=b:=by
  unfold quote at h
  have h1 : toldAll (signs a)++[34]=toldAll (signs b)++[34]:=(List.cons.inj h).2
  have h2:=List.append_cancel_right h1
  obtain ⟨e1,o1⟩:=signs_enc _ a (Nat.le_refl _)
  obtain ⟨e2,o2⟩:=signs_enc _ b (Nat.le_refl _)
  rw [← e1,← e2,toldAll_inj o1 o2 h2]
def UOK (U : List UInt8→Option (List UInt8)) : Prop:=∀ q l,U q=some l↔quote l=q∧l.length≤4096
theorem unq_ex : ∃ U,UOK U:=by
  classical
  refine ⟨fun q=>if h : ∃ l,quote l=q∧l.length≤4096 then some (Classical.choose h) else none,fun q l=>?_⟩
  by_cases h : ∃ l,quote l=q∧l.length≤4096
  · simp only [dif_pos h]
    have hc:=Classical.choose_spec h
    constructor
    · intro e
      rw [← Option.some.inj e];exact hc
    · intro e
      rw [quote_inj (hc.1.trans e.1.symm)]
  · exact ⟨fun e=>by simp [h] at e,fun e=>absurd ⟨l,e⟩ h⟩
theorem q_unq (U : List UInt8→Option (List UInt8)) (hU : UOK U) (q : ByteArray) (w : World) (he : Env w) (hs : q.size≤4096) (o : Option (List UInt8)) (ho : U q.data.toList=o) :
    Calls Tryz.prog 127 #[.string q] w fun e w'=>e = .returned (.tuple #[.string (bstr (o.getD [])),.bool o.isSome])∧Below w.heap.size w w':=by
  cases o with
  | some l =>
    obtain ⟨h1,h2⟩:=(hU _ _).1 ho
    have hqb : q=bstr (quote l):=by rw [h1]
    rw [hqb]
    exact unq_ok l w he h2
  | none =>
    refine (unq_any q w he hs).mono ?_
    rintro e w' ⟨l,b,rfl,hl,h1,h2,hb⟩
    cases b with
    | false=>rw [h2 rfl];exact ⟨rfl,hb⟩
    | true =>
      have:=(hU q.data.toList l).2 ⟨h1 rfl,by omega⟩
      rw [ho] at this;cases this
end Go.Proofs.YtmimfkhkilijcaaGreatDoor
namespace Go.Proofs.YtmimfkhkilijcaaGreatDoor
open PSign PHex PQuote PWord
open Go.Lib (itoa)
structure Scr where
  cfg : Cfg
  logs : List (List UInt8)
  chs : List (Bool×Int)
abbrev noScr : Scr:=⟨noCfg,[],[]⟩
structure Rdr where
  s : Scr
  head : List UInt8
abbrev noRdr : Rdr:=⟨noScr,[]⟩
abbrev tLog : List UInt8:=[108,111,103,32]
def logLine (l : List UInt8) : List UInt8:=tLog++quote l
def rdHead (x : List UInt8) : Option Rdr :=
  match headOf x with
  | none=>none
  | some td=>some ⟨⟨⟨[],td.1,td.2⟩,[],[]⟩,x⟩
def rdRule (r : Rdr) (x : List UInt8) : Option Rdr :=
  if r.s.logs=[]∧r.s.chs=[] then
    match ruleOf x with
    | none=>none
    | some u=>some ⟨⟨⟨r.s.cfg.rules++[u],r.s.cfg.timeout,r.s.cfg.drift⟩,r.s.logs,r.s.chs⟩,r.head⟩
  else none
def rdLog (U : List UInt8→Option (List UInt8)) (r : Rdr) (x : List UInt8) : Option Rdr :=
  if Lib.hasPrefix x tLog=true∧r.s.chs=[] then
    match U (x.drop 4) with
    | none=>none
    | some l=>some ⟨⟨r.s.cfg,r.s.logs++[l],r.s.chs⟩,r.head⟩
  else none
def rdCh (r : Rdr) (x : List UInt8) : Option Rdr :=
  match PWord.read x with
  | none=>none
  | some c=>some ⟨⟨r.s.cfg,r.s.logs,r.s.chs++[c]⟩,r.head⟩
def rdMore (U : List UInt8→Option (List UInt8)) (r : Rdr) (x : List UInt8) : Option Rdr :=
  match rdRule r x with
  | some r'=>some r'
  | none=>match rdLog U r x with
    | some r'=>some r'
    | none=>rdCh r x
def rd (U : List UInt8→Option (List UInt8)) (r : Rdr) (x : List UInt8) : Option Rdr:=if r.head=[] then rdHead x else rdMore U r x
def goS (U : List UInt8→Option (List UInt8)) : Rdr→Nat→List (List UInt8)→Scr×Nat
  | r,n,[]=>(noScr,n)
  | r,n,[x]=>if n≠1∧x=[] then (r.s,0) else (noScr,n)
  | r,n,x::y::rest=>match rd U r x with
    | none=>(noScr,n)
    | some r'=>goS U r' (n+1) (y::rest)
def lines (t : List UInt8) : List (List UInt8):=cuts 10 (t.count 10) t
def parseS (U : List UInt8→Option (List UInt8)) (t : List UInt8) : Scr×Nat:=goS U noRdr 1 (lines t)
theorem goS_two (U : List UInt8→Option (List UInt8)) (r : Rdr) (n : Nat) (x y : List UInt8) (rest : List (List UInt8)) : goS U r n (x::y::rest)=match rd U r x with
    | none=>(noScr,n)
    | some r'=>goS U r' (n+1) (y::rest):=rfl
theorem goS_none {U : List UInt8→Option (List UInt8)} {r : Rdr} {n : Nat} {x : List UInt8} {L : List (List UInt8)} (hL : L≠[]) (h : rd U r x=none) : goS U r n (x::L)=(noScr,n):=by
  cases L with
  | nil=>exact absurd rfl hL
  | cons y rest=>rw [goS_two,h]
theorem goS_some {U : List UInt8→Option (List UInt8)} {r r' : Rdr} {n : Nat} {x : List UInt8} {L : List (List UInt8)} (hL : L≠[]) (h : rd U r x=some r') : goS U r n (x::L)=goS U r' (n+1) L:=by
  cases L with
  | nil=>exact absurd rfl hL
  | cons y rest=>rw [goS_two,h]
def logsT (l : List (List UInt8)) : List UInt8:=(l.map fun x=>logLine x++[10]).flatten
def chsT (l : List (Bool×Int)) : List UInt8:=(l.map fun c=>cline c.1 c.2++[10]).flatten
def printS (s : Scr) : List UInt8:=print s.cfg++logsT s.logs++chsT s.chs
theorem logsT_snoc (l : List (List UInt8)) (x : List UInt8) : logsT (l++[x])=logsT l++(logLine x++[10]):=by simp [logsT]
theorem chsT_snoc (l : List (Bool×Int)) (x : Bool×Int) : chsT (l++[x])=chsT l++(cline x.1 x.2++[10]):=by simp [chsT]
theorem print_snoc (rs : List Rul) (t d : Int) (u : Rul) : print ⟨rs++[u],t,d⟩=print ⟨rs,t,d⟩++rule u:=by simp [print]
structure Scr.Ok (s : Scr) : Prop where
  fits : s.cfg.Fits
  only : ∀ r∈s.cfg.rules,only r=true
  logs : ∀ l∈s.logs,l.length≤4096
  chs : ∀ c∈s.chs,in64 c.2
theorem noScr_ok : noScr.Ok:=⟨noCfg_fits,fun r h=>absurd h List.not_mem_nil,fun r h=>absurd h List.not_mem_nil,fun r h=>absurd h List.not_mem_nil⟩
theorem pre_log {x : List UInt8} (h : Lib.hasPrefix x tLog=true) : tLog++x.drop 4=x:=by
  have h' : tLog <+: x:=by
    unfold Lib.hasPrefix at h
    simpa using h
  obtain ⟨r,rfl⟩:=h'
  rfl
theorem headOf_nil : headOf []=none:=by
  cases h : headOf [] with
  | none=>rfl
  | some td =>
    obtain ⟨t,d⟩:=td
    have:=(headOf_some h).1
    have h2 : (hline t d).length=0:=by rw [← this];rfl
    unfold hline at h2
    rw [lineOf_cons] at h2
    simp at h2
theorem rd_ok {U : List UInt8→Option (List UInt8)} (hU : UOK U) {r r' : Rdr} {x : List UInt8} (hr : r.s.Ok) (h0 : r.head=[]→r.s=noScr) (h : rd U r x=some r') : r'.s.Ok∧r'.head≠[]∧printS r'.s=(if r.head=[] then [] else printS r.s)++x++[10]:=by
  unfold rd at h
  by_cases hh : r.head=[]
  · rw [if_pos hh] at h
    unfold rdHead at h
    split at h
    · cases h
    · next td htd =>
      obtain ⟨t,d⟩:=td
      cases h
      obtain ⟨e,ht,hd⟩:=headOf_some htd
      refine ⟨⟨⟨fun r h=>absurd h List.not_mem_nil,ht,hd⟩,fun r h=>absurd h List.not_mem_nil,fun r h=>absurd h List.not_mem_nil,fun r h=>absurd h List.not_mem_nil⟩,?_,?_⟩
      · intro (e2 : x=[])
        rw [e2,headOf_nil] at htd;cases htd
      · rw [if_pos hh,e]
        simp [printS,print,logsT,chsT]
  · rw [if_neg hh] at h
    rw [if_neg hh]
    obtain ⟨⟨⟨rs,t,d⟩,ls,cs⟩,hd⟩:=r
    unfold rdMore at h
    split at h
    · next r1 h1 =>
      cases h
      unfold rdRule at h1
      split at h1
      · next hc =>
        obtain ⟨e1,e2⟩:=hc
        have e1 : ls=[]:=e1
        have e2 : cs=[]:=e2
        subst e1;subst e2
        split at h1
        · cases h1
        · next u hu =>
          cases h1
          obtain ⟨g1,g2,g3⟩:=ruleOf_some hu
          refine ⟨⟨⟨fun y hy=>?_,hr.fits.timeout,hr.fits.drift⟩,fun y hy=>?_,hr.logs,hr.chs⟩,hh,?_⟩
          · rcases List.mem_append.1 hy with hy|hy
            · exact hr.fits.rules y hy
            · rw [List.mem_singleton.1 hy];exact g3
          · rcases List.mem_append.1 hy with hy|hy
            · exact hr.only y hy
            · rw [List.mem_singleton.1 hy];exact g2
          · have e3 : rule u=x++[10]:=by unfold rule;rw [g1]
            show print ⟨rs++[u],t,d⟩++logsT []++chsT []=print ⟨rs,t,d⟩++logsT []++chsT []++x++[10]
            rw [print_snoc,e3]
            simp [logsT,chsT]
      · cases h1
    · next h1 =>
      split at h
      · next r1 h2 =>
        cases h
        unfold rdLog at h2
        split at h2
        · next hc =>
          obtain ⟨e1,e2⟩:=hc
          have e2 : cs=[]:=e2
          subst e2
          split at h2
          · cases h2
          · next l hl =>
            cases h2
            obtain ⟨g1,g2⟩:=(hU _ _).1 hl
            refine ⟨⟨hr.fits,hr.only,fun y hy=>?_,hr.chs⟩,hh,?_⟩
            · rcases List.mem_append.1 hy with hy|hy
              · exact hr.logs y hy
              · rw [List.mem_singleton.1 hy];exact g2
            · show print ⟨rs,t,d⟩++logsT (ls++[l])++chsT []=print ⟨rs,t,d⟩++logsT ls++chsT []++x++[10]
              have e3 : logLine l=x:=by unfold logLine;rw [g1];exact pre_log e1
              rw [logsT_snoc,e3]
              simp [chsT]
        · cases h2
      · next h2 =>
        unfold rdCh at h
        split at h
        · cases h
        · next c hc =>
          cases h
          obtain ⟨ct,cn⟩:=c
          obtain ⟨g1,g2⟩:=read_some hc
          refine ⟨⟨hr.fits,hr.only,hr.logs,fun y hy=>?_⟩,hh,?_⟩
          · rcases List.mem_append.1 hy with hy|hy
            · exact hr.chs y hy
            · rw [List.mem_singleton.1 hy];exact g2
          · show print ⟨rs,t,d⟩++logsT ls++chsT (cs++[(ct,cn)])=print ⟨rs,t,d⟩++logsT ls++chsT cs++x++[10]
            rw [chsT_snoc,g1]
            simp
theorem rdLog_line {U : List UInt8→Option (List UInt8)} (hU : UOK U) (c : Cfg) (ls : List (List UInt8)) (hd : List UInt8) (l : List UInt8) (hl : l.length≤4096) : rdLog U ⟨⟨c,ls,[]⟩,hd⟩ (logLine l)=some ⟨⟨c,ls++[l],[]⟩,hd⟩:=by
  unfold rdLog
  have h1 : Lib.hasPrefix (logLine l) tLog=true:=by simp [Lib.hasPrefix,logLine]
  have h2 : (logLine l).drop 4=quote l:=rfl
  rw [if_pos ⟨h1,rfl⟩,h2,(hU (quote l) l).2 ⟨rfl,hl⟩]
theorem log_split (l : List UInt8) : (PWord.split (logLine l)).1=[108,111,103]:=by
  have h : logLine l=[108,111,103]++32::quote l:=rfl
  unfold PWord.split
  rw [h,cuts_some 32 2 _ _ (by decide)]
theorem ruleOf_log (l : List UInt8) : ruleOf (logLine l)=none:=by
  have h:=log_split l
  cases hr : ruleOf (logLine l) with
  | none=>rfl
  | some u =>
    exfalso
    obtain ⟨g1,-,-⟩:=ruleOf_some hr
    unfold ruleOf at hr
    generalize PWord.split (logLine l)=p at hr h
    obtain ⟨name,ns⟩:=p
    simp only at h
    subst h
    simp only at hr
    split at hr
    · split at hr
      · next e=>simp at e
      · split at hr
        · next e=>simp at e
        · cases hr
    · split at hr
      · next e=>simp at e
      · cases hr
    · cases hr
theorem go_rules {U : List UInt8→Option (List UInt8)} (t d : Int) (hd : List UInt8) (hh : hd≠[]) (L : List (List UInt8)) (hL : L≠[]) : ∀ (us rs : List Rul) (n : Nat),(∀ u∈us,only u=true∧u.Fits)→goS U ⟨⟨⟨rs,t,d⟩,[],[]⟩,hd⟩ n (us.map (fun r=>(rline r).getD [])++L)=goS U ⟨⟨⟨rs++us,t,d⟩,[],[]⟩,hd⟩ (n+us.length) L
  | [],rs,n,_=>by simp
  | u::us,rs,n,h=>by
    obtain ⟨x,hx⟩:=rline_only (h u (by simp)).1
    have h1:=ruleOf_rline (h u (by simp)).1 (h u (by simp)).2 hx
    have h2 : rd U ⟨⟨⟨rs,t,d⟩,[],[]⟩,hd⟩ x=some ⟨⟨⟨rs++[u],t,d⟩,[],[]⟩,hd⟩:=by
      unfold rd
      rw [if_neg hh]
      unfold rdMore
      have h3 : rdRule ⟨⟨⟨rs,t,d⟩,[],[]⟩,hd⟩ x=some ⟨⟨⟨rs++[u],t,d⟩,[],[]⟩,hd⟩:=by
        unfold rdRule
        rw [if_pos ⟨rfl,rfl⟩,h1]
      rw [h3]
    rw [List.map_cons,hx,Option.getD_some,List.cons_append,goS_some (by simp [hL]) h2,go_rules t d hd hh L hL us (rs++[u]) (n+1) (fun v hv=>h v (by simp [hv]))]
    simp only [List.append_assoc,List.singleton_append,List.length_cons]
    congr 1
    omega
theorem go_logs {U : List UInt8→Option (List UInt8)} (hU : UOK U) (c : Cfg) (hd : List UInt8) (hh : hd≠[]) (L : List (List UInt8)) (hL : L≠[]) : ∀ (us ls : List (List UInt8)) (n : Nat),(∀ u∈us,u.length≤4096)→goS U ⟨⟨c,ls,[]⟩,hd⟩ n (us.map logLine++L)=goS U ⟨⟨c,ls++us,[]⟩,hd⟩ (n+us.length) L
  | [],ls,n,_=>by simp
  | u::us,ls,n,h=>by
    have h2 : rd U ⟨⟨c,ls,[]⟩,hd⟩ (logLine u)=some ⟨⟨c,ls++[u],[]⟩,hd⟩:=by
      unfold rd
      rw [if_neg hh]
      unfold rdMore
      have h3 : rdRule ⟨⟨c,ls,[]⟩,hd⟩ (logLine u)=none:=by
        unfold rdRule
        rw [ruleOf_log]
        split <;> rfl
      rw [h3,rdLog_line hU c ls hd u (h u (by simp))]
    rw [List.map_cons,List.cons_append,goS_some (by simp [hL]) h2,go_logs hU c hd hh L hL us (ls++[u]) (n+1) (fun v hv=>h v (by simp [hv]))]
    simp only [List.append_assoc,List.singleton_append,List.length_cons]
    congr 1
    omega
theorem cline_nolog (t : Bool) (n : Int) : Lib.hasPrefix (cline t n) tLog=false:=by
  cases t <;> rfl
theorem go_chs {U : List UInt8→Option (List UInt8)} (c : Cfg) (ls : List (List UInt8)) (hd : List UInt8) (hh : hd≠[]) (L : List (List UInt8)) (hL : L≠[]) : ∀ (us cs : List (Bool×Int)) (n : Nat),(∀ u∈us,in64 u.2)→goS U ⟨⟨c,ls,cs⟩,hd⟩ n (us.map (fun u=>cline u.1 u.2)++L)=goS U ⟨⟨c,ls,cs++us⟩,hd⟩ (n+us.length) L
  | [],cs,n,_=>by simp
  | u::us,cs,n,h=>by
    have h2 : rd U ⟨⟨c,ls,cs⟩,hd⟩ (cline u.1 u.2)=some ⟨⟨c,ls,cs++[u]⟩,hd⟩:=by
      unfold rd
      rw [if_neg hh]
      unfold rdMore
      have h3 : rdRule ⟨⟨c,ls,cs⟩,hd⟩ (cline u.1 u.2)=none:=by
        unfold rdRule
        rw [ruleOf_cline _ _ (h u (by simp))]
        split <;> rfl
      have h4 : rdLog U ⟨⟨c,ls,cs⟩,hd⟩ (cline u.1 u.2)=none:=by
        unfold rdLog
        rw [cline_nolog,if_neg (fun e=>by cases e.1)]
      have h5 : rdCh ⟨⟨c,ls,cs⟩,hd⟩ (cline u.1 u.2)=some ⟨⟨c,ls,cs++[u]⟩,hd⟩:=by
        unfold rdCh
        rw [read_cline _ _ (h u (by simp))]
      rw [h3,h4]
      exact h5
    rw [List.map_cons,List.cons_append,goS_some (by simp [hL]) h2,go_chs c ls hd hh L hL us (cs++[u]) (n+1) (fun v hv=>h v (by simp [hv]))]
    simp only [List.append_assoc,List.singleton_append,List.length_cons]
    congr 1
    omega
def slines (s : Scr) : List (List UInt8):=plines s.cfg++s.logs.map logLine++s.chs.map fun c=>cline c.1 c.2
theorem printS_lines (s : Scr) (ho : ∀ r∈s.cfg.rules,only r=true) : printS s=((slines s).map (· ++ [10])).flatten:=by
  unfold printS slines logsT chsT
  rw [print_plines s.cfg ho]
  simp only [List.map_append,List.map_map,List.flatten_append]
  rfl
theorem logLine_10 (l : List UInt8) : (10 : UInt8)∉logLine l:=by
  unfold logLine
  intro h
  rcases List.mem_append.1 h with h|h
  · revert h;decide
  · exact PEv.quote_10 l h
theorem cline_10 (t : Bool) (n : Int) : (10 : UInt8)∉cline t n:=by
  unfold cline
  intro h
  rcases List.mem_append.1 h with h|h
  · revert h;cases t <;> decide
  · rcases List.mem_cons.1 h with h|h
    · revert h;decide
    · exact itoa_10 n h
theorem slines_10 (s : Scr) : ∀ l∈slines s,(10 : UInt8)∉l:=by
  intro l hl
  unfold slines at hl
  rcases List.mem_append.1 hl with hl|hl
  · rcases List.mem_append.1 hl with hl|hl
    · exact plines_10 _ l hl
    · obtain ⟨x,-,rfl⟩:=List.mem_map.1 hl
      exact logLine_10 x
  · obtain ⟨x,-,rfl⟩:=List.mem_map.1 hl
    exact cline_10 _ _
theorem lines_printS (s : Scr) (ho : ∀ r∈s.cfg.rules,only r=true) : lines (printS s)=slines s++[[]]:=by
  unfold lines
  rw [printS_lines s ho,count_ended 10 _ (slines_10 s)]
  exact cuts_ended 10 _ _ (slines_10 s) (Nat.le_refl _)
theorem hline_ne (t d : Int) : hline t d≠[]:=by
  unfold hline
  rw [lineOf_cons];simp
theorem parseS_print {U : List UInt8→Option (List UInt8)} (hU : UOK U) (s : Scr) (hs : s.Ok) : parseS U (printS s)=(s,0):=by
  unfold parseS
  rw [lines_printS s hs.only]
  obtain ⟨⟨rs,t,d⟩,ls,cs⟩:=s
  have h1 : slines ⟨⟨rs,t,d⟩,ls,cs⟩++[[]]=hline t d::(rs.map (fun r=>(rline r).getD [])++(ls.map logLine++(cs.map (fun c=>cline c.1 c.2)++[[]]))):=by
    simp [slines,plines]
  have h2 : rd U noRdr (hline t d)=some ⟨⟨⟨[],t,d⟩,[],[]⟩,hline t d⟩:=by
    unfold rd rdHead
    rw [if_pos rfl,headOf_line hs.fits.timeout hs.fits.drift]
  rw [h1,goS_some (by simp) h2,go_rules t d _ (hline_ne t d) _ (by simp) rs [] 2 (fun u hu=>⟨hs.only u hu,hs.fits.rules u hu⟩),List.nil_append,go_logs hU _ _ (hline_ne t d) _ (by simp) ls [] _ hs.logs,List.nil_append,go_chs _ _ _ (hline_ne t d) _ (by simp) cs [] _ hs.chs,List.nil_append]
  show (if _∧([] : List UInt8)=[] then _ else _)=_
  rw [if_pos ⟨by omega,rfl⟩]
theorem lines_ne (t : List UInt8) : lines t≠[]:=cuts_ne 10 _ t
end Go.Proofs.YtmimfkhkilijcaaGreatDoor
namespace Go.Proofs.YtmimfkhkilijcaaGreatDoor
open Go.ChangeShapes Go.WideShapes Go.ChangeAt Go.RowKit
open PWord PSign PHex PQuote
structure Own3 (B : Nat) (w : World) (g : Nat) (v1 v2 v3 : Value) (t d : Int) (h : List UInt8) (n1 n2 n3 : Nat) (x1 x2 x3 : List Value) : Prop where
  blk : At w g [v1,.int .i64 t,.int .i64 d,v2,v3,.string (bstr h)]
  lo : B≤g
  s1 : Sl B w 5 v1 n1 x1
  s2 : Sl B w 1 v2 n2 x2
  s3 : Sl B w 2 v3 n3 x3
  f1 : ∀ k,v1.ownBlock=some k→k≠g
  f2 : ∀ k,v2.ownBlock=some k→k≠g
  f3 : ∀ k,v3.ownBlock=some k→k≠g
  a12 : ∀ k,v1.ownBlock=some k→v2.ownBlock≠some k
  a13 : ∀ k,v1.ownBlock=some k→v3.ownBlock≠some k
  a23 : ∀ k,v2.ownBlock=some k→v3.ownBlock≠some k
section
variable {B : Nat} {w w1 w' : World} {g : Nat} {v1 v2 v3 v' : Value} {t d : Int} {h : List UInt8} {n1 n2 n3 n' : Nat} {x1 x2 x3 x' : List Value}
theorem Own3.on (o : Own3 B w g v1 v2 v3 t d h n1 n2 n3 x1 x2 x3) (hb : Below w.heap.size w w') : Own3 B w' g v1 v2 v3 t d h n1 n2 n3 x1 x2 x3 :=
  ⟨o.blk.on hb,o.lo,o.s1.onW hb,o.s2.onW hb,o.s3.onW hb,o.f1,o.f2,o.f3,o.a12,o.a13,o.a23⟩
theorem Own3.cells (o : Own3 B w g v1 v2 v3 t d h n1 n2 n3 x1 x2 x3) : g<w.heap.size∧w.cell? ⟨g,0,none⟩=some v1∧w.cell? ⟨g,1,none⟩=some (.int .i64 t)∧w.cell? ⟨g,2,none⟩=some (.int .i64 d)∧w.cell? ⟨g,3,none⟩=some v2∧w.cell? ⟨g,4,none⟩=some v3∧w.cell? ⟨g,5,none⟩=some (.string (bstr h)) :=
  ⟨o.blk.1,(o.blk.2 0 (by simp)).1,(o.blk.2 1 (by simp)).1,(o.blk.2 2 (by simp)).1,(o.blk.2 3 (by simp)).1,(o.blk.2 4 (by simp)).1,(o.blk.2 5 (by simp)).1⟩
theorem Own3.free (o : Own3 B w g v1 v2 v3 t d h n1 n2 n3 x1 x2 x3) : w.frozen? ⟨g,0,none⟩=false∧w.frozen? ⟨g,1,none⟩=false∧w.frozen? ⟨g,2,none⟩=false∧w.frozen? ⟨g,3,none⟩=false∧w.frozen? ⟨g,4,none⟩=false∧w.frozen? ⟨g,5,none⟩=false :=
  ⟨(o.blk.2 0 (by simp)).2,(o.blk.2 1 (by simp)).2,(o.blk.2 2 (by simp)).2,(o.blk.2 3 (by simp)).2,(o.blk.2 4 (by simp)).2,(o.blk.2 5 (by simp)).2⟩
theorem set_below {a : World} (hb : Below B a w) (hB : B≤w.heap.size) (hg : B≤g) (i : Nat) (v : Value) : Below B a (w.setCell ⟨g,i,none⟩ v) :=
  hb.upd ((Upd.refl (fun k=>k=g) w).setCell (p:=⟨g,i,none⟩) (fun _=>rfl) v) hB (fun k _ e=>by rw [e];exact hg)
theorem Own3.push1 (o : Own3 B w g v1 v2 v3 t d h n1 n2 n3 x1 x2 x3) (hB : B≤w.heap.size) (hb : Below w.heap.size w w1) (k1 : Sl B w' 5 v' n' x') (k2 : Upd (fun k=>v1.ownBlock=some k) w1 w') (k3 : ∀ k,v'.ownBlock=some k→v1.ownBlock=some k∨w1.heap.size≤k) :
    Own3 B (w'.setCell ⟨g,0,none⟩ v') g v' v2 v3 t d h n' n2 n3 x' x2 x3∧Below B w1 (w'.setCell ⟨g,0,none⟩ v')∧At w' g [v1,.int .i64 t,.int .i64 d,v2,v3,.string (bstr h)]:=by
  have o1:=o.on hb
  have hg1:=o1.blk.1
  have hgv : ∀ k,v'.ownBlock=some k→k≠g:=fun k hk=>by
    rcases k3 k hk with h5|h5
    · exact o.f1 k h5
    · omega
  have hA:=o1.blk.upd k2 (fun e=>o.f1 g e rfl)
  have hu : Upd (fun k=>k=g) w' (w'.setCell ⟨g,0,none⟩ v'):=(Upd.refl (fun k=>k=g) w').setCell (p:=⟨g,0,none⟩) (fun _=>rfl) v'
  have hB1 : B≤w1.heap.size:=Nat.le_trans hB hb.size
  refine ⟨⟨hA.set 0 (by simp) v',o.lo,(k1.upd hu (fun k hk e=>hgv k hk e)),((o1.s2.upd k2 (fun k hk e=>o1.a12 k e hk)).upd hu (fun k hk e=>o1.f2 k hk e)),((o1.s3.upd k2 (fun k hk e=>o1.a13 k e hk)).upd hu (fun k hk e=>o1.f3 k hk e)),hgv,o1.f2,o1.f3,fun k hk e=>(k3 k hk).elim (fun h5=>o1.a12 k h5 e) (fun h5=>by have:=(o1.s2.lt k e).2;omega),fun k hk e=>(k3 k hk).elim (fun h5=>o1.a13 k h5 e) (fun h5=>by have:=(o1.s3.lt k e).2;omega),o1.a23⟩,?_,hA⟩
  exact set_below ((Below.refl B w1).upd k2 hB1 (fun k hk e=>(o1.s1.lt k e).1)) (Nat.le_trans hB1 k2.size) o.lo _ _
theorem Own3.push2 (o : Own3 B w g v1 v2 v3 t d h n1 n2 n3 x1 x2 x3) (hB : B≤w.heap.size) (hb : Below w.heap.size w w1) (k1 : Sl B w' 1 v' n' x') (k2 : Upd (fun k=>v2.ownBlock=some k) w1 w') (k3 : ∀ k,v'.ownBlock=some k→v2.ownBlock=some k∨w1.heap.size≤k) :
    Own3 B (w'.setCell ⟨g,3,none⟩ v') g v1 v' v3 t d h n1 n' n3 x1 x' x3∧Below B w1 (w'.setCell ⟨g,3,none⟩ v')∧At w' g [v1,.int .i64 t,.int .i64 d,v2,v3,.string (bstr h)]:=by
  have o1:=o.on hb
  have hg1:=o1.blk.1
  have hgv : ∀ k,v'.ownBlock=some k→k≠g:=fun k hk=>by
    rcases k3 k hk with h5|h5
    · exact o.f2 k h5
    · omega
  have hA:=o1.blk.upd k2 (fun e=>o.f2 g e rfl)
  have hu : Upd (fun k=>k=g) w' (w'.setCell ⟨g,3,none⟩ v'):=(Upd.refl (fun k=>k=g) w').setCell (p:=⟨g,3,none⟩) (fun _=>rfl) v'
  have hB1 : B≤w1.heap.size:=Nat.le_trans hB hb.size
  refine ⟨⟨hA.set 3 (by simp) v',o.lo,((o1.s1.upd k2 (fun k hk e=>o1.a12 k hk e)).upd hu (fun k hk e=>o1.f1 k hk e)),(k1.upd hu (fun k hk e=>hgv k hk e)),((o1.s3.upd k2 (fun k hk e=>o1.a23 k e hk)).upd hu (fun k hk e=>o1.f3 k hk e)),o1.f1,hgv,o1.f3,fun k hk e=>(k3 k e).elim (fun h5=>o1.a12 k hk h5) (fun h5=>by have:=(o1.s1.lt k hk).2;omega),o1.a13,fun k hk e=>(k3 k hk).elim (fun h5=>o1.a23 k h5 e) (fun h5=>by have:=(o1.s3.lt k e).2;omega)⟩,?_,hA⟩
  exact set_below ((Below.refl B w1).upd k2 hB1 (fun k hk e=>(o1.s2.lt k e).1)) (Nat.le_trans hB1 k2.size) o.lo _ _
theorem Own3.push3 (o : Own3 B w g v1 v2 v3 t d h n1 n2 n3 x1 x2 x3) (hB : B≤w.heap.size) (hb : Below w.heap.size w w1) (k1 : Sl B w' 2 v' n' x') (k2 : Upd (fun k=>v3.ownBlock=some k) w1 w') (k3 : ∀ k,v'.ownBlock=some k→v3.ownBlock=some k∨w1.heap.size≤k) :
    Own3 B (w'.setCell ⟨g,4,none⟩ v') g v1 v2 v' t d h n1 n2 n' x1 x2 x'∧Below B w1 (w'.setCell ⟨g,4,none⟩ v')∧At w' g [v1,.int .i64 t,.int .i64 d,v2,v3,.string (bstr h)]:=by
  have o1:=o.on hb
  have hg1:=o1.blk.1
  have hgv : ∀ k,v'.ownBlock=some k→k≠g:=fun k hk=>by
    rcases k3 k hk with h5|h5
    · exact o.f3 k h5
    · omega
  have hA:=o1.blk.upd k2 (fun e=>o.f3 g e rfl)
  have hu : Upd (fun k=>k=g) w' (w'.setCell ⟨g,4,none⟩ v'):=(Upd.refl (fun k=>k=g) w').setCell (p:=⟨g,4,none⟩) (fun _=>rfl) v'
  have hB1 : B≤w1.heap.size:=Nat.le_trans hB hb.size
  refine ⟨⟨hA.set 4 (by simp) v',o.lo,((o1.s1.upd k2 (fun k hk e=>o1.a13 k hk e)).upd hu (fun k hk e=>o1.f1 k hk e)),((o1.s2.upd k2 (fun k hk e=>o1.a23 k hk e)).upd hu (fun k hk e=>o1.f2 k hk e)),(k1.upd hu (fun k hk e=>hgv k hk e)),o1.f1,o1.f2,hgv,o1.a12,fun k hk e=>(k3 k e).elim (fun h5=>o1.a13 k hk h5) (fun h5=>by have:=(o1.s1.lt k hk).2;omega),fun k hk e=>(k3 k e).elim (fun h5=>o1.a23 k hk h5) (fun h5=>by have:=(o1.s2.lt k hk).2;omega)⟩,?_,hA⟩
  exact set_below ((Below.refl B w1).upd k2 hB1 (fun k hk e=>(o1.s3.lt k e).1)) (Nat.le_trans hB1 k2.size) o.lo _ _
theorem Own3.first (o : Own3 B w g v1 v2 v3 t d h n1 n2 n3 x1 x2 x3) (hB : B≤w.heap.size) (k1 : Sl B w 5 v' n' x') (hf : ∀ k,v'.ownBlock=some k→k≠g∧v2.ownBlock≠some k∧v3.ownBlock≠some k) (t' d' : Int) (h' : List UInt8) :
    Own3 B ((((w.setCell ⟨g,0,none⟩ v').setCell ⟨g,1,none⟩ (.int .i64 t')).setCell ⟨g,2,none⟩ (.int .i64 d')).setCell ⟨g,5,none⟩ (.string (bstr h'))) g v' v2 v3 t' d' h' n' n2 n3 x' x2 x3∧Below B w ((((w.setCell ⟨g,0,none⟩ v').setCell ⟨g,1,none⟩ (.int .i64 t')).setCell ⟨g,2,none⟩ (.int .i64 d')).setCell ⟨g,5,none⟩ (.string (bstr h'))):=by
  have hu : Upd (fun k=>k=g) w ((((w.setCell ⟨g,0,none⟩ v').setCell ⟨g,1,none⟩ (.int .i64 t')).setCell ⟨g,2,none⟩ (.int .i64 d')).setCell ⟨g,5,none⟩ (.string (bstr h'))) :=
    ((((Upd.refl (fun k=>k=g) w).setCell (p:=⟨g,0,none⟩) (fun _=>rfl) v').setCell (p:=⟨g,1,none⟩) (fun _=>rfl) _).setCell (p:=⟨g,2,none⟩) (fun _=>rfl) _).setCell (p:=⟨g,5,none⟩) (fun _=>rfl) _
  exact ⟨⟨(((o.blk.set 0 (by simp) v').set 1 (by simp) (.int .i64 t')).set 2 (by simp) (.int .i64 d')).set 5 (by simp) (.string (bstr h')),o.lo,k1.upd hu (fun k hk e=>(hf k hk).1 e),o.s2.upd hu (fun k hk e=>o.f2 k hk e),o.s3.upd hu (fun k hk e=>o.f3 k hk e),fun k hk=>(hf k hk).1,o.f2,o.f3,fun k hk=>(hf k hk).2.1,fun k hk=>(hf k hk).2.2,o.a23⟩,
    (Below.refl B w).upd hu hB (fun k _ e=>by rw [e];exact o.lo)⟩
end
theorem rlv_flat : ∀ rs : List Rul,rlv rs=rs.flatMap Rul.cells
  | []=>rfl
  | r::rs=>by show r.cells++rlv rs=_;rw [rlv_flat rs];rfl
def RdrC (B : Nat) (w : World) (g : Nat) (r : Rdr) : Prop :=
  ∃ v1 v2 v3,Own3 B w g v1 v2 v3 r.s.cfg.timeout r.s.cfg.drift r.head r.s.cfg.rules.length r.s.logs.length r.s.chs.length (rlv r.s.cfg.rules) (sv (r.s.logs.map bstr)) (r.s.chs.flatMap chc)
theorem RdrC.on {B : Nat} {w w' : World} {g : Nat} {r : Rdr} (h : RdrC B w g r) (hb : Below w.heap.size w w') : RdrC B w' g r:=by
  obtain ⟨v1,v2,v3,o⟩:=h
  exact ⟨v1,v2,v3,o.on hb⟩
def RdPost (B g : Nat) (r : Rdr) (o : Option Rdr) (w : World) (e : Ending) (w' : World) : Prop :=
  e = .returned (.bool o.isSome)∧RdrC B w' g (o.getD r)∧Below B w w'
def HdOk (r : Rdr) : Prop:=r.head≠[]→∃ td,headOf r.head=some td
theorem hdOk_rd {U : List UInt8→Option (List UInt8)} {r r' : Rdr} {x : List UInt8} (hr : HdOk r) (h : rd U r x=some r') : HdOk r':=by
  unfold rd at h
  by_cases hh : r.head=[]
  · rw [if_pos hh] at h
    unfold rdHead at h
    split at h
    · cases h
    · next td htd=>cases h;exact fun _=>⟨td,htd⟩
  · rw [if_neg hh] at h
    have hk : r'.head=r.head:=by
      unfold rdMore at h
      split at h
      · next h1 =>
        cases h
        unfold rdRule at h1
        split at h1
        · split at h1
          · cases h1
          · cases h1;rfl
        · cases h1
      · split at h
        · next h1 =>
          cases h
          unfold rdLog at h1
          split at h1
          · split at h1
            · cases h1
            · cases h1;rfl
          · cases h1
        · unfold rdCh at h
          split at h
          · cases h
          · cases h;rfl
    intro _
    rw [hk]
    exact hr hh
def Rdr.size (r : Rdr) : Nat:=r.s.cfg.rules.length+r.s.logs.length+r.s.chs.length
theorem rd_size {U : List UInt8→Option (List UInt8)} {r r' : Rdr} {x : List UInt8} (h : rd U r x=some r') : r'.size≤r.size+1:=by
  unfold Rdr.size
  unfold rd at h
  by_cases hh : r.head=[]
  · rw [if_pos hh] at h
    unfold rdHead at h
    split at h
    · cases h
    · cases h;simp
  · rw [if_neg hh] at h
    unfold rdMore at h
    split at h
    · next h1 =>
      cases h
      unfold rdRule at h1
      split at h1
      · split at h1
        · cases h1
        · cases h1;simp;omega
      · cases h1
    · split at h
      · next h1 =>
        cases h
        unfold rdLog at h1
        split at h1
        · split at h1
          · cases h1
          · cases h1;simp;omega
        · cases h1
      · unfold rdCh at h
        split at h
        · cases h
        · cases h;simp;omega
theorem bl_one (x : List UInt8) : bl [bstr x]=[x]:=rfl
theorem bl_two (x y : List UInt8) : bl [bstr x,bstr y]=[x,y]:=rfl
theorem rd_headC (x : List UInt8) (hx : x.length≤1000000) (B g : Nat) (w : World) (he : EnvW w) (hnm : Names w) (h : RdrC B w g noRdr) (hB : B≤w.heap.size) (o : Option Rdr) (ho : rdHead x=o) :
    Calls Tryz.prog 86 #[.pointer (some ⟨g,0,none⟩),.string (bstr x)] w (RdPost B g noRdr o w):=by
  have hb1 : Below w.heap.size w (w.alloc (.cells #[.string (bstr x)] 9)):=(Below.refl _ _).alloc (Nat.le_refl _) _
  have hc1:=(At.alloc w [.string (bstr x)] 9).one.2.1
  have HP:=cf_parse (some ⟨w.heap.size,0,none⟩) 1 1 [bstr x] (w.alloc (.cells #[.string (bstr x)] 9)) (he.on hb1) (hnm.on hb1) (rows_one hc1) rfl (Nat.le_refl _) (by unfold maxLen;omega) (by simp) (fun s hs=>by rw [List.mem_singleton.1 hs,tx_size];exact hx)
  rw [bl_one] at HP
  obtain ⟨v1,v2,v3,O⟩:=h
  unfold rdHead at ho
  cases hh : headOf x with
  | none =>
    rw [hh] at ho
    obtain rfl : none=o:=ho
    have hpx : parse [x]=(noCfg,1):=by rw [parse_cons,hh]
    rw [hpx] at HP
    have HQ:=Lib.hid HP
    clear hpx hh hc1 hx HP
    go_enter Tryz.func86,Tryz.ntmps86
    go_wp2_with (first|(go_at_call 134;(with_reducible refine HQ.out.mono ?_);intro e w2 h2;obtain ⟨v,rfl,hs2,hb2⟩:=h2;obtain ⟨a3,k3,rfl⟩:=hs2.shape;have hb3:=on_below hb1 hb2;have hO:=O.on hb3)|fail)
    go_ret
    have hw2:=Nat.le_trans hB hb3.size
    exact ⟨rfl,⟨v1,v2,v3,hO.on ((Below.refl _ _).alloc (Nat.le_refl _) _)⟩,(hb3.mono hB).alloc hw2 _⟩
  | some td =>
    obtain ⟨t,d⟩:=td
    rw [hh] at ho
    obtain rfl : some (⟨⟨⟨[],t,d⟩,[],[]⟩,x⟩ : Rdr)=o:=ho
    have hpx : parse [x]=(⟨[],t,d⟩,0):=by rw [parse_cons,hh];rfl
    rw [hpx] at HP
    have HQ:=Lib.hid HP
    clear hpx hh hc1 hx HP
    obtain ⟨hg,c0,c1,c2,c3,c4,c5⟩:=O.cells
    go_enter Tryz.func86,Tryz.ntmps86
    go_wp2_with (first|(go_at_call 134;(with_reducible refine HQ.out.mono ?_);intro e w2 h2;obtain ⟨v,rfl,hs2,hb2⟩:=h2;obtain ⟨a3,k3,rfl⟩:=hs2.shape;have hb3:=on_below hb1 hb2;have hO:=O.on hb3;obtain ⟨hg2,e0,e1,e2,e3,e4,e5⟩:=hO.cells;obtain ⟨z0,z1,z2,z3,z4,z5⟩:=hO.free;have hgl : g<w2.heap.size:=hg2)|fail)
    go_ret
    have hw2:=Nat.le_trans hB hb3.size
    have hw1 : (w.alloc (.cells #[.string (bstr x)] 9)).heap.size=w.heap.size+1:=World.size_alloc _ _
    have hF:=Own3.first hO hw2 (hs2.base (by omega)) (fun k hk=>by
      have h1:=(hs2.lt k hk).1
      refine ⟨by omega,fun e=>?_,fun e=>?_⟩
      · have:=(O.s2.lt k e).2;omega
      · have:=(O.s3.lt k e).2;omega) t d x
    exact ⟨rfl,⟨_,_,_,hF.1.on ((Below.refl _ _).alloc (Nat.le_refl _) _)⟩,((hb3.mono hB).trans hF.2).alloc (Nat.le_trans hw2 (by have:=hF.2.size;omega)) _⟩
end Go.Proofs.YtmimfkhkilijcaaGreatDoor
namespace Go.Proofs.YtmimfkhkilijcaaGreatDoor
open Go.ChangeShapes Go.WideShapes Go.ChangeAt Go.RowKit
theorem step_append_own25 {P : Program} {ops : Array Oper} {o : Oper} {a : Act} {w : World} {K : Act→World→Prop} {Q : Exit→Act→World→Prop} {E : Prop}
    (hg : o.guard=none) (s x : Operand) (t tx : TypeId) (hop : o.op=Op.call { callee:=Callee.builtin Builtin.append,args:=#[s,x],argTypes:=#[t,tx] })
    {B : Nat} {size : Nat} (e : TypeId) (i : TypeInfo) (z : Value) (bytes : Nat) (ht : P.underlying t=some (.slice e)) (hi : P.info? e=some i) (hz : i.zero=some z) (hsize : i.size=size) (hby : i.bytes=bytes) (hzs : z.cells.size=size)
    (v xv : Value) {n : Nat} {xs : List Value} (m : Nat) (news : List Value) (hv : a.eval s=v) (hx : a.eval x=xv) (h : Sl B w size v n xs) (hs : Src P size tx xv m news w)
    (h63 : n+m≤maxLen) (hbytes : (n+m)*bytes≤140737488355328) (hB : B≤w.heap.size)
    (hK : ∀ a1 c1 w',Sl B w' size (.slice a1 (n+m) c1) (n+m) (xs++news)→Upd (fun k=>v.ownBlock=some k) w w'→(∀ k,(Value.slice a1 (n+m) c1).ownBlock=some k→v.ownBlock=some k∨w.heap.size≤k)→K (a.put o.dst (.slice a1 (n+m) c1)) w') :
    if Region.wanted o (yielded ops a.tmps)=true then Oper.wp P o a w K Q else E:=by
  obtain ⟨v',w',hr,r1,r2,r3⟩:=run_append_sl (P:=P) w t tx o.type e i z bytes ht hi hz hsize hby hzs h xv m news hs h63 hbytes hB
  obtain ⟨a1,c1,rfl⟩:=r1.shape
  exact step_append_run hg s x t tx hop v xv hv hx hr (hK a1 c1 w' r1 r2 r3)
open PWord PSign PHex PQuote
theorem rul_one (u : Rul) : ∀ y∈u.cells,y.oneCell'=true:=by
  intro y hy
  simp only [Rul.cells,List.mem_cons,List.not_mem_nil,or_false] at hy
  rcases hy with rfl|rfl|rfl|rfl|rfl <;> rfl
theorem rows_two26 (w : World) (a b : ByteArray) (e : TypeId) : RowS (w.alloc (.cells #[.string a,.string b] e)) (some ⟨w.heap.size,0,none⟩) [a,b]:=by
  have hA:=At.alloc w [.string a,.string b] e
  refine ⟨fun i hi=>⟨w.heap.size,0,rfl,hA.1,?_⟩⟩
  rw [Nat.zero_add]
  have:=(hA.2 i (by simpa using hi)).1
  rw [this]
  simp at hi
  have : i=0∨i=1:=by omega
  rcases this with rfl|rfl <;> rfl
theorem rd_ruleC (r : Rdr) (x : List UInt8) (hx : x.length≤1000000) (hhl : r.head.length≤1000000) (hsz : r.size≤200000) (t d : Int) (hh : headOf r.head=some (t,d)) (B g : Nat) (w : World) (he : EnvW w) (hnm : Names w) (h : RdrC B w g r) (hB : B≤w.heap.size) (o : Option Rdr) (ho : rdRule r x=o) :
    Calls Tryz.prog 87 #[.pointer (some ⟨g,0,none⟩),.string (bstr x)] w (RdPost B g r o w):=by
  obtain ⟨v1,v2,v3,O⟩:=h
  obtain ⟨⟨⟨rs,rt,rdd⟩,ls,cs⟩,hd⟩:=r
  simp only at hh hhl O
  unfold Rdr.size at hsz
  simp only at hsz
  obtain ⟨a2,k2',rfl⟩:=O.s2.shape
  obtain ⟨a3,k3',rfl⟩:=O.s3.shape
  obtain ⟨hg,c0,c1,c2,c3,c4,c5⟩:=O.cells
  by_cases hl : ls=[]
  · by_cases hc : cs=[]
    · subst hl;subst hc
      obtain ⟨a1,k1',rfl⟩:=O.s1.shape
      have hb1 : Below w.heap.size w (w.alloc (.cells #[.string (bstr hd),.string (bstr x)] 9)):=(Below.refl _ _).alloc (Nat.le_refl _) _
      have HP:=cf_parse (some ⟨w.heap.size,0,none⟩) 2 2 [bstr hd,bstr x] (w.alloc (.cells #[.string (bstr hd),.string (bstr x)] 9)) (he.on hb1) (hnm.on hb1) (rows_two26 _ _ _ _) rfl (Nat.le_refl _) (by unfold maxLen;omega) (by simp) (fun s hs=>by
        simp only [List.mem_cons,List.not_mem_nil,or_false] at hs
        rcases hs with rfl|rfl <;> rw [tx_size] <;> assumption)
      rw [bl_two] at HP
      unfold rdRule at ho
      rw [if_pos ⟨rfl,rfl⟩] at ho
      cases hu : ruleOf x with
      | none =>
        rw [hu] at ho
        obtain rfl : none=o:=ho
        have hpx : parse [hd,x]=(noCfg,2):=by rw [parse_cons,hh];simp [prules,hu]
        rw [hpx] at HP
        have HQ:=Lib.hid HP
        clear hpx hh hx hhl HP hu
        go_enter Tryz.func87,Tryz.ntmps87
        go_wp2_with (first|(go_at_call 134;(with_reducible refine HQ.out.mono ?_);intro e w2 h2;obtain ⟨v,rfl,hs2,hb2⟩:=h2;obtain ⟨ax,kx,rfl⟩:=hs2.shape;have hb3:=on_below hb1 hb2;have hO:=O.on hb3)|fail)
        go_ret
        exact ⟨rfl,⟨_,_,_,hO.on ((Below.refl _ _).alloc (Nat.le_refl _) _)⟩,(hb3.mono hB).alloc (Nat.le_trans hB hb3.size) _⟩
      | some u =>
        rw [hu] at ho
        obtain rfl : some (⟨⟨⟨rs++[u],rt,rdd⟩,[],[]⟩,hd⟩ : Rdr)=o:=ho
        have hpx : parse [hd,x]=(⟨[u],t,d⟩,0):=by rw [parse_cons,hh];simp [prules,hu]
        rw [hpx] at HP
        have HQ:=Lib.hid HP
        have hu1:=rul_one u
        obtain ⟨i0,hi,hz0,hz1,hz2⟩:=info_parts info_rul
        have hm1 : rs.length+1≤maxLen:=by unfold maxLen;omega
        clear hpx hh hx hhl HP hu
        go_enter Tryz.func87,Tryz.ntmps87
        go_wp2_with (first|(go_at_call 134;(with_reducible refine HQ.out.mono ?_);intro e w2 h2;obtain ⟨v,rfl,hs2,hb2⟩:=h2;obtain ⟨ax,kx,rfl⟩:=hs2.shape;have hb3:=on_below hb1 hb2;have hO:=O.on hb3)|fail)
        have hs3 : Sl (w.alloc (.cells #[.string (bstr hd),.string (bstr x)] 9)).heap.size w2 5 (.slice ax 1 kx) 1 u.cells:=by
          have h9 : rlv [u]=u.cells:=List.append_nil _
          have:=hs2
          rw [h9] at this
          exact this
        obtain ⟨w3,hw3⟩ : ∃ w3,w2.alloc (.cells #[.slice ax 1 kx,.int .i64 t,.int .i64 d] 24)=w3:=⟨_,rfl⟩
        have hba : Below w2.heap.size w2 (w2.alloc (.cells #[.slice ax 1 kx,.int .i64 t,.int .i64 d] 24)):=(Below.refl _ _).alloc (Nat.le_refl _) _
        have hbx:=(At.alloc w2 [.slice ax 1 kx,.int .i64 t,.int .i64 d] 24).three
        rw [hw3] at hba hbx ⊢
        obtain ⟨hgb,e0,-,e1,-,e2,-⟩:=hbx
        have hO3:=hO.on hba
        have hs4:=hs3.onW hba
        have hc3:=on_below hb3 hba
        have hB3:=Nat.le_trans hB hc3.size
        obtain ⟨hg3,d0,d1,d2,d3,d4,d5⟩:=hO3.cells
        clear hw3 hs2 hs3
        go_region_law (first|(refine step_append_own25 rfl (.tmp 41) (.tmp 43) 22 22 rfl 59 i0 _ 40 Tryz.underlying22 hi hz0 hz1 hz2 rfl (.slice a1 rs.length k1') (.slice ax 1 kx) 1 u.cells (by simp [Act.eval,Act.put]) (by simp [Act.eval,Act.put]) (hO3.s1.onW (Below.refl _ _).drew) (src_sl (hs4.onW (Below.refl _ _).drew) Tryz.underlying22 hu1) hm1 (by omega) hB3 ?_;intro ay ky w7 k1 k2 k3;have hM:=Own3.push1 hO3 hB3 (Below.refl w3.heap.size w3).drew k1 k2 k3;have hA7:=hM.2.2;have y0:=(hA7.2 0 (by simp)).1;have y1:=(hA7.2 0 (by simp)).2;have y2:=hA7.1)|fail)
        all_goals go_wp2
        all_goals go_ret
        all_goals exact ⟨rfl,⟨_,_,_,by
          show Own3 B _ g _ _ _ rt rdd hd (rs++[u]).length _ _ (rlv (rs++[u])) _ _
          rw [rlv_snoc,List.length_append]
          exact hM.1⟩,(hc3.mono hB).drew.trans hM.2.1⟩
    · have hcl : (0 : Int)<(cs.length : Int):=by have:=List.length_pos_iff.2 hc;omega
      have ho2 : o=none:=by
        rw [← ho];unfold rdRule;rw [if_neg (fun e=>hc e.2)]
      subst ho2
      subst hl
      go_enter Tryz.func87,Tryz.ntmps87
      go_wp2
      go_ret
      exact ⟨rfl,⟨_,_,_,O⟩,Below.refl _ _⟩
  · have hcl : (0 : Int)<(ls.length : Int):=by have:=List.length_pos_iff.2 hl;omega
    have ho2 : o=none:=by
      rw [← ho];unfold rdRule;rw [if_neg (fun e=>hl e.1)]
    subst ho2
    go_enter Tryz.func87,Tryz.ntmps87
    go_wp2
    go_ret
    exact ⟨rfl,⟨_,_,_,O⟩,Below.refl _ _⟩
end Go.Proofs.YtmimfkhkilijcaaGreatDoor
