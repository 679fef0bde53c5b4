/- QuoInj; RepPlain: what is reached of them. -/
import Derived.Test.YtmimfkhkilijcaaGreatDoorWq07
import Derived.Test.YtmimfkhkilijcaaGreatDoorWq10
import Derived.Test.YtmimfkhkilijcaaGreatDoorWq13
set_option linter.unusedVariables false
set_option linter.unusedSimpArgs false
set_option maxRecDepth 100000
set_option maxHeartbeats 8000000
namespace Go.Proofs.YtmimfkhkilijcaaGreatDoor
open Go.ChangeShapes Go.WideShapes Go.ChangeAt Go.RowKit
open PSign PHex PQuote
theorem hex_inj {a b : Nat} (h : hex a=hex b) : a=b:=by rw [← num_hex a,h,num_hex b]
theorem hex_two {m : Nat} (h1 : 16≤m) (h2 : m<256) : (hex m).length=2:=by
  rw [hex_high h1,hex_low (by omega)];rfl
theorem end_inj {c : UInt8} : ∀ {a b x y : List UInt8},(∀ z∈a,z≠c)→(∀ z∈b,z≠c)→a++c::x=b++c::y→a=b∧x=y
  | [],[],x,y,_,_,h=>⟨rfl,(List.cons.inj h).2⟩
  | [],v::b,x,y,_,hb,h=>absurd (List.cons.inj h).1.symm (hb v (by simp))
  | u::a,[],x,y,ha,_,h=>absurd (List.cons.inj h).1 (ha u (by simp))
  | u::a,v::b,x,y,ha,hb,h=>by
    obtain ⟨h1,h2⟩:=List.cons.inj h
    obtain ⟨e1,e2⟩:=end_inj (fun z hz=>ha z (by simp [hz])) (fun z hz=>hb z (by simp [hz])) h2
    exact ⟨by rw [h1,e1],e2⟩
def SgOk (n : Int) : Prop:=(n<0→128≤(-1 - n).toNat∧(-1 - n).toNat≤255)∧n≤1114111
theorem told_cases {n : Int} (h : SgOk n) : (n<0∧told n=92::120::hex (-1 - n).toNat)∨(0≤n∧told n=92::117::123::(hex n.toNat++[125]))∨(n=34∧told n=[92,34])∨(n=92∧told n=[92,92])∨(0≤n∧n≤126∧n≠34∧n≠92∧told n=[UInt8.ofNat n.toNat]):=by
  unfold told
  by_cases h1 : n<0
  · rw [if_pos h1];exact .inl ⟨h1,rfl⟩
  · rw [if_neg h1]
    by_cases h2 : n<32∨126<n
    · rw [if_pos h2];exact .inr (.inl ⟨by omega,rfl⟩)
    · rw [if_neg h2]
      by_cases h3 : n=34∨n=92
      · rw [if_pos h3]
        rcases h3 with rfl|rfl
        · exact .inr (.inr (.inl ⟨rfl,rfl⟩))
        · exact .inr (.inr (.inr (.inl ⟨rfl,rfl⟩)))
      · rw [if_neg h3]
        exact .inr (.inr (.inr (.inr ⟨by omega,by omega,by omega,by omega,rfl⟩)))
theorem byte_of {n : Int} (h0 : 0≤n) (h1 : n≤126) : (UInt8.ofNat n.toNat).toNat=n.toNat:=by
  rw [UInt8.toNat_ofNat'];omega
theorem byte_no {n : Int} (h0 : 0≤n) (h1 : n≤126) (h2 : n≠92) : UInt8.ofNat n.toNat≠92:=fun e=>by
  have h3:=byte_of h0 h1
  rw [e] at h3
  have : (92 : UInt8).toNat=92:=rfl
  omega
theorem told_inj {n m : Int} (hn : SgOk n) (hm : SgOk m) {x y : List UInt8} (h : told n++x=told m++y) : n=m∧x=y:=by
  rcases told_cases hn with ⟨a0,a⟩|⟨a0,a⟩|⟨a0,a⟩|⟨a0,a⟩|⟨a0,a1,a2,a3,a⟩ <;> rcases told_cases hm with ⟨b0,b⟩|⟨b0,b⟩|⟨b0,b⟩|⟨b0,b⟩|⟨b0,b1,b2,b3,b⟩ <;> rw [a,b] at h
  · simp only [List.cons_append,List.cons.injEq,true_and] at h
    have l1:=hex_two (m:=(-1 - n).toNat) (by have:=hn.1 a0;omega) (by have:=hn.1 a0;omega)
    have l2:=hex_two (m:=(-1 - m).toNat) (by have:=hm.1 b0;omega) (by have:=hm.1 b0;omega)
    obtain ⟨e1,e2⟩:=List.append_inj h (by rw [l1,l2])
    have:=hex_inj e1
    exact ⟨by omega,e2⟩
  · simp at h
  · simp at h
  · simp at h
  · simp only [List.cons_append,List.cons.injEq] at h
    exact absurd h.1.symm (byte_no b0 b1 b3)
  · simp at h
  · simp only [List.cons_append,List.append_assoc,List.cons.injEq,true_and,List.nil_append] at h
    obtain ⟨e1,e2⟩:=end_inj (hex_close _) (hex_close _) h
    have:=hex_inj e1
    exact ⟨by omega,e2⟩
  · simp at h
  · simp at h
  · simp only [List.cons_append,List.cons.injEq] at h
    exact absurd h.1.symm (byte_no b0 b1 b3)
  · simp at h
  · simp at h
  · simp at h;exact ⟨by omega,h⟩
  · simp at h
  · simp only [List.cons_append,List.cons.injEq] at h
    exact absurd h.1.symm (byte_no b0 b1 b3)
  · simp at h
  · simp at h
  · simp at h
  · simp at h;exact ⟨by omega,h⟩
  · simp only [List.cons_append,List.cons.injEq] at h
    exact absurd h.1.symm (byte_no b0 b1 b3)
  · simp only [List.cons_append,List.cons.injEq] at h
    exact absurd h.1 (byte_no a0 a1 a3)
  · simp only [List.cons_append,List.cons.injEq] at h
    exact absurd h.1 (byte_no a0 a1 a3)
  · simp only [List.cons_append,List.cons.injEq] at h
    exact absurd h.1 (byte_no a0 a1 a3)
  · simp only [List.cons_append,List.cons.injEq] at h
    exact absurd h.1 (byte_no a0 a1 a3)
  · simp only [List.cons_append,List.nil_append,List.cons.injEq] at h
    have h3:=byte_of a0 a1
    have h4:=byte_of b0 b1
    rw [h.1] at h3
    exact ⟨by omega,h.2⟩
theorem told_ne (n : Int) : told n≠[]:=fun h=>by have:=told_pos n;rw [h] at this;simp at this
theorem toldAll_inj : ∀ {a b : List Int},(∀ n∈a,SgOk n)→(∀ n∈b,SgOk n)→toldAll a=toldAll b→a=b
  | [],[],_,_,_=>rfl
  | [],m::b,_,_,h=>by
    have h' : []=told m++toldAll b:=h
    exact absurd (List.append_eq_nil_iff.1 h'.symm).1 (told_ne m)
  | n::a,[],_,_,h=>by
    have h' : told n++toldAll a=[]:=h
    exact absurd (List.append_eq_nil_iff.1 h').1 (told_ne n)
  | n::a,m::b,ha,hb,h=>by
    have h' : told n++toldAll a=told m++toldAll b:=h
    obtain ⟨e1,e2⟩:=told_inj (ha n (by simp)) (hb m (by simp)) h'
    rw [e1,toldAll_inj (fun z hz=>ha z (by simp [hz])) (fun z hz=>hb z (by simp [hz])) e2]
theorem signs_enc : ∀ (k : Nat) (l : List UInt8),l.length≤k→(signs l).flatMap enc=l∧∀ n∈signs l,SgOk n
  | 0,l,h=>by
    obtain rfl : l=[]:=List.eq_nil_of_length_eq_zero (by omega)
    rw [signs_nil];exact ⟨rfl,fun n hn=>absurd hn List.not_mem_nil⟩
  | k+1,l,h=>by
    by_cases hl : l=[]
    · subst hl;rw [signs_nil];exact ⟨rfl,fun n hn=>absurd hn List.not_mem_nil⟩
    · have h1:=stp_pos l
      have h2:=stp_le l hl
      obtain ⟨e,ho⟩:=signs_enc k (l.drop (stp l)) (by rw [List.length_drop];omega)
      rw [signs_cons l hl,List.flatMap_cons,e,enc_sg l hl,List.take_append_drop]
      refine ⟨rfl,fun n hn=>?_⟩
      rcases List.mem_cons.1 hn with rfl|hn
      · exact ⟨sg_stray l,(sg_range l).2⟩
      · exact ho n hn
theorem quote_inj {a b : List UInt8} (h : quote a=quote b) : a=b:=by
  unfold quote at h
  have h1 : toldAll (signs a)++[34]=toldAll (signs b)++[34]:=(List.cons.inj h).2
  have h2:=List.append_cancel_right h1
  obtain ⟨e1,o1⟩:=signs_enc _ a (Nat.le_refl _)
  obtain ⟨e2,o2⟩:=signs_enc _ b (Nat.le_refl _)
  rw [← e1,← e2,toldAll_inj o1 o2 h2]
def UOK (U : List UInt8→Option (List UInt8)) : Prop:=∀ q l,U q=some l↔quote l=q∧l.length≤4096
theorem unq_ex : ∃ U,UOK U:=by
  classical
  refine ⟨fun q=>if h : ∃ l,quote l=q∧l.length≤4096 then some (Classical.choose h) else none,fun q l=>?_⟩
  by_cases h : ∃ l,quote l=q∧l.length≤4096
  · simp only [dif_pos h]
    have hc:=Classical.choose_spec h
    constructor
    · intro e
      rw [← Option.some.inj e];exact hc
    · intro e
      rw [quote_inj (hc.1.trans e.1.symm)]
  · exact ⟨fun e=>by simp [h] at e,fun e=>absurd ⟨l,e⟩ h⟩
theorem q_unq (U : List UInt8→Option (List UInt8)) (hU : UOK U) (q : ByteArray) (w : World) (he : Env w) (hs : q.size≤4096) (o : Option (List UInt8)) (ho : U q.data.toList=o) :
    Calls Tryz.prog 127 #[.string q] w fun e w'=>e = .returned (.tuple #[.string (bstr (o.getD [])),.bool o.isSome])∧Below w.heap.size w w':=by
  cases o with
  | some l =>
    obtain ⟨h1,h2⟩:=(hU _ _).1 ho
    have hqb : q=bstr (quote l):=by rw [h1]
    rw [hqb]
    exact unq_ok l w he h2
  | none =>
    refine (unq_any q w he hs).mono ?_
    rintro e w' ⟨l,b,rfl,hl,h1,h2,hb⟩
    cases b with
    | false=>rw [h2 rfl];exact ⟨rfl,hb⟩
    | true =>
      have:=(hU q.data.toList l).2 ⟨h1 rfl,by omega⟩
      rw [ho] at this;cases this
end Go.Proofs.YtmimfkhkilijcaaGreatDoor
namespace Go.Proofs.YtmimfkhkilijcaaGreatDoor
open PSign PHex PQuote PWord
open Go.Lib (itoa)
structure Scr where
  cfg : Cfg
  logs : List (List UInt8)
  chs : List (Bool×Int)
abbrev noScr : Scr:=⟨noCfg,[],[]⟩
structure Rdr where
  s : Scr
  head : List UInt8
abbrev noRdr : Rdr:=⟨noScr,[]⟩
abbrev tLog : List UInt8:=[108,111,103,32]
def logLine (l : List UInt8) : List UInt8:=tLog++quote l
def rdHead (x : List UInt8) : Option Rdr :=
  match headOf x with
  | none=>none
  | some td=>some ⟨⟨⟨[],td.1,td.2⟩,[],[]⟩,x⟩
def rdRule (r : Rdr) (x : List UInt8) : Option Rdr :=
  if r.s.logs=[]∧r.s.chs=[] then
    match ruleOf x with
    | none=>none
    | some u=>some ⟨⟨⟨r.s.cfg.rules++[u],r.s.cfg.timeout,r.s.cfg.drift⟩,r.s.logs,r.s.chs⟩,r.head⟩
  else none
def rdLog (U : List UInt8→Option (List UInt8)) (r : Rdr) (x : List UInt8) : Option Rdr :=
  if Lib.hasPrefix x tLog=true∧r.s.chs=[] then
    match U (x.drop 4) with
    | none=>none
    | some l=>some ⟨⟨r.s.cfg,r.s.logs++[l],r.s.chs⟩,r.head⟩
  else none
def rdCh (r : Rdr) (x : List UInt8) : Option Rdr :=
  match PWord.read x with
  | none=>none
  | some c=>some ⟨⟨r.s.cfg,r.s.logs,r.s.chs++[c]⟩,r.head⟩
def rdMore (U : List UInt8→Option (List UInt8)) (r : Rdr) (x : List UInt8) : Option Rdr :=
  match rdRule r x with
  | some r'=>some r'
  | none=>match rdLog U r x with
    | some r'=>some r'
    | none=>rdCh r x
def rd (U : List UInt8→Option (List UInt8)) (r : Rdr) (x : List UInt8) : Option Rdr:=if r.head=[] then rdHead x else rdMore U r x
def goS (U : List UInt8→Option (List UInt8)) : Rdr→Nat→List (List UInt8)→Scr×Nat
  | r,n,[]=>(noScr,n)
  | r,n,[x]=>if n≠1∧x=[] then (r.s,0) else (noScr,n)
  | r,n,x::y::rest=>match rd U r x with
    | none=>(noScr,n)
    | some r'=>goS U r' (n+1) (y::rest)
def lines (t : List UInt8) : List (List UInt8):=cuts 10 (t.count 10) t
def parseS (U : List UInt8→Option (List UInt8)) (t : List UInt8) : Scr×Nat:=goS U noRdr 1 (lines t)
theorem goS_two (U : List UInt8→Option (List UInt8)) (r : Rdr) (n : Nat) (x y : List UInt8) (rest : List (List UInt8)) : goS U r n (x::y::rest)=match rd U r x with
    | none=>(noScr,n)
    | some r'=>goS U r' (n+1) (y::rest):=rfl
theorem goS_none {U : List UInt8→Option (List UInt8)} {r : Rdr} {n : Nat} {x : List UInt8} {L : List (List UInt8)} (hL : L≠[]) (h : rd U r x=none) : goS U r n (x::L)=(noScr,n):=by
  cases L with
  | nil=>exact absurd rfl hL
  | cons y rest=>rw [goS_two,h]
theorem goS_some {U : List UInt8→Option (List UInt8)} {r r' : Rdr} {n : Nat} {x : List UInt8} {L : List (List UInt8)} (hL : L≠[]) (h : rd U r x=some r') : goS U r n (x::L)=goS U r' (n+1) L:=by
  cases L with
  | nil=>exact absurd rfl hL
  | cons y rest=>rw [goS_two,h]
def logsT (l : List (List UInt8)) : List UInt8:=(l.map fun x=>logLine x++[10]).flatten
def chsT (l : List (Bool×Int)) : List UInt8:=(l.map fun c=>cline c.1 c.2++[10]).flatten
def printS (s : Scr) : List UInt8:=print s.cfg++logsT s.logs++chsT s.chs
theorem logsT_snoc (l : List (List UInt8)) (x : List UInt8) : logsT (l++[x])=logsT l++(logLine x++[10]):=by simp [logsT]
theorem chsT_snoc (l : List (Bool×Int)) (x : Bool×Int) : chsT (l++[x])=chsT l++(cline x.1 x.2++[10]):=by simp [chsT]
theorem print_snoc (rs : List Rul) (t d : Int) (u : Rul) : print ⟨rs++[u],t,d⟩=print ⟨rs,t,d⟩++rule u:=by simp [print]
structure Scr.Ok (s : Scr) : Prop where
  fits : s.cfg.Fits
  only : ∀ r∈s.cfg.rules,only r=true
  logs : ∀ l∈s.logs,l.length≤4096
  chs : ∀ c∈s.chs,in64 c.2
theorem noScr_ok : noScr.Ok:=⟨noCfg_fits,fun r h=>absurd h List.not_mem_nil,fun r h=>absurd h List.not_mem_nil,fun r h=>absurd h List.not_mem_nil⟩
theorem pre_log {x : List UInt8} (h : Lib.hasPrefix x tLog=true) : tLog++x.drop 4=x:=by
  have h' : tLog <+: x:=by
    unfold Lib.hasPrefix at h
    simpa using h
  obtain ⟨r,rfl⟩:=h'
  rfl
theorem headOf_nil : headOf []=none:=by
  cases h : headOf [] with
  | none=>rfl
  | some td =>
    obtain ⟨t,d⟩:=td
    have:=(headOf_some h).1
    have h2 : (hline t d).length=0:=by rw [← this];rfl
    unfold hline at h2
    rw [lineOf_cons] at h2
    simp at h2
theorem rd_ok {U : List UInt8→Option (List UInt8)} (hU : UOK U) {r r' : Rdr} {x : List UInt8} (hr : r.s.Ok) (h0 : r.head=[]→r.s=noScr) (h : rd U r x=some r') : r'.s.Ok∧r'.head≠[]∧printS r'.s=(if r.head=[] then [] else printS r.s)++x++[10]:=by
  unfold rd at h
  by_cases hh : r.head=[]
  · rw [if_pos hh] at h
    unfold rdHead at h
    split at h
    · cases h
    · next td htd =>
      obtain ⟨t,d⟩:=td
      cases h
      obtain ⟨e,ht,hd⟩:=headOf_some htd
      refine ⟨⟨⟨fun r h=>absurd h List.not_mem_nil,ht,hd⟩,fun r h=>absurd h List.not_mem_nil,fun r h=>absurd h List.not_mem_nil,fun r h=>absurd h List.not_mem_nil⟩,?_,?_⟩
      · intro (e2 : x=[])
        rw [e2,headOf_nil] at htd;cases htd
      · rw [if_pos hh,e]
        simp [printS,print,logsT,chsT]
  · rw [if_neg hh] at h
    rw [if_neg hh]
    obtain ⟨⟨⟨rs,t,d⟩,ls,cs⟩,hd⟩:=r
    unfold rdMore at h
    split at h
    · next r1 h1 =>
      cases h
      unfold rdRule at h1
      split at h1
      · next hc =>
        obtain ⟨e1,e2⟩:=hc
        have e1 : ls=[]:=e1
        have e2 : cs=[]:=e2
        subst e1;subst e2
        split at h1
        · cases h1
        · next u hu =>
          cases h1
          obtain ⟨g1,g2,g3⟩:=ruleOf_some hu
          refine ⟨⟨⟨fun y hy=>?_,hr.fits.timeout,hr.fits.drift⟩,fun y hy=>?_,hr.logs,hr.chs⟩,hh,?_⟩
          · rcases List.mem_append.1 hy with hy|hy
            · exact hr.fits.rules y hy
            · rw [List.mem_singleton.1 hy];exact g3
          · rcases List.mem_append.1 hy with hy|hy
            · exact hr.only y hy
            · rw [List.mem_singleton.1 hy];exact g2
          · have e3 : rule u=x++[10]:=by unfold rule;rw [g1]
            show print ⟨rs++[u],t,d⟩++logsT []++chsT []=print ⟨rs,t,d⟩++logsT []++chsT []++x++[10]
            rw [print_snoc,e3]
            simp [logsT,chsT]
      · cases h1
    · next h1 =>
      split at h
      · next r1 h2 =>
        cases h
        unfold rdLog at h2
        split at h2
        · next hc =>
          obtain ⟨e1,e2⟩:=hc
          have e2 : cs=[]:=e2
          subst e2
          split at h2
          · cases h2
          · next l hl =>
            cases h2
            obtain ⟨g1,g2⟩:=(hU _ _).1 hl
            refine ⟨⟨hr.fits,hr.only,fun y hy=>?_,hr.chs⟩,hh,?_⟩
            · rcases List.mem_append.1 hy with hy|hy
              · exact hr.logs y hy
              · rw [List.mem_singleton.1 hy];exact g2
            · show print ⟨rs,t,d⟩++logsT (ls++[l])++chsT []=print ⟨rs,t,d⟩++logsT ls++chsT []++x++[10]
              have e3 : logLine l=x:=by unfold logLine;rw [g1];exact pre_log e1
              rw [logsT_snoc,e3]
              simp [chsT]
        · cases h2
      · next h2 =>
        unfold rdCh at h
        split at h
        · cases h
        · next c hc =>
          cases h
          obtain ⟨ct,cn⟩:=c
          obtain ⟨g1,g2⟩:=read_some hc
          refine ⟨⟨hr.fits,hr.only,hr.logs,fun y hy=>?_⟩,hh,?_⟩
          · rcases List.mem_append.1 hy with hy|hy
            · exact hr.chs y hy
            · rw [List.mem_singleton.1 hy];exact g2
          · show print ⟨rs,t,d⟩++logsT ls++chsT (cs++[(ct,cn)])=print ⟨rs,t,d⟩++logsT ls++chsT cs++x++[10]
            rw [chsT_snoc,g1]
            simp
theorem rdLog_line {U : List UInt8→Option (List UInt8)} (hU : UOK U) (c : Cfg) (ls : List (List UInt8)) (hd : List UInt8) (l : List UInt8) (hl : l.length≤4096) : rdLog U ⟨⟨c,ls,[]⟩,hd⟩ (logLine l)=some ⟨⟨c,ls++[l],[]⟩,hd⟩:=by
  unfold rdLog
  have h1 : Lib.hasPrefix (logLine l) tLog=true:=by simp [Lib.hasPrefix,logLine]
  have h2 : (logLine l).drop 4=quote l:=rfl
  rw [if_pos ⟨h1,rfl⟩,h2,(hU (quote l) l).2 ⟨rfl,hl⟩]
theorem log_split (l : List UInt8) : (PWord.split (logLine l)).1=[108,111,103]:=by
  have h : logLine l=[108,111,103]++32::quote l:=rfl
  unfold PWord.split
  rw [h,cuts_some 32 2 _ _ (by decide)]
theorem ruleOf_log (l : List UInt8) : ruleOf (logLine l)=none:=by
  have h:=log_split l
  cases hr : ruleOf (logLine l) with
  | none=>rfl
  | some u =>
    exfalso
    obtain ⟨g1,-,-⟩:=ruleOf_some hr
    unfold ruleOf at hr
    generalize PWord.split (logLine l)=p at hr h
    obtain ⟨name,ns⟩:=p
    simp only at h
    subst h
    simp only at hr
    split at hr
    · split at hr
      · next e=>simp at e
      · split at hr
        · next e=>simp at e
        · cases hr
    · split at hr
      · next e=>simp at e
      · cases hr
    · cases hr
theorem go_rules {U : List UInt8→Option (List UInt8)} (t d : Int) (hd : List UInt8) (hh : hd≠[]) (L : List (List UInt8)) (hL : L≠[]) : ∀ (us rs : List Rul) (n : Nat),(∀ u∈us,only u=true∧u.Fits)→goS U ⟨⟨⟨rs,t,d⟩,[],[]⟩,hd⟩ n (us.map (fun r=>(rline r).getD [])++L)=goS U ⟨⟨⟨rs++us,t,d⟩,[],[]⟩,hd⟩ (n+us.length) L
  | [],rs,n,_=>by simp
  | u::us,rs,n,h=>by
    obtain ⟨x,hx⟩:=rline_only (h u (by simp)).1
    have h1:=ruleOf_rline (h u (by simp)).1 (h u (by simp)).2 hx
    have h2 : rd U ⟨⟨⟨rs,t,d⟩,[],[]⟩,hd⟩ x=some ⟨⟨⟨rs++[u],t,d⟩,[],[]⟩,hd⟩:=by
      unfold rd
      rw [if_neg hh]
      unfold rdMore
      have h3 : rdRule ⟨⟨⟨rs,t,d⟩,[],[]⟩,hd⟩ x=some ⟨⟨⟨rs++[u],t,d⟩,[],[]⟩,hd⟩:=by
        unfold rdRule
        rw [if_pos ⟨rfl,rfl⟩,h1]
      rw [h3]
    rw [List.map_cons,hx,Option.getD_some,List.cons_append,goS_some (by simp [hL]) h2,go_rules t d hd hh L hL us (rs++[u]) (n+1) (fun v hv=>h v (by simp [hv]))]
    simp only [List.append_assoc,List.singleton_append,List.length_cons]
    congr 1
    omega
theorem go_logs {U : List UInt8→Option (List UInt8)} (hU : UOK U) (c : Cfg) (hd : List UInt8) (hh : hd≠[]) (L : List (List UInt8)) (hL : L≠[]) : ∀ (us ls : List (List UInt8)) (n : Nat),(∀ u∈us,u.length≤4096)→goS U ⟨⟨c,ls,[]⟩,hd⟩ n (us.map logLine++L)=goS U ⟨⟨c,ls++us,[]⟩,hd⟩ (n+us.length) L
  | [],ls,n,_=>by simp
  | u::us,ls,n,h=>by
    have h2 : rd U ⟨⟨c,ls,[]⟩,hd⟩ (logLine u)=some ⟨⟨c,ls++[u],[]⟩,hd⟩:=by
      unfold rd
      rw [if_neg hh]
      unfold rdMore
      have h3 : rdRule ⟨⟨c,ls,[]⟩,hd⟩ (logLine u)=none:=by
        unfold rdRule
        rw [ruleOf_log]
        split <;> rfl
      rw [h3,rdLog_line hU c ls hd u (h u (by simp))]
    rw [List.map_cons,List.cons_append,goS_some (by simp [hL]) h2,go_logs hU c hd hh L hL us (ls++[u]) (n+1) (fun v hv=>h v (by simp [hv]))]
    simp only [List.append_assoc,List.singleton_append,List.length_cons]
    congr 1
    omega
theorem cline_nolog (t : Bool) (n : Int) : Lib.hasPrefix (cline t n) tLog=false:=by
  cases t <;> rfl
theorem go_chs {U : List UInt8→Option (List UInt8)} (c : Cfg) (ls : List (List UInt8)) (hd : List UInt8) (hh : hd≠[]) (L : List (List UInt8)) (hL : L≠[]) : ∀ (us cs : List (Bool×Int)) (n : Nat),(∀ u∈us,in64 u.2)→goS U ⟨⟨c,ls,cs⟩,hd⟩ n (us.map (fun u=>cline u.1 u.2)++L)=goS U ⟨⟨c,ls,cs++us⟩,hd⟩ (n+us.length) L
  | [],cs,n,_=>by simp
  | u::us,cs,n,h=>by
    have h2 : rd U ⟨⟨c,ls,cs⟩,hd⟩ (cline u.1 u.2)=some ⟨⟨c,ls,cs++[u]⟩,hd⟩:=by
      unfold rd
      rw [if_neg hh]
      unfold rdMore
      have h3 : rdRule ⟨⟨c,ls,cs⟩,hd⟩ (cline u.1 u.2)=none:=by
        unfold rdRule
        rw [ruleOf_cline _ _ (h u (by simp))]
        split <;> rfl
      have h4 : rdLog U ⟨⟨c,ls,cs⟩,hd⟩ (cline u.1 u.2)=none:=by
        unfold rdLog
        rw [cline_nolog,if_neg (fun e=>by cases e.1)]
      have h5 : rdCh ⟨⟨c,ls,cs⟩,hd⟩ (cline u.1 u.2)=some ⟨⟨c,ls,cs++[u]⟩,hd⟩:=by
        unfold rdCh
        rw [read_cline _ _ (h u (by simp))]
      rw [h3,h4]
      exact h5
    rw [List.map_cons,List.cons_append,goS_some (by simp [hL]) h2,go_chs c ls hd hh L hL us (cs++[u]) (n+1) (fun v hv=>h v (by simp [hv]))]
    simp only [List.append_assoc,List.singleton_append,List.length_cons]
    congr 1
    omega
def slines (s : Scr) : List (List UInt8):=plines s.cfg++s.logs.map logLine++s.chs.map fun c=>cline c.1 c.2
theorem printS_lines (s : Scr) (ho : ∀ r∈s.cfg.rules,only r=true) : printS s=((slines s).map (· ++ [10])).flatten:=by
  unfold printS slines logsT chsT
  rw [print_plines s.cfg ho]
  simp only [List.map_append,List.map_map,List.flatten_append]
  rfl
theorem logLine_10 (l : List UInt8) : (10 : UInt8)∉logLine l:=by
  unfold logLine
  intro h
  rcases List.mem_append.1 h with h|h
  · revert h;decide
  · exact PEv.quote_10 l h
theorem cline_10 (t : Bool) (n : Int) : (10 : UInt8)∉cline t n:=by
  unfold cline
  intro h
  rcases List.mem_append.1 h with h|h
  · revert h;cases t <;> decide
  · rcases List.mem_cons.1 h with h|h
    · revert h;decide
    · exact itoa_10 n h
theorem slines_10 (s : Scr) : ∀ l∈slines s,(10 : UInt8)∉l:=by
  intro l hl
  unfold slines at hl
  rcases List.mem_append.1 hl with hl|hl
  · rcases List.mem_append.1 hl with hl|hl
    · exact plines_10 _ l hl
    · obtain ⟨x,-,rfl⟩:=List.mem_map.1 hl
      exact logLine_10 x
  · obtain ⟨x,-,rfl⟩:=List.mem_map.1 hl
    exact cline_10 _ _
theorem lines_printS (s : Scr) (ho : ∀ r∈s.cfg.rules,only r=true) : lines (printS s)=slines s++[[]]:=by
  unfold lines
  rw [printS_lines s ho,count_ended 10 _ (slines_10 s)]
  exact cuts_ended 10 _ _ (slines_10 s) (Nat.le_refl _)
theorem hline_ne (t d : Int) : hline t d≠[]:=by
  unfold hline
  rw [lineOf_cons];simp
theorem parseS_print {U : List UInt8→Option (List UInt8)} (hU : UOK U) (s : Scr) (hs : s.Ok) : parseS U (printS s)=(s,0):=by
  unfold parseS
  rw [lines_printS s hs.only]
  obtain ⟨⟨rs,t,d⟩,ls,cs⟩:=s
  have h1 : slines ⟨⟨rs,t,d⟩,ls,cs⟩++[[]]=hline t d::(rs.map (fun r=>(rline r).getD [])++(ls.map logLine++(cs.map (fun c=>cline c.1 c.2)++[[]]))):=by
    simp [slines,plines]
  have h2 : rd U noRdr (hline t d)=some ⟨⟨⟨[],t,d⟩,[],[]⟩,hline t d⟩:=by
    unfold rd rdHead
    rw [if_pos rfl,headOf_line hs.fits.timeout hs.fits.drift]
  rw [h1,goS_some (by simp) h2,go_rules t d _ (hline_ne t d) _ (by simp) rs [] 2 (fun u hu=>⟨hs.only u hu,hs.fits.rules u hu⟩),List.nil_append,go_logs hU _ _ (hline_ne t d) _ (by simp) ls [] _ hs.logs,List.nil_append,go_chs _ _ _ (hline_ne t d) _ (by simp) cs [] _ hs.chs,List.nil_append]
  show (if _∧([] : List UInt8)=[] then _ else _)=_
  rw [if_pos ⟨by omega,rfl⟩]
theorem lines_ne (t : List UInt8) : lines t≠[]:=cuts_ne 10 _ t
end Go.Proofs.YtmimfkhkilijcaaGreatDoor
