/- KEvA: what is reached of them. -/
import Derived.Test.YtmimfkhkilijcaaGreatDoorWq12
import Derived.Test.YtmimfkhkilijcaaGreatDoorWq10
import Derived.Test.YtmimfkhkilijcaaGreatDoorWq03
import Derived.Test.YtmimfkhkilijcaaGreatDoorWq07
import Derived.Test.YtmimfkhkilijcaaGreatDoorWq11
import Derived.Test.YtmimfkhkilijcaaGreatDoorWq06
import Derived.Deep.RegionHeld3
import Derived.Deep.DeepCutAuto
set_option linter.unusedVariables false
set_option linter.unusedSimpArgs false
set_option maxRecDepth 100000
set_option maxHeartbeats 8000000
namespace Go.Proofs.YtmimfkhkilijcaaGreatDoor.PEv
open Go.Lib
open Go.Proofs.YtmimfkhkilijcaaGreatDoor
open PWord PSign PHex PQuote
abbrev tElement : List UInt8:=[101,108,101,109,101,110,116]
abbrev tLate : List UInt8:=[108,97,116,101]
abbrev tMark : List UInt8:=[109,97,114,107]
abbrev tFault : List UInt8:=[102,97,117,108,116]
def elName (late : Bool) : List UInt8:=if late then tLate else tElement
def eline : Ev→List UInt8
  | .el late p k t x=>lineOf (elName late) [p,k,t]++32::quote x
  | .mark n=>lineOf tMark [n]
  | .fault p e=>lineOf tFault [p,e]
def rel (U : List UInt8→Option (List UInt8)) (late : Bool) (b : List UInt8) : Option Ev :=
  match cuts 32 3 b with
  | [a1,a2,a3,q]=>match nums [a1,a2,a3],U q with
    | some [p,k,t],some x=>some (.el late p k t x)
    | _,_=>none
  | _=>none
def rmark (b : List UInt8) : Option Ev:=match nums (cuts 32 0 b) with
  | some [n]=>some (.mark n)
  | _=>none
def rfault (b : List UInt8) : Option Ev:=match nums (cuts 32 1 b) with
  | some [p,e]=>some (.fault p e)
  | _=>none
def rd2 (U : List UInt8→Option (List UInt8)) (a b : List UInt8) : Option Ev :=
  if a=tElement then rel U false b else if a=tLate then rel U true b else if a=tMark then rmark b else if a=tFault then rfault b else none
theorem rd2_el (U : List UInt8→Option (List UInt8)) (b : List UInt8) : rd2 U tElement b=rel U false b:=by unfold rd2;rw [if_pos rfl]
theorem rd2_late (U : List UInt8→Option (List UInt8)) (b : List UInt8) : rd2 U tLate b=rel U true b:=by unfold rd2;rw [if_neg (by decide),if_pos rfl]
theorem rd2_mark (U : List UInt8→Option (List UInt8)) (b : List UInt8) : rd2 U tMark b=rmark b:=by unfold rd2;rw [if_neg (by decide),if_neg (by decide),if_pos rfl]
theorem rd2_fault (U : List UInt8→Option (List UInt8)) (b : List UInt8) : rd2 U tFault b=rfault b:=by unfold rd2;rw [if_neg (by decide),if_neg (by decide),if_neg (by decide),if_pos rfl]
def eread (U : List UInt8→Option (List UInt8)) (s : List UInt8) : Option Ev:=rd2 U (cut s [32]).1 (cut s [32]).2.1
theorem quote_cuts (k : Nat) (p : Int) (hp : in64 p) (x : List UInt8) : cuts 32 (k+1) (itoa p++32::x)=itoa p::cuts 32 k x:=cuts_some 32 k _ _ (itoa_32 p)
theorem eread_line {U : List UInt8→Option (List UInt8)} (e : Ev) (h : e.ok) (hU : U (quote (etext e))=some (etext e)) : eread U (eline e)=some e:=by
  cases e with
  | el late p k t x =>
    obtain ⟨h1,h2,h3⟩:=h
    have hn : (32 : UInt8)∉elName late:=by cases late <;> decide
    have hl : eline (.el late p k t x)=elName late++32::(itoa p++32::(itoa k++32::(itoa t++32::quote x))):=by
      simp only [eline]
      rw [lineOf_cons]
      simp [glue]
    have hr : rel U late (itoa p++32::(itoa k++32::(itoa t++32::quote x)))=some (.el late p k t x):=by
      have hc : cuts 32 3 (itoa p++32::(itoa k++32::(itoa t++32::quote x)))=[itoa p,itoa k,itoa t,quote x]:=by
        rw [quote_cuts 2 p h1,quote_cuts 1 k h2,quote_cuts 0 t h3]
        rfl
      have hnn:=nums_map [p,k,t] (by simp [h1,h2,h3])
      simp only [List.map_cons,List.map_nil] at hnn
      unfold rel
      rw [hc]
      have hU' : U (quote x)=some x:=hU
      simp only [hnn,hU']
    unfold eread
    rw [hl,cut_some 32 _ _ hn]
    cases late with
    | false=>exact (rd2_el U _).trans hr
    | true=>exact (rd2_late U _).trans hr
  | mark n =>
    have hl : eline (.mark n)=tMark++32::itoa n:=rfl
    unfold eread
    rw [hl,cut_some 32 _ _ (by decide)]
    refine (rd2_mark U _).trans ?_
    have hnn:=nums_map [n] (by intro y hy;rw [List.mem_singleton] at hy;subst hy;exact h)
    simp only [List.map_cons,List.map_nil] at hnn
    unfold rmark
    rw [show cuts 32 0 (itoa n)=[itoa n] from rfl,hnn]
  | fault p n =>
    obtain ⟨h1,h2⟩:=h
    have hl : eline (.fault p n)=tFault++32::(itoa p++32::itoa n):=rfl
    unfold eread
    rw [hl,cut_some 32 _ _ (by decide)]
    refine (rd2_fault U _).trans ?_
    have hnn:=nums_map [p,n] (by simp [h1,h2])
    simp only [List.map_cons,List.map_nil] at hnn
    unfold rfault
    rw [quote_cuts 0 p h1,show cuts 32 0 (itoa n)=[itoa n] from rfl,hnn]
theorem dig_seen : ∀ d,d<16→32≤(dig d).toNat∧(dig d).toNat≤126:=by decide
theorem hex_seen (n : Nat) : ∀ c∈hex n,32≤c.toNat∧c.toNat≤126:=by
  intro c hc
  obtain ⟨d,hd,rfl⟩:=hex_mem n hc
  exact dig_seen d hd
theorem told_seen (n : Int) : ∀ c∈told n,32≤c.toNat∧c.toNat≤126:=by
  intro c hc
  unfold told at hc
  split at hc
  · rcases List.mem_append.1 hc with h|h
    · simp only [List.mem_cons,List.not_mem_nil,or_false] at h
      rcases h with rfl|rfl <;> decide
    · exact hex_seen _ c h
  · split at hc
    · rcases List.mem_append.1 hc with h|h
      · rcases List.mem_append.1 h with h|h
        · simp only [List.mem_cons,List.not_mem_nil,or_false] at h
          rcases h with rfl|rfl|rfl <;> decide
        · exact hex_seen _ c h
      · simp only [List.mem_cons,List.not_mem_nil,or_false] at h
        subst h
        decide
    · split at hc
      · simp only [List.mem_cons,List.not_mem_nil,or_false] at hc
        rcases hc with rfl|rfl
        · decide
        · rw [UInt8.toNat_ofNat'];omega
      · simp only [List.mem_cons,List.not_mem_nil,or_false] at hc
        subst hc
        rw [UInt8.toNat_ofNat'];omega
theorem quote_seen (l : List UInt8) : ∀ c∈quote l,32≤c.toNat∧c.toNat≤126:=by
  intro c hc
  unfold quote at hc
  rcases List.mem_append.1 hc with h|h
  · rcases List.mem_cons.1 h with rfl|h
    · decide
    · unfold toldAll at h
      obtain ⟨n,_,hn⟩:=List.mem_flatMap.1 h
      exact told_seen n c hn
  · simp only [List.mem_cons,List.not_mem_nil,or_false] at h
    subst h
    decide
theorem quote_10 (l : List UInt8) : (10 : UInt8)∉quote l:=fun h=>by have:=(quote_seen l _ h).1;revert this;decide
theorem quote_big (l : List UInt8) : (quote l).length≤10*l.length+2:=by
  unfold quote
  have h1:=toldAll_len (signs l) (signs_range l)
  have h2:=signs_len l
  simp only [List.length_append,List.length_cons,List.length_nil]
  omega
theorem eline_10 (e : Ev) : (10 : UInt8)∉eline e:=by
  cases e with
  | el late p k t x =>
    simp only [eline]
    intro h
    rcases List.mem_append.1 h with h|h
    · exact lineOf_10 _ _ (by cases late <;> decide) h
    · rcases List.mem_cons.1 h with h|h
      · revert h;decide
      · exact quote_10 x h
  | mark n=>exact lineOf_10 _ _ (by decide)
  | fault p n=>exact lineOf_10 _ _ (by decide)
theorem eline_len (e : Ev) (h : e.ok) : (eline e).length≤100+10*(etext e).length:=by
  cases e with
  | el late p k t x =>
    obtain ⟨h1,h2,h3⟩:=h
    have a:=lineOf_len (elName late) [p,k,t] (by cases late <;> decide) (by simp [h1,h2,h3])
    have b:=quote_big x
    simp only [List.length_cons,List.length_nil] at a
    simp only [eline,etext]
    rw [List.length_append,List.length_cons]
    omega
  | mark n =>
    have a:=lineOf_len tMark [n] (by decide) (by intro y hy;rw [List.mem_singleton] at hy;subst hy;exact h)
    simp only [List.length_cons,List.length_nil] at a
    simp only [eline]
    omega
  | fault p n =>
    obtain ⟨h1,h2⟩:=h
    have a:=lineOf_len tFault [p,n] (by decide) (by simp [h1,h2])
    simp only [List.length_cons,List.length_nil] at a
    simp only [eline]
    omega
end Go.Proofs.YtmimfkhkilijcaaGreatDoor.PEv
namespace Go.Proofs.YtmimfkhkilijcaaGreatDoor
open Go.ChangeShapes Go.WideShapes Go.ChangeAt Go.RowKit
open PWord PQuote PSign PEv
open Go.Lib (itoa)
structure EnvE (w : World) : Prop where
  wd : EnvW w
  qu : Env w
theorem EnvE.on {w w' : World} (h : EnvE w) (hb : Below w.heap.size w w') : EnvE w':=⟨h.wd.on hb,h.qu.on hb⟩
structure Reads (x? : Option (List UInt8)) (U : List UInt8→Option (List UInt8)) : Prop where
  snd : ∀ q x,U q=some x→quote x=q
  all : ∀ x,x? = some x→U (quote x)=some x
def UnqU (x? : Option (List UInt8)) (q : ByteArray) (w : World) (e : Ending) (w' : World) : Prop :=
  ∃ U,Reads x? U∧e = .returned (.tuple #[.string (bstr ((U q.data.toList).getD [])),.bool (U q.data.toList).isSome])∧Below w.heap.size w w'∧∀ y,U q.data.toList=some y→y.length≤q.size∨x? = some y
def Uof (x? : Option (List UInt8)) (q : List UInt8) : Option (List UInt8):=match x? with
  | some x=>if q=quote x then some x else none
  | none=>none
theorem uof_snd {x? : Option (List UInt8)} {q x : List UInt8} (h : Uof x? q=some x) : quote x=q∧x? = some x:=by
  unfold Uof at h
  cases x? with
  | none=>cases h
  | some y =>
    simp only at h
    split at h
    · rename_i e;cases h;exact ⟨e.symm,rfl⟩
    · cases h
theorem uof_all (x : List UInt8) : Uof (some x) (quote x)=some x:=by show (if quote x=quote x then some x else none)=_;rw [if_pos rfl]
theorem unq_is (x? : Option (List UInt8)) (hx : ∀ x,x? = some x→x.length≤4096) (q : ByteArray) (w : World) (he : Env w) (hs : q.size≤4096∨∃ x,x? = some x∧q.data.toList=quote x) :
    Calls Tryz.prog 127 #[.string q] w (UnqU x? q w):=by
  by_cases h : ∃ x,x? = some x∧q.data.toList=quote x
  · obtain ⟨x,rfl,hq⟩:=h
    have hqb : q=bstr (quote x):=by rw [← hq]
    subst hqb
    refine (unq_ok x w he (hx x rfl)).mono ?_
    rintro e w' ⟨rfl,hb⟩
    have hu : Uof (some x) (bstr (quote x)).data.toList=some x:=uof_all x
    exact ⟨Uof (some x),⟨fun q y h=>(uof_snd h).1,fun y h=>by cases h;exact uof_all x⟩,by rw [hu];rfl,hb,fun y h=>.inr (by rw [hu] at h;exact h)⟩
  · have hs' : q.size≤4096:=hs.resolve_right h
    have hno : Uof x? q.data.toList=none:=by
      cases hu : Uof x? q.data.toList with
      | none=>rfl
      | some y=>exact absurd ⟨y,(uof_snd hu).2,(uof_snd hu).1.symm⟩ h
    refine (unq_any q w he hs').mono ?_
    rintro e w' ⟨l,b,rfl,hl,h1,h2,hb⟩
    cases b with
    | false =>
      refine ⟨Uof x?,⟨fun q y h=>(uof_snd h).1,fun y h=>by subst h;exact uof_all y⟩,?_,hb,fun y h=>by rw [hno] at h;cases h⟩
      rw [hno,h2 rfl]
      rfl
    | true =>
      refine ⟨fun p=>if p=q.data.toList then some l else Uof x? p,⟨fun p y hp=>?_,fun y hy=>?_⟩,?_,hb,fun y h=>.inl (by simp at h;rw [← h];exact hl)⟩
      · split at hp
        · rename_i e
          cases hp
          rw [e];exact h1 rfl
        · exact (uof_snd hp).1
      · split
        · rename_i e
          exact absurd ⟨y,hy,e.symm⟩ h
        · subst hy;exact uof_all y
      · simp
theorem li_splitk (s : ByteArray) (n : Nat) (z : Int) (hz : z=n) (h1 : 1≤n) (hn : n≤1000) (w : World) (hs : s.size≤1000000) (he : EnvW w) :
    Calls Tryz.prog 125 #[.string s,.string ⟨#[32]⟩,.int .i64 z] w (Parted w (cuts 32 (n - 1) s.data.toList)):=by
  subst hz
  obtain ⟨m,hm⟩:=he.max
  refine (Tryz.strings_SplitN s ⟨#[32]⟩ n m w (by omega) hm (by decide) h1 (by omega)).mono ?_
  rintro e w' ⟨rfl,rfl⟩
  have hlen:=Lib.splitB_length_le ⟨#[32]⟩ 0 (min n (s.size+1) - 1) s
  refine ⟨w.heap.size,min n (s.size+1),_,rfl,?_,rows_cells w _ _ _,by omega,by omega,Nat.le_refl _,(Below.refl _ _).alloc (Nat.le_refl _) _⟩
  rw [Lib.splitB_data,show min n (s.size+1) - 1=min (n - 1) s.data.toList.length by rw [Array.length_toList];show min n (s.data.size+1) - 1=_;omega]
  exact cuts_min 32 (n - 1) s.data.toList
theorem cuts_lim (c : UInt8) : ∀ (k : Nat) (l : List UInt8),(cuts c k l).length≤k+1∧∀ x∈cuts c k l,x.length≤l.length:=by
  intro k
  induction k with
  | zero=>intro l;exact ⟨by show [l].length≤_;simp,fun x hx=>by have : x∈[l]:=hx;simp at this;rw [this];exact Nat.le_refl _⟩
  | succ k ih =>
    intro l
    by_cases hc : c∈l
    · obtain ⟨a,b,rfl,ha⟩:=part_at c l hc
      rw [cuts_some c k a b ha]
      obtain ⟨h1,h2⟩:=ih b
      refine ⟨by simp only [List.length_cons];omega,fun x hx=>?_⟩
      rcases List.mem_cons.1 hx with rfl|hx
      · simp
      · have:=h2 x hx;simp;omega
    · rw [cuts_none c _ l hc]
      exact ⟨by simp,fun x hx=>by simp at hx;rw [hx];exact Nat.le_refl _⟩
def manyOf (m : Nat) (b : List UInt8) : Option (List Int):=if (cuts 32 (m - 1) b).length<m then none else nums (cuts 32 (m - 1) b)
theorem many_one (b : List UInt8) : (manyOf 1 b=none∧rmark b=none)∨∃ n,manyOf 1 b=some [n]∧rmark b=some (.mark n)∧in64 n:=by
  have hc : cuts 32 (1 - 1) b=[b]:=rfl
  have hm : manyOf 1 b=nums [b]:=by unfold manyOf;rw [hc,if_neg (by simp)]
  have hr : rmark b=match nums [b] with
    | some [n]=>some (.mark n)
    | _=>none:=rfl
  rw [hm,hr]
  cases hn : nums [b] with
  | none=>exact .inl ⟨rfl,rfl⟩
  | some l =>
    obtain ⟨h1,h2⟩:=nums_some hn
    match l,h1 with
    | [n],_=>exact .inr ⟨n,rfl,rfl,h2 n (by simp)⟩
theorem many_two (b : List UInt8) : (manyOf 2 b=none∧rfault b=none)∨∃ p n,manyOf 2 b=some [p,n]∧rfault b=some (.fault p n)∧in64 p∧in64 n:=by
  have hl:=(cuts_lim 32 1 b).1
  have hr : rfault b=match nums (cuts 32 1 b) with
    | some [p,e]=>some (.fault p e)
    | _=>none:=rfl
  have hm : manyOf 2 b=if (cuts 32 1 b).length<2 then none else nums (cuts 32 1 b):=rfl
  rw [hm,hr]
  by_cases h : (cuts 32 1 b).length<2
  · rw [if_pos h]
    refine .inl ⟨rfl,?_⟩
    cases hn : nums (cuts 32 1 b) with
    | none=>rfl
    | some l =>
      obtain ⟨h1,_⟩:=nums_some hn
      rw [h1,List.length_map] at h
      match l,h with
      | [],_=>rfl
      | [_],_=>rfl
  · rw [if_neg h]
    cases hn : nums (cuts 32 1 b) with
    | none=>exact .inl ⟨rfl,rfl⟩
    | some l =>
      obtain ⟨h1,h2⟩:=nums_some hn
      rw [h1,List.length_map] at h hl
      match l,h,hl with
      | [p,n],_,_=>exact .inr ⟨p,n,rfl,rfl,h2 p (by simp),h2 n (by simp)⟩
      | [],h,_=>exact absurd (by simp) h
      | [_],h,_=>exact absurd (by simp) h
      | _::_::_::_,_,hl=>simp at hl
def ManyPost (o : Option (List Int)) (w : World) (e : Ending) (w' : World) : Prop :=
  ∃ v,e = .returned (.tuple #[v,.bool o.isSome])∧(∀ l,o=some l→Sl w.heap.size w' 1 v l.length (iv l))∧Below w.heap.size w w'
theorem ev_many (s : ByteArray) (m : Nat) (z : Int) (hz : z=m) (h1 : 1≤m) (h2 : m≤10) (w : World) (he : EnvW w) (hs : s.size≤1000000) :
    Calls Tryz.prog 73 #[.string s,.int .i64 z] w (ManyPost (manyOf m s.data.toList) w):=by
  have hsl : s.data.toList.length=s.size:=by simp
  obtain ⟨hcl,hcx⟩:=cuts_lim 32 (m - 1) s.data.toList
  rw [hsl] at hcx
  have HS:=fun w he=>Lib.hid (li_splitk s m z hz h1 (by omega) w hs he)
  obtain ⟨o,ho⟩ : ∃ o,manyOf m s.data.toList=o:=⟨_,rfl⟩
  rw [ho]
  unfold manyOf at ho
  generalize cuts 32 (m - 1) s.data.toList=L at *
  subst hz
  go_enter Tryz.func73,Tryz.ntmps73
  go_wp2_with (go_at_call 125;refine (HS _ he).out.mono ?_)
  rintro e w1 ⟨g,c,ws,rfl,hL,hR,hc,hcm,hg,hb1⟩
  have hwl : ws.length=L.length:=by rw [← hL,List.length_map]
  have hcn : ws.length≤1000:=by omega
  have hcs : ∀ x∈ws,x.size≤1000000:=fun x hx=>by
    have:=hcx x.data.toList (by rw [← hL];exact List.mem_map_of_mem hx)
    simp at this
    have e : x.data.size=x.size:=rfl
    omega
  have HN:=fun w he hr=>Lib.hid (cf_numbers (some ⟨g,0,none⟩) ws.length c ws w he hr rfl hcn hcs)
  rw [show bl ws=L from hL] at HN
  by_cases hlt : L.length<m
  · rw [if_pos hlt] at ho
    subst ho
    rw [← hwl] at hlt
    clear hcl hcx hL HN hcs hwl
    go_wp2
    go_ret2
    exact ⟨_,rfl,(fun l h=>nomatch h),hb1⟩
  · rw [if_neg hlt] at ho
    rw [← hwl] at hlt
    clear hcl hcx hL hcs hwl
    have he1:=he.on hb1
    rw [ho] at HN
    go_wp2_with (first|(go_at_call 126;(with_reducible refine (HN _ he1 hR).out.mono ?_);rintro e w2 ⟨v,rfl,hv,hb2⟩))
    go_ret2
    exact ⟨_,rfl,fun l h=>by subst h;exact hv.base hb1.size,on_below hb1 hb2⟩
def evo : Option Ev→Value
  | some v=>evv v
  | none=>.nilIface
def ElPost (x? : Option (List UInt8)) (late : Bool) (s : List UInt8) (w : World) (e : Ending) (w' : World) : Prop :=
  ∃ U,Reads x? U∧e = .returned (.tuple #[evo (rel U late s),.bool (rel U late s).isSome])∧Below w.heap.size w w'∧∀ v,rel U late s=some v→(etext v).length≤s.length∨x? = some (etext v)
theorem rel_ways (late : Bool) (b : List UInt8) : ((cuts 32 3 b).length≤3∧∀ U,rel U late b=none)∨∃ a1 a2 a3 q,cuts 32 3 b=[a1,a2,a3,q] ∧
    ((nums [a1,a2,a3]=none∧∀ U,rel U late b=none)∨∃ p k t,nums [a1,a2,a3]=some [p,k,t]∧in64 p∧in64 k∧in64 t∧∀ U,rel U late b=(U q).map fun x=>.el late p k t x):=by
  have hl:=(cuts_lim 32 3 b).1
  have hr : ∀ U,rel U late b=match cuts 32 3 b with
    | [a1,a2,a3,q]=>match nums [a1,a2,a3],U q with
      | some [p,k,t],some x=>some (.el late p k t x)
      | _,_=>none
    | _=>none:=fun _=>rfl
  generalize cuts 32 3 b=L at *
  match L,hl with
  | [],_=>exact .inl ⟨by simp,fun U=>by rw [hr]⟩
  | [_],_=>exact .inl ⟨by simp,fun U=>by rw [hr]⟩
  | [_,_],_=>exact .inl ⟨by simp,fun U=>by rw [hr]⟩
  | [_,_,_],_=>exact .inl ⟨by simp,fun U=>by rw [hr]⟩
  | [a1,a2,a3,q],_ =>
    refine .inr ⟨a1,a2,a3,q,rfl,?_⟩
    cases hn : nums [a1,a2,a3] with
    | none=>exact .inl ⟨rfl,fun U=>by rw [hr];simp only [hn]⟩
    | some l =>
      obtain ⟨h1,h2⟩:=nums_some hn
      match l,h1,h2 with
      | [p,k,t],_,h2 =>
        refine .inr ⟨p,k,t,rfl,h2 p (by simp),h2 k (by simp),h2 t (by simp),fun U=>?_⟩
        rw [hr]
        simp only [hn]
        cases U q <;> rfl
  | _::_::_::_::_::_,hl=>simp at hl
theorem bstr_of {s : ByteArray} {l : List UInt8} (h : s.data.toList=l) : s=bstr l:=by subst h;rfl
theorem four_of {ws : List ByteArray} {a b c d : List UInt8} (h : ws.map (·.data.toList)=[a,b,c,d]) : ws=[bstr a,bstr b,bstr c,bstr d]:=by
  match ws,h with
  | [w1,w2,w3,w4],h =>
    simp only [List.map_cons,List.map_nil,List.cons.injEq,and_true] at h
    obtain ⟨h1,h2,h3,h4⟩:=h
    rw [bstr_of h1,bstr_of h2,bstr_of h3,bstr_of h4]
theorem one_cell_e : ∀ w : World,(Go.sizeOf 9).run Tryz.prog w = .ok 1 w:=Tryz.sizeOf9
theorem three_ints {B : Nat} {w : World} {v : Value} {p k t : Int} (h : Sl B w 1 v 3 (iv [p,k,t])) : ∃ (g o c : Nat),v = .slice (some ⟨g,o,none⟩) 3 c∧3≤c∧g<w.heap.size∧w.cell? ⟨g,o,none⟩=some (.int .i64 p)∧w.cell? ⟨g,o+1,none⟩=some (.int .i64 k)∧w.cell? ⟨g,o+2,none⟩=some (.int .i64 t):=by
  rcases h.2 with ⟨rfl,h0⟩|⟨g,off,cap,rfl,hb,hg,h1,h2,h3,h4⟩
  · cases h0
  · exact ⟨g,off,cap,rfl,h1,hg,h3 0 (by decide),h3 1 (by decide),h3 2 (by decide)⟩
theorem ev_el (x? : Option (List UInt8)) (hx : ∀ x,x? = some x→x.length≤4096) (s : ByteArray) (late : Bool) (w : World) (he : EnvE w) (hs : s.size≤1000000)
    (hq : ∀ a1 a2 a3 q,cuts 32 3 s.data.toList=[a1,a2,a3,q]→q.length≤4096∨∃ x,x? = some x∧q=quote x) :
    Calls Tryz.prog 72 #[.string s,.bool late] w (ElPost x? late s.data.toList w):=by
  have hsl : s.data.toList.length=s.size:=by simp
  have hcx:=(cuts_lim 32 3 s.data.toList).2
  rw [hsl] at hcx
  have HS:=fun w he=>Lib.hid (li_splitk s 4 4 rfl (by decide) (by decide) w hs he)
  rcases rel_ways late s.data.toList with ⟨hL3,hR⟩|⟨a1,a2,a3,q,hc4,hW⟩
  · have HR:=Lib.hid hR
    clear hR hq hcx hx
    go_enter Tryz.func72,Tryz.ntmps72
    go_wp2_with (go_at_call 125;refine (HS _ he.wd).out.mono ?_)
    rintro e w1 ⟨g,c,ws,rfl,hL,hRow,hc,hcm,hg,hb1⟩
    have hwl : ws.length≤3:=by
      rw [← hL,List.length_map] at hL3
      exact hL3
    clear hL3 hL
    go_wp2
    go_ret2
    exact ⟨Uof x?,⟨fun q y h=>(uof_snd h).1,fun y h=>by subst h;exact uof_all y⟩,by rw [HR.out];rfl,hb1,fun v h=>by rw [HR.out] at h;cases h⟩
  · have hqq:=hq a1 a2 a3 q hc4
    rw [hc4] at hcx
    rw [show 4 - 1=3 from rfl,hc4] at HS
    have h1:=hcx a1 (by simp)
    have h2:=hcx a2 (by simp)
    have h3:=hcx a3 (by simp)
    have h4:=hcx q (by simp)
    clear hcx hq hc4
    have HU : ∀ w',EnvE w'→Hid (Calls Tryz.prog 127 #[.string (bstr q)] w' (UnqU x? (bstr q) w')):=fun w' h=>unq_is x? hx (bstr q) w' h.qu (by rw [bstr_len];exact hqq)
    clear hqq hx
    have HN:=fun w (he : EnvW w) g c (hr : RowS w (some ⟨g,0,none⟩) [bstr a1,bstr a2,bstr a3])=>Lib.hid (cf_numbers (some ⟨g,0,none⟩) 3 c [bstr a1,bstr a2,bstr a3] w he hr rfl (by simp) (by
      intro x hx
      simp only [List.mem_cons,List.not_mem_nil,or_false] at hx
      rcases hx with rfl|rfl|rfl <;> rw [bstr_len] <;> omega))
    rw [show bl [bstr a1,bstr a2,bstr a3]=[a1,a2,a3] from rfl] at HN
    have HQL : Hid (q.length≤s.data.toList.length):=by rw [hsl];exact h4
    clear h1 h2 h3 h4 hsl
    rcases hW with ⟨hn,hR⟩|⟨p,k,t,hn,hp,hk,ht,hR⟩
    · rw [hn] at HN
      have HR:=Lib.hid hR
      clear hR hn
      go_enter Tryz.func72,Tryz.ntmps72
      go_wp2_with (go_at_call 125;refine (HS _ he.wd).out.mono ?_)
      rintro e w1 ⟨g,c,ws,rfl,hL,hRow,hc,hcm,hg,hb1⟩
      obtain rfl:=four_of hL
      have hru:=fun w'=>rows_to (P:=Tryz.prog) (a:=some ⟨g,0,none⟩) (n:=4) (c:=c) hc (by unfold maxLen;omega) Tryz.underlying25 one_cell_e 3 3 rfl (by decide) w'
      have he1:=he.on hb1
      have hr3 : RowS w1 (some ⟨g,0,none⟩) [bstr a1,bstr a2,bstr a3]:=hRow.take 3
      have hc4:=fun w' (h : RowS w' (some ⟨g,0,none⟩) [bstr a1,bstr a2,bstr a3,bstr q])=>h.cell 3 (by simp)
      simp only [Nat.zero_add,List.getElem_cons_succ,List.getElem_cons_zero] at hc4
      have HROW:=Lib.hid hRow
      have HC4:=Lib.hid hc4
      clear hL hc hcm hRow hc4
      go_wp2_with (first|(go_at_call 126;(with_reducible refine (HN _ he1.wd g c hr3).out.mono ?_);rintro e w2 ⟨v,rfl,hv,hb2⟩;have he2:=he1.on hb2;obtain ⟨hgl,hcell⟩:=HC4.out _ (HROW.out.below hb2))|(go_at_call 127;(with_reducible refine (HU _ he2).out.mono ?_);rintro e w3 ⟨U,hRd,rfl,hb3,hlen⟩))
      go_ret2
      exact ⟨U,hRd,by rw [HR.out];rfl,on_below (on_below hb1 hb2) hb3,fun v h=>by rw [HR.out] at h;cases h⟩
    · rw [hn] at HN
      have HR:=Lib.hid hR
      clear hR hn
      go_enter Tryz.func72,Tryz.ntmps72
      go_wp2_with (go_at_call 125;refine (HS _ he.wd).out.mono ?_)
      rintro e w1 ⟨g,c,ws,rfl,hL,hRow,hc,hcm,hg,hb1⟩
      obtain rfl:=four_of hL
      have hru:=fun w'=>rows_to (P:=Tryz.prog) (a:=some ⟨g,0,none⟩) (n:=4) (c:=c) hc (by unfold maxLen;omega) Tryz.underlying25 one_cell_e 3 3 rfl (by decide) w'
      have he1:=he.on hb1
      have hr3 : RowS w1 (some ⟨g,0,none⟩) [bstr a1,bstr a2,bstr a3]:=hRow.take 3
      have hc4:=fun w' (h : RowS w' (some ⟨g,0,none⟩) [bstr a1,bstr a2,bstr a3,bstr q])=>h.cell 3 (by simp)
      simp only [Nat.zero_add,List.getElem_cons_succ,List.getElem_cons_zero] at hc4
      have HROW:=Lib.hid hRow
      have HC4:=Lib.hid hc4
      clear hL hc hcm hRow hc4
      go_wp2_with (go_at_call 126;refine (HN _ he1.wd g c hr3).out.mono ?_)
      rintro e w2 ⟨v,rfl,hv,hb2⟩
      have he2:=he1.on hb2
      obtain ⟨hgl,hcell⟩:=HC4.out _ (HROW.out.below hb2)
      go_wp2_with (go_at_call 127;refine (HU _ he2).out.mono ?_)
      rintro e w3 ⟨U,hRd,rfl,hb3,hlen⟩
      have hv3 : Sl w1.heap.size w3 1 v 3 (iv [p,k,t]):=hv.onW hb3
      obtain ⟨g4,o4,c4,rfl,hc34,hg4,m0,m1,m2⟩:=three_ints hv3
      have HLN:=Lib.hid hlen
      clear hlen
      cases hu : U q with
      | none =>
        have HU2:=Lib.hid hu
        clear hu hv hv3
        go_wp2
        go_ret2
        exact ⟨U,hRd,by rw [HR.out,HU2.out];rfl,on_below (on_below hb1 hb2) hb3,fun v h=>by rw [HR.out,HU2.out] at h;cases h⟩
      | some x =>
        have HU2:=Lib.hid hu
        clear hu hv hv3
        go_wp2
        go_quiet (fail)
        go_wp2
        go_ret2
        exact ⟨U,hRd,by rw [HR.out,HU2.out];rfl,below_drewN (on_below (on_below hb1 hb2) hb3) _,fun v h=>by
          rw [HR.out,HU2.out] at h
          cases h
          exact (HLN.out x HU2.out).imp (fun hx=>by rw [bstr_len] at hx;show x.length≤_;have:=HQL.out;omega) id⟩
def EvPost (x? : Option (List UInt8)) (s : List UInt8) (w : World) (e : Ending) (w' : World) : Prop :=
  ∃ U,Reads x? U∧e = .returned (.tuple #[evo (eread U s),.bool (eread U s).isSome])∧Below w.heap.size w w'∧∀ v,eread U s=some v→(etext v).length≤s.length∨x? = some (etext v)
theorem one_ints {B : Nat} {w : World} {v : Value} {p : Int} (h : Sl B w 1 v 1 (iv [p])) : ∃ (g o c : Nat),v = .slice (some ⟨g,o,none⟩) 1 c∧1≤c∧g<w.heap.size∧w.cell? ⟨g,o,none⟩=some (.int .i64 p):=by
  rcases h.2 with ⟨rfl,h0⟩|⟨g,off,cap,rfl,hb,hg,h1,h2,h3,h4⟩
  · cases h0
  · exact ⟨g,off,cap,rfl,h1,hg,h3 0 (by decide)⟩
theorem two_ints {B : Nat} {w : World} {v : Value} {p k : Int} (h : Sl B w 1 v 2 (iv [p,k])) : ∃ (g o c : Nat),v = .slice (some ⟨g,o,none⟩) 2 c∧2≤c∧g<w.heap.size∧w.cell? ⟨g,o,none⟩=some (.int .i64 p)∧w.cell? ⟨g,o+1,none⟩=some (.int .i64 k):=by
  rcases h.2 with ⟨rfl,h0⟩|⟨g,off,cap,rfl,hb,hg,h1,h2,h3,h4⟩
  · cases h0
  · exact ⟨g,off,cap,rfl,h1,hg,h3 0 (by decide),h3 1 (by decide)⟩
theorem cut_le (l : List UInt8) : (Lib.cut l [32]).2.1.length≤l.length:=by
  by_cases h : (32 : UInt8)∈l
  · obtain ⟨a,b,rfl,ha⟩:=part_at 32 l h
    rw [cut_some 32 a b ha]
    simp
    omega
  · rw [cut_none 32 l h]
    simp
theorem eread_el (U : List UInt8→Option (List UInt8)) {s b : List UInt8} {y : Bool} (h : Lib.cut s [32]=(tElement,b,y)) : eread U s=rel U false b:=by unfold eread;rw [h];exact rd2_el U b
theorem eread_late (U : List UInt8→Option (List UInt8)) {s b : List UInt8} {y : Bool} (h : Lib.cut s [32]=(tLate,b,y)) : eread U s=rel U true b:=by unfold eread;rw [h];exact rd2_late U b
theorem eread_mark (U : List UInt8→Option (List UInt8)) {s b : List UInt8} {y : Bool} (h : Lib.cut s [32]=(tMark,b,y)) : eread U s=rmark b:=by unfold eread;rw [h];exact rd2_mark U b
theorem eread_fault (U : List UInt8→Option (List UInt8)) {s b : List UInt8} {y : Bool} (h : Lib.cut s [32]=(tFault,b,y)) : eread U s=rfault b:=by unfold eread;rw [h];exact rd2_fault U b
theorem eread_other (U : List UInt8→Option (List UInt8)) {s a b : List UInt8} {y : Bool} (h : Lib.cut s [32]=(a,b,y)) (h1 : a≠tElement) (h2 : a≠tLate) (h3 : a≠tMark) (h4 : a≠tFault) : eread U s=none:=by
  unfold eread;rw [h];unfold rd2;rw [if_neg h1,if_neg h2,if_neg h3,if_neg h4]
theorem reads_uof (x? : Option (List UInt8)) : Reads x? (Uof x?):=⟨fun q y h=>(uof_snd h).1,fun y h=>by subst h;exact uof_all y⟩
theorem ev_read (x? : Option (List UInt8)) (hx : ∀ x,x? = some x→x.length≤4096) (s : ByteArray) (w : World) (he : EnvE w) (hs : s.size≤1000000)
    (hq : ∀ a1 a2 a3 q,cuts 32 3 (Lib.cut s.data.toList [32]).2.1=[a1,a2,a3,q]→q.length≤4096∨∃ x,x? = some x∧q=quote x) :
    Calls Tryz.prog 29 #[.string s] w (EvPost x? s.data.toList w):=by
  have hsl : s.data.toList.length=s.size:=by simp
  have hcl:=cut_le s.data.toList
  have HC:=Lib.hid (li_cut s w hs he.wd)
  obtain ⟨a,b,y,hcut⟩ : ∃ a b y,Lib.cut s.data.toList [32]=(a,b,y):=⟨_,_,_,rfl⟩
  rw [hcut] at hcl hq HC
  simp only at hcl hq HC
  have hbl : (bstr b).size≤1000000:=by rw [bstr_len];omega
  have hEL : ∀ (late : Bool) w',EnvE w'→Hid (Calls Tryz.prog 72 #[.string (bstr b),.bool late] w' (ElPost x? late b w')):=fun late w' h=>ev_el x? hx (bstr b) late w' h hbl hq
  have HCL:=Lib.hid hcl
  by_cases k0 : a=tElement
  · subst k0
    have HE:=Lib.hid (fun U=>eread_el U hcut)
    clear hcut hcl hq hx hbl hsl
    go_enter Tryz.func29,Tryz.ntmps29
    go_wp2_with (first|(go_at_call 41;(with_reducible refine HC.out.mono ?_);rintro e w1 ⟨t1,rfl,hb1⟩;have he1:=he.on hb1)|(go_at_call 72;(with_reducible refine (hEL _ _ he1).out.mono ?_);rintro e w2 ⟨U,hRd,rfl,hb2,hlen⟩))
    go_ret2
    exact ⟨U,hRd,(by rw [HE.out U];rfl),on_below hb1 hb2,fun v h=>by rw [HE.out U] at h;exact (hlen v h).imp (fun hx=>Nat.le_trans hx HCL.out) id⟩
  by_cases k1 : a=tLate
  · subst k1
    have HE:=Lib.hid (fun U=>eread_late U hcut)
    clear hcut hcl hq hx hbl hsl k0
    go_enter Tryz.func29,Tryz.ntmps29
    go_wp2_with (first|(go_at_call 41;(with_reducible refine HC.out.mono ?_);rintro e w1 ⟨t1,rfl,hb1⟩;have he1:=he.on hb1)|(go_at_call 72;(with_reducible refine (hEL _ _ he1).out.mono ?_);rintro e w2 ⟨U,hRd,rfl,hb2,hlen⟩))
    go_ret2
    exact ⟨U,hRd,(by rw [HE.out U];rfl),on_below hb1 hb2,fun v h=>by rw [HE.out U] at h;exact (hlen v h).imp (fun hx=>Nat.le_trans hx HCL.out) id⟩
  by_cases k2 : a=tMark
  · subst k2
    have HE:=Lib.hid (fun U=>eread_mark U hcut)
    have HM:=fun w' h=>Lib.hid (ev_many (bstr b) 1 1 rfl (by decide) (by decide) w' h hbl)
    rw [show (bstr b).data.toList=b from rfl] at HM
    clear hcut hcl hq hx hbl hsl k0 k1 hEL
    rcases many_one b with ⟨hm,hr⟩|⟨n,hm,hr,hn⟩
    · rw [hm] at HM
      have HR:=Lib.hid hr
      clear hm hr
      go_enter Tryz.func29,Tryz.ntmps29
      go_wp2_with (first|(go_at_call 41;(with_reducible refine HC.out.mono ?_);rintro e w1 ⟨t1,rfl,hb1⟩;have he1:=he.on hb1)|(go_at_call 73;(with_reducible refine (HM _ he1.wd).out.mono ?_);rintro e w2 ⟨v,rfl,hv,hb2⟩))
      go_ret2
      exact ⟨Uof x?,reads_uof x?,by rw [HE.out,HR.out];rfl,on_below hb1 hb2,fun v h=>by rw [HE.out,HR.out] at h;cases h <;> exact .inl (Nat.zero_le _)⟩
    · rw [hm] at HM
      have HR:=Lib.hid hr
      clear hm hr
      go_enter Tryz.func29,Tryz.ntmps29
      go_wp2_with (first|(go_at_call 41;(with_reducible refine HC.out.mono ?_);rintro e w1 ⟨t1,rfl,hb1⟩;have he1:=he.on hb1)|(go_at_call 73;(with_reducible refine (HM _ he1.wd).out.mono ?_);rintro e w2 ⟨v,rfl,hv,hb2⟩;obtain ⟨g4,o4,c4,rfl,hc34,hg4,m0⟩:=one_ints (hv _ rfl)))
      go_ret2
      exact ⟨Uof x?,reads_uof x?,by rw [HE.out,HR.out];rfl,on_below hb1 hb2,fun v h=>by rw [HE.out,HR.out] at h;cases h <;> exact .inl (Nat.zero_le _)⟩
  by_cases k3 : a=tFault
  · subst k3
    have HE:=Lib.hid (fun U=>eread_fault U hcut)
    have HM:=fun w' h=>Lib.hid (ev_many (bstr b) 2 2 rfl (by decide) (by decide) w' h hbl)
    rw [show (bstr b).data.toList=b from rfl] at HM
    clear hcut hcl hq hx hbl hsl k0 k1 k2 hEL
    rcases many_two b with ⟨hm,hr⟩|⟨p,n,hm,hr,hp,hn⟩
    · rw [hm] at HM
      have HR:=Lib.hid hr
      clear hm hr
      go_enter Tryz.func29,Tryz.ntmps29
      go_wp2_with (first|(go_at_call 41;(with_reducible refine HC.out.mono ?_);rintro e w1 ⟨t1,rfl,hb1⟩;have he1:=he.on hb1)|(go_at_call 73;(with_reducible refine (HM _ he1.wd).out.mono ?_);rintro e w2 ⟨v,rfl,hv,hb2⟩))
      go_ret2
      exact ⟨Uof x?,reads_uof x?,by rw [HE.out,HR.out];rfl,on_below hb1 hb2,fun v h=>by rw [HE.out,HR.out] at h;cases h <;> exact .inl (Nat.zero_le _)⟩
    · rw [hm] at HM
      have HR:=Lib.hid hr
      clear hm hr
      go_enter Tryz.func29,Tryz.ntmps29
      go_wp2_with (first|(go_at_call 41;(with_reducible refine HC.out.mono ?_);rintro e w1 ⟨t1,rfl,hb1⟩;have he1:=he.on hb1)|(go_at_call 73;(with_reducible refine (HM _ he1.wd).out.mono ?_);rintro e w2 ⟨v,rfl,hv,hb2⟩;obtain ⟨g4,o4,c4,rfl,hc34,hg4,m0,m1⟩:=two_ints (hv _ rfl)))
      go_quiet (fail)
      go_wp2
      go_ret2
      exact ⟨Uof x?,reads_uof x?,by rw [HE.out,HR.out];rfl,below_drewN (on_below hb1 hb2) _,fun v h=>by rw [HE.out,HR.out] at h;cases h;exact .inl (Nat.zero_le _)⟩
  have HE:=Lib.hid (fun U=>eread_other U hcut k0 k1 k2 k3)
  have e0 : (a == [101,108,101,109,101,110,116])=false:=by rw [beq_eq_false_iff_ne];exact k0
  have e1 : (a == [108,97,116,101])=false:=by rw [beq_eq_false_iff_ne];exact k1
  have e2 : (a == [109,97,114,107])=false:=by rw [beq_eq_false_iff_ne];exact k2
  have e3 : (a == [102,97,117,108,116])=false:=by rw [beq_eq_false_iff_ne];exact k3
  clear hcut hcl hq hx hbl hsl k0 k1 k2 k3 hEL
  go_enter Tryz.func29,Tryz.ntmps29
  go_wp2_with (first|(go_at_call 41;(with_reducible refine HC.out.mono ?_);rintro e w1 ⟨t1,rfl,hb1⟩;have he1:=he.on hb1))
  go_ret2
  exact ⟨Uof x?,reads_uof x?,by rw [HE.out];rfl,hb1,fun v h=>by rw [HE.out] at h;cases h⟩
theorem tx_lets (a b : List UInt8) (h : a.length+b.length≤9223372036854775807) : ∃ t,bstr (a++b)=t∧∀ w,(Op.stringOp .add (bstr a) (bstr b)).run Tryz.prog w = .ok (.string t) w:=⟨_,rfl,fun w=>tx_run w a b h⟩
theorem eline_el (late : Bool) (p k t : Int) (x : List UInt8) : eline (.el late p k t x)=elName late++[32]++itoa p++[32]++itoa k++[32]++itoa t++[32]++quote x:=by simp [eline,lineOf,glue]
theorem eline_mark (n : Int) : eline (.mark n)=[109,97,114,107,32]++itoa n:=by simp [eline,lineOf,glue]
theorem eline_fault (p e : Int) : eline (.fault p e)=[102,97,117,108,116,32]++itoa p++[32]++itoa e:=by simp [eline,lineOf,glue]
end Go.Proofs.YtmimfkhkilijcaaGreatDoor
