/- KWord; KLibW: what is reached of them. -/
import Derived.Test.YtmimfkhkilijcaaGreatDoorPq09
import Derived.Lib.AtoiAll
import Derived.Lib.AtoiAllCases
import Derived.Lib.ItoaNum
import Derived.Lib.ItoaLen
import Derived.Lib.ItoaMem
import Derived.Lib.Split
import Derived.Lib.SplitLaws
import Derived.Lib.IndexBytes
import Derived.Lib.IndexMore
import Derived.Test.YtmimfkhkilijcaaGreatDoorPq01
import Derived.Test.YtmimfkhkilijcaaGreatDoorPq25
import Derived.WalkKit
import Derived.ProofKit
import Derived.OpenShut
import Derived.Handy
import Derived.BigQuiet
import Derived.Deep.QuietTactic
import Derived.IntWalk
import Derived.Outline
import Derived.Lib.Hide
import Derived.WalkLawsBesides
import Derived.Deep.RegionWith
import Derived.Deep.RegionHeld3
import Derived.Test.YtmimfkhkilijcaaGreatDoorPq02
import Derived.Lib.AppendIntMem
import Derived.Lib.Join
set_option linter.unusedVariables false
set_option linter.unusedSimpArgs false
set_option maxRecDepth 100000
set_option maxHeartbeats 8000000
namespace Go.Proofs.YtmimfkhkilijcaaGreatDoor.PWord
open Go.Lib
open Go.Proofs.YtmimfkhkilijcaaGreatDoor
theorem digit_val {d : Nat} (h : d<10) : (UInt8.ofNat (48+d)).toNat=48+d:=by
  rw [UInt8.toNat_ofNat']
  omega
theorem dec_digit (u : Nat) : ∀ c∈decDigits u,48≤c.toNat∧c.toNat≤57:=by
  induction u using Nat.strongRecOn with
  | _ u ih =>
    intro c hc
    rw [decDigits] at hc
    split at hc
    · rename_i h
      rw [List.mem_singleton] at hc
      subst hc
      rw [digit_val h]
      omega
    · rename_i h
      rcases List.mem_append.1 hc with hc|hc
      · exact ih (u / 10) (by omega) c hc
      · rw [List.mem_singleton] at hc
        subst hc
        rw [digit_val (by omega)]
        omega
theorem dec_ne (u : Nat) : decDigits u≠[]:=by
  rw [decDigits]
  split <;> simp
theorem parse_snoc : ∀ (l : List UInt8) (acc m d : Nat),parseUint10 acc l = .ok m→d<10→m*10+d<18446744073709551616→parseUint10 acc (l++[UInt8.ofNat (48+d)]) = .ok (m*10+d)
  | [],acc,m,d,h,hd,hm=>by
    have e : acc=m:=by simpa [parseUint10] using h
    subst e
    show parseUint10 acc [UInt8.ofNat (48+d)]=_
    unfold parseUint10
    rw [digit_val hd,if_pos (by omega),if_neg (by omega),if_neg (by omega)]
    unfold parseUint10
    congr 1
    omega
  | c::r,acc,m,d,h,hd,hm=>by
    show parseUint10 acc (c::(r++[UInt8.ofNat (48+d)]))=_
    unfold parseUint10 at h ⊢
    split at h
    · rename_i h1
      rw [if_pos h1]
      split at h
      · cases h
      · rename_i h2
        rw [if_neg h2]
        split at h
        · cases h
        · rename_i h3
          rw [if_neg h3]
          exact parse_snoc r _ m d h hd hm
    · cases h
theorem parse_dec (u : Nat) (hu : u<18446744073709551616) : parseUint10 0 (decDigits u) = .ok u:=by
  induction u using Nat.strongRecOn with
  | _ u ih =>
    rw [decDigits]
    split
    · rename_i h
      have:=parse_snoc [] 0 0 u rfl h (by omega)
      simpa using this
    · rename_i h
      have:=parse_snoc _ 0 (u / 10) (u % 10) (ih (u / 10) (by omega) (by omega)) (by omega) (by omega)
      rw [this]
      congr 1
      omega
theorem mag_dec (u : Nat) (hu : u<18446744073709551616) : parseMag (decDigits u) = .ok u:=by
  unfold parseMag
  rw [if_neg (dec_ne u),parse_dec u hu]
theorem atoi_itoa (n : Int) (h : in64 n) : atoiAll (itoa n) = .ok n:=by
  obtain ⟨h0,h1⟩:=h
  unfold itoa
  by_cases hn : n<0
  · rw [if_pos hn,atoiAll_minus,mag_dec n.natAbs (by omega)]
    unfold signed
    simp only
    rw [if_neg (by omega)]
    congr 1
    omega
  · rw [if_neg hn]
    obtain ⟨c,r,hc⟩ : ∃ c r,decDigits n.toNat=c::r:=by
      cases h : decDigits n.toNat with
      | nil=>exact absurd h (dec_ne _)
      | cons c r=>exact ⟨c,r,rfl⟩
    have hd:=dec_digit n.toNat c (by rw [hc];simp)
    have hm:=mag_dec n.toNat (by omega)
    rw [hc] at hm ⊢
    rw [atoiAll_plain c r (by omega) (by omega),hm]
    unfold signless
    simp only
    rw [if_neg (by omega)]
    congr 1
    omega
def numOf (l : List UInt8) : Option Int :=
  match atoiAll l with
  | .ok n=>if itoa n=l then some n else none
  | _=>none
theorem numOf_itoa (n : Int) (h : in64 n) : numOf (itoa n)=some n:=by
  unfold numOf
  rw [atoi_itoa n h]
  simp
theorem numOf_some {l : List UInt8} {n : Int} (h : numOf l=some n) : itoa n=l∧in64 n:=by
  unfold numOf at h
  split at h
  · rename_i m hm
    split at h
    · rename_i he
      cases h
      exact ⟨he,atoiAll_bounds hm⟩
    · cases h
  · cases h
theorem itoa_char (n : Int) : ∀ c∈itoa n,c.toNat=45∨(48≤c.toNat∧c.toNat≤57):=by
  intro c hc
  unfold itoa at hc
  split at hc
  · rcases List.mem_cons.1 hc with rfl|hc
    · exact .inl rfl
    · exact .inr (dec_digit _ _ hc)
  · exact .inr (dec_digit _ _ hc)
theorem itoa_32 (n : Int) : (32 : UInt8)∉itoa n:=fun h=>by have:=itoa_char n _ h;revert this;decide
theorem itoa_10 (n : Int) : (10 : UInt8)∉itoa n:=fun h=>by have:=itoa_char n _ h;revert this;decide
theorem itoa_len {n : Int} (h : in64 n) : (itoa n).length≤21:=itoa_length_le n h.1 h.2
def nums : List (List UInt8)→Option (List Int)
  | []=>some []
  | w::ws=>match numOf w with
    | none=>none
    | some n=>(nums ws).map (n :: ·)
theorem nums_cons (w : List UInt8) (ws : List (List UInt8)) : nums (w::ws)=match numOf w with
    | none=>none
    | some n=>(nums ws).map (n :: ·):=rfl
theorem nums_some : ∀ {ws : List (List UInt8)} {l : List Int},nums ws=some l→ws=l.map itoa∧∀ n∈l,in64 n
  | [],l,h=>by cases h;exact ⟨rfl,by simp⟩
  | w::ws,l,h=>by
    unfold nums at h
    split at h
    · cases h
    · rename_i n hn
      obtain ⟨r,hr,rfl⟩:=Option.map_eq_some_iff.1 h
      obtain ⟨e,hb⟩:=nums_some hr
      obtain ⟨e1,h1⟩:=numOf_some hn
      refine ⟨by simp [← e,e1],fun m hm=>?_⟩
      rcases List.mem_cons.1 hm with rfl|hm
      · exact h1
      · exact hb m hm
theorem nums_map : ∀ (l : List Int),(∀ n∈l,in64 n)→nums (l.map itoa)=some l
  | [],_=>rfl
  | n::l,h=>by
    show nums (itoa n::l.map itoa)=_
    unfold nums
    rw [numOf_itoa n (h n (by simp))]
    simp [nums_map l (fun m hm=>h m (by simp [hm]))]
theorem nums_append : ∀ (a b : List (List UInt8)),nums (a++b)=(nums a).bind fun x=>(nums b).map (x ++ ·)
  | [],b=>by simp [nums]
  | w::a,b=>by
    rw [List.cons_append,nums_cons,nums_cons]
    cases h : numOf w with
    | none=>rfl
    | some n =>
      simp only
      rw [nums_append a b]
      cases nums a with
      | none=>rfl
      | some x=>cases nums b with
        | none=>rfl
        | some y=>rfl
theorem index_in (c : UInt8) : ∀ (a b : List UInt8),c∉a→index (a++c::b) [c]=a.length
  | [],b,_=>by
    rw [index_one]
    show indexByte (c::b) c=_
    unfold indexByte
    simp
  | x::a,b,h=>by
    have hx : x≠c:=fun e=>h (by simp [e])
    have ha : c∉a:=fun e=>h (by simp [e])
    have ih:=index_in c a b ha
    rw [index_one] at ih ⊢
    show indexByte (x::(a++c::b)) c=_
    unfold indexByte
    rw [ih]
    have e1 : (x == c)=false:=by simpa using hx
    have e2 : ((a.length : Int) == -1)=false:=by simp
    rw [e1,e2]
    simp
theorem index_out (c : UInt8) : ∀ (a : List UInt8),c∉a→index a [c] = -1
  | [],_=>by rw [index_one];rfl
  | x::a,h=>by
    have hx : x≠c:=fun e=>h (by simp [e])
    have ha : c∉a:=fun e=>h (by simp [e])
    have ih:=index_out c a ha
    rw [index_one] at ih ⊢
    unfold indexByte
    rw [ih]
    have e1 : (x == c)=false:=by simpa using hx
    rw [e1]
    simp
theorem part_at (c : UInt8) : ∀ (l : List UInt8),c∈l→∃ a b,l=a++c::b∧c∉a
  | [],h=>by cases h
  | x::l,h=>by
    by_cases e : x=c
    · exact ⟨[],l,by simp [e],by simp⟩
    · have hl : c∈l:=by
        rcases List.mem_cons.1 h with h|h
        · exact absurd h.symm e
        · exact h
      obtain ⟨a,b,rfl,ha⟩:=part_at c l hl
      refine ⟨x::a,b,rfl,fun hm=>?_⟩
      rcases List.mem_cons.1 hm with hm|hm
      · exact e hm.symm
      · exact ha hm
abbrev cuts (c : UInt8) (k : Nat) (l : List UInt8) : List (List UInt8):=splitK [c] 0 k l
theorem cuts_none (c : UInt8) (k : Nat) (a : List UInt8) (h : c∉a) : cuts c k a=[a]:=by
  cases k with
  | zero=>rfl
  | succ k =>
    show splitK [c] 0 (k+1) a=_
    unfold splitK
    rw [index_out c a h]
    rfl
theorem cuts_succ (c : UInt8) (k : Nat) (l : List UInt8) : cuts c (k+1) l=if index l [c] == -1 then [l] else l.take ((index l [c]).toNat+0)::cuts c k (l.drop ((index l [c]).toNat+[c].length)):=rfl
theorem cuts_some (c : UInt8) (k : Nat) (a b : List UInt8) (h : c∉a) : cuts c (k+1) (a++c::b)=a::cuts c k b:=by
  rw [cuts_succ,index_in c a b h]
  have e : ((a.length : Int) == -1)=false:=by simp
  rw [e]
  have e1 : (a++c::b).take ((a.length : Int).toNat+0)=a:=by simp
  have e2 : (a++c::b).drop ((a.length : Int).toNat+[c].length)=b:=by
    rw [show ((a.length : Int).toNat+[c].length)=a.length+1 by simp,← List.drop_drop,List.drop_left]
    rfl
  rw [e1,e2]
  rfl
theorem cuts_enough (c : UInt8) : ∀ (k : Nat) (l : List UInt8),l.length≤k→∀ j,k≤j→cuts c j l=cuts c k l:=by
  intro k
  induction k with
  | zero =>
    intro l h j hj
    have : l=[]:=List.eq_nil_of_length_eq_zero (by omega)
    subst this
    rw [cuts_none c j [] (by simp),cuts_none c 0 [] (by simp)]
  | succ k ih =>
    intro l h j hj
    obtain ⟨j,rfl⟩ : ∃ i,j=i+1:=⟨j - 1,by omega⟩
    by_cases hc : c∈l
    · obtain ⟨a,b,rfl,ha⟩:=part_at c l hc
      rw [cuts_some c _ a b ha,cuts_some c _ a b ha,ih b (by simp at h;omega) j (by omega)]
    · rw [cuts_none c _ l hc,cuts_none c _ l hc]
theorem cuts_min (c : UInt8) (k : Nat) (l : List UInt8) : cuts c (min k l.length) l=cuts c k l:=by
  by_cases h : k≤l.length
  · rw [Nat.min_eq_left h]
  · rw [Nat.min_eq_right (by omega),cuts_enough c l.length l (Nat.le_refl _) k (by omega)]
theorem cuts_ne (c : UInt8) (k : Nat) (l : List UInt8) : cuts c k l≠[]:=by
  by_cases hc : c∈l
  · obtain ⟨a,b,rfl,ha⟩:=part_at c l hc
    cases k with
    | zero=>show [_]≠[];simp
    | succ k=>rw [cuts_some c k a b ha];simp
  · rw [cuts_none c k l hc];simp
def glue (c : UInt8) : List (List UInt8)→List UInt8
  | []=>[]
  | [x]=>x
  | x::y::r=>x++c::glue c (y::r)
theorem glue_cons (c : UInt8) (x y : List UInt8) (r : List (List UInt8)) : glue c (x::y::r)=x++c::glue c (y::r):=rfl
theorem cuts_glue (c : UInt8) : ∀ (ws : List (List UInt8)) (k : Nat),(∀ x∈ws,c∉x)→ws≠[]→ws.length≤k+1→cuts c k (glue c ws)=ws
  | [],_,_,h,_=>absurd rfl h
  | [x],k,h,_,_=>cuts_none c k x (h x (by simp))
  | x::y::r,k,h,_,hk=>by
    obtain ⟨k,rfl⟩ : ∃ i,k=i+1:=⟨k - 1,by simp at hk;omega⟩
    rw [glue_cons,cuts_some c k _ _ (h x (by simp)),cuts_glue c (y::r) k (fun z hz=>h z (by simp only [List.mem_cons] at hz ⊢;exact .inr hz)) (by simp) (by simp at hk ⊢;omega)]
theorem glue_cuts (c : UInt8) : ∀ (k : Nat) (l : List UInt8),glue c (cuts c k l)=l:=by
  intro k
  induction k with
  | zero=>intro l;rfl
  | succ k ih =>
    intro l
    by_cases hc : c∈l
    · obtain ⟨a,b,rfl,ha⟩:=part_at c l hc
      rw [cuts_some c k a b ha]
      have:=ih b
      cases h : cuts c k b with
      | nil=>exact absurd h (cuts_ne c k b)
      | cons x r=>rw [h] at this;rw [glue_cons,this]
    · rw [cuts_none c _ l hc];rfl
end Go.Proofs.YtmimfkhkilijcaaGreatDoor.PWord
namespace Go.Proofs.YtmimfkhkilijcaaGreatDoor.PWord
open Go.Lib
open Go.Proofs.YtmimfkhkilijcaaGreatDoor
abbrev tBounded : List UInt8:=[98,111,117,110,100,101,100]
abbrev tMarked : List UInt8:=[109,97,114,107,101,100]
abbrev tPercent : List UInt8:=[112,101,114,99,101,110,116]
abbrev tSource : List UInt8:=[115,111,117,114,99,101]
abbrev tPoll : List UInt8:=[112,111,108,108]
abbrev tTick : List UInt8:=[116,105,99,107]
def lineOf (name : List UInt8) (ns : List Int) : List UInt8:=glue 32 (name::ns.map itoa)
theorem lineOf_cons (name : List UInt8) (n : Int) (ns : List Int) : lineOf name (n::ns)=name++32::glue 32 ((n::ns).map itoa):=rfl
theorem glue_no (x c : UInt8) (hxc : x≠c) : ∀ (ws : List (List UInt8)),(∀ w∈ws,x∉w)→x∉glue c ws
  | [],_=>by simp [glue]
  | [w],h=>h w (by simp)
  | w::v::r,h=>by
    rw [glue_cons]
    intro hm
    rcases List.mem_append.1 hm with hm|hm
    · exact h w (by simp) hm
    · rcases List.mem_cons.1 hm with hm|hm
      · exact hxc hm
      · exact glue_no x c hxc (v::r) (fun z hz=>h z (by simp only [List.mem_cons] at hz ⊢;exact .inr hz)) hm
theorem lineOf_10 (name : List UInt8) (ns : List Int) (h : (10 : UInt8)∉name) : (10 : UInt8)∉lineOf name ns:=by
  refine glue_no 10 32 (by decide) _ (fun w hw=>?_)
  rcases List.mem_cons.1 hw with rfl|hw
  · exact h
  · obtain ⟨n,_,rfl⟩:=List.mem_map.1 hw
    exact itoa_10 n
theorem glue_len (c : UInt8) (m : Nat) : ∀ (ws : List (List UInt8)),(∀ w∈ws,w.length≤m)→(glue c ws).length≤ws.length*(m+1)
  | [],_=>by simp [glue]
  | [w],h=>by have:=h w (by simp);simp [glue];omega
  | w::v::r,h=>by
    have h1:=h w (by simp)
    have h2:=glue_len c m (v::r) (fun z hz=>h z (by simp only [List.mem_cons] at hz ⊢;exact .inr hz))
    rw [glue_cons]
    simp only [List.length_append,List.length_cons,Nat.succ_mul] at h2 ⊢
    omega
theorem lineOf_len (name : List UInt8) (ns : List Int) (hn : name.length≤21) (hb : ∀ n∈ns,in64 n) : (lineOf name ns).length≤(ns.length+1)*22:=by
  have:=glue_len 32 21 (name::ns.map itoa) (fun w hw=>by
    rcases List.mem_cons.1 hw with rfl|hw
    · exact hn
    · obtain ⟨n,hm,rfl⟩:=List.mem_map.1 hw
      exact itoa_len (hb n hm))
  simpa [lineOf] using this
def split (l : List UInt8) : List UInt8×List Int :=
  match cuts 32 3 l with
  | []=>([],[])
  | n::ws=>(n,(nums ws).getD [])
theorem split_line (name : List UInt8) (ns : List Int) (h : (32 : UInt8)∉name) (hl : ns.length≤3) (hb : ∀ n∈ns,in64 n) : split (lineOf name ns)=(name,ns):=by
  unfold split lineOf
  rw [cuts_glue 32 _ 3 (fun w hw=>by
    rcases List.mem_cons.1 hw with rfl|hw
    · exact h
    · obtain ⟨n,_,rfl⟩:=List.mem_map.1 hw
      exact itoa_32 n) (by simp) (by simp;omega)]
  simp [nums_map ns hb]
theorem split_back {l name : List UInt8} {ns : List Int} (h : split l=(name,ns)) (h0 : ns≠[]) : l=lineOf name ns∧∀ n∈ns,in64 n:=by
  have hg:=glue_cuts 32 3 l
  unfold split at h
  split at h
  · cases h;exact absurd rfl h0
  · rename_i n ws hc
    rw [hc] at hg
    cases hn : nums ws with
    | none=>rw [hn] at h;cases h;exact absurd rfl h0
    | some k =>
      rw [hn] at h
      cases h
      obtain ⟨e,hb⟩:=nums_some hn
      exact ⟨by rw [← hg,e];rfl,hb⟩
def line0 (r : Rul) : List UInt8:=lineOf tBounded [r.bound]
def line1 (r : Rul) : List UInt8:=lineOf tMarked [r.sign]
def line2 (r : Rul) : List UInt8:=lineOf tPercent [r.pct,r.win]
def rline (r : Rul) : Option (List UInt8) :=
  if r.kind=0 then some (line0 r) else if r.kind=1 then some (line1 r) else if r.kind=2 then some (line2 r) else none
def rule (r : Rul) : List UInt8:=match rline r with
  | some l=>l++[10]
  | none=>[]
def only (r : Rul) : Bool :=
  if r.kind=0 then decide (r.sign=0∧r.pct=0∧r.win=0)
  else if r.kind=1 then decide (r.bound=0∧r.pct=0∧r.win=0)
  else if r.kind=2 then decide (r.bound=0∧r.sign=0)
  else false
theorem zero64 : in64 0:=⟨by decide,by decide⟩
theorem one64 : in64 1:=⟨by decide,by decide⟩
theorem two64 : in64 2:=⟨by decide,by decide⟩
def ruleOf (l : List UInt8) : Option Rul :=
  match (split l).2 with
  | [a]=>if (split l).1=tBounded then some ⟨0,a,0,0,0⟩ else if (split l).1=tMarked then some ⟨1,0,0,0,a⟩ else none
  | [a,b]=>if (split l).1=tPercent then some ⟨2,0,a,b,0⟩ else none
  | _=>none
theorem ruleOf_rline {r : Rul} {l : List UInt8} (ho : only r=true) (hf : r.Fits) (h : rline r=some l) : ruleOf l=some r:=by
  obtain ⟨k,b,p,n,s⟩:=r
  obtain ⟨f0,f1,f2,f3,f4⟩:=hf
  simp only at f0 f1 f2 f3 f4
  unfold rline only at *
  simp only at h ho
  by_cases k0 : k=0
  · rw [if_pos k0] at h ho
    cases h
    simp only [decide_eq_true_eq] at ho
    obtain ⟨rfl,rfl,rfl⟩:=ho
    subst k0
    unfold ruleOf line0
    rw [split_line tBounded [b] (by decide) (by simp) (by simpa using f1)]
    simp
  rw [if_neg k0] at h ho
  by_cases k1 : k=1
  · rw [if_pos k1] at h ho
    cases h
    simp only [decide_eq_true_eq] at ho
    obtain ⟨rfl,rfl,rfl⟩:=ho
    subst k1
    unfold ruleOf line1
    rw [split_line tMarked [s] (by decide) (by simp) (by simpa using f4)]
    simp
  rw [if_neg k1] at h ho
  by_cases k2 : k=2
  · rw [if_pos k2] at h ho
    cases h
    simp only [decide_eq_true_eq] at ho
    obtain ⟨rfl,rfl⟩:=ho
    subst k2
    unfold ruleOf line2
    rw [split_line tPercent [p,n] (by decide) (by simp) (by simpa using ⟨f2,f3⟩)]
    simp
  · rw [if_neg k2] at h;cases h
theorem ruleOf_some {l : List UInt8} {r : Rul} (h : ruleOf l=some r) : rline r=some l∧only r=true∧r.Fits:=by
  unfold ruleOf at h
  generalize hs : split l=p at h
  obtain ⟨name,ns⟩:=p
  simp only at h
  split at h
  · rename_i a
    obtain ⟨e,hb⟩:=split_back hs (by simp)
    have ha : in64 a:=hb a (by simp)
    split at h
    · rename_i hn
      cases h
      exact ⟨by simp [rline,line0,e,hn],by simp [only],zero64,ha,zero64,zero64,zero64⟩
    · split at h
      · rename_i hn
        cases h
        exact ⟨by simp [rline,line1,e,hn],by simp [only],one64,zero64,zero64,zero64,ha⟩
      · cases h
  · rename_i a b
    obtain ⟨e,hb⟩:=split_back hs (by simp)
    split at h
    · rename_i hn
      cases h
      exact ⟨by simp [rline,line2,e,hn],by simp [only],two64,zero64,hb a (by simp),hb b (by simp),zero64⟩
    · cases h
  · cases h
structure Cfg where
  rules : List Rul
  timeout : Int
  drift : Int
structure Cfg.Fits (c : Cfg) : Prop where
  rules : ∀ r∈c.rules,r.Fits
  timeout : in64 c.timeout
  drift : in64 c.drift
abbrev noCfg : Cfg:=⟨[],0,0⟩
theorem noCfg_fits : noCfg.Fits:=⟨by simp,zero64,zero64⟩
def hline (t d : Int) : List UInt8:=lineOf tSource [t,d]
def print (c : Cfg) : List UInt8:=hline c.timeout c.drift++[10]++(c.rules.map rule).flatten
def headOf (l : List UInt8) : Option (Int×Int) :=
  match (split l).2 with
  | [a,b]=>if (split l).1=tSource then some (a,b) else none
  | _=>none
theorem headOf_line {t d : Int} (ht : in64 t) (hd : in64 d) : headOf (hline t d)=some (t,d):=by
  unfold headOf hline
  rw [split_line tSource [t,d] (by decide) (by simp) (by simpa using ⟨ht,hd⟩)]
  simp
theorem headOf_some {l : List UInt8} {t d : Int} (h : headOf l=some (t,d)) : l=hline t d∧in64 t∧in64 d:=by
  unfold headOf at h
  generalize hs : split l=p at h
  obtain ⟨name,ns⟩:=p
  simp only at h
  split at h
  · rename_i a b
    obtain ⟨e,hb⟩:=split_back hs (by simp)
    split at h
    · rename_i hn
      cases h
      exact ⟨by rw [e,hn];rfl,hb _ (by simp),hb _ (by simp)⟩
    · cases h
  · cases h
def prules : List (List UInt8)→List Rul
  | []=>[]
  | l::ls=>match ruleOf l with
    | none=>[]
    | some r=>r::prules ls
theorem prules_le : ∀ (ls : List (List UInt8)),(prules ls).length≤ls.length
  | []=>Nat.le_refl _
  | l::ls=>by
    unfold prules
    cases ruleOf l with
    | none=>simp
    | some r=>simpa using prules_le ls
theorem prules_at : ∀ (ls : List (List UInt8)) (i : Nat) (h : i<(prules ls).length) (h' : i<ls.length),ruleOf ls[i]=some (prules ls)[i]
  | [],i,h,h'=>by simp at h'
  | l::ls,i,h,h'=>by
    cases hr : ruleOf l with
    | none=>simp [prules,hr] at h
    | some r =>
      cases i with
      | zero=>simp [prules,hr]
      | succ i =>
        have h2 : i<(prules ls).length:=by simpa [prules,hr] using h
        have:=prules_at ls i h2 (by simpa using h')
        simpa [prules,hr] using this
theorem prules_end : ∀ (ls : List (List UInt8)) (h : (prules ls).length<ls.length),ruleOf ls[(prules ls).length]=none
  | [],h=>by simp at h
  | l::ls,h=>by
    cases hr : ruleOf l with
    | none=>simp [prules,hr]
    | some r =>
      have h2 : (prules ls).length<ls.length:=by simpa [prules,hr] using h
      have:=prules_end ls h2
      simpa [prules,hr] using this
theorem prules_take : ∀ (ls : List (List UInt8)) (k : Nat),prules (ls.take k)=(prules ls).take k
  | [],k=>by simp [prules]
  | l::ls,0=>by simp [prules]
  | l::ls,k+1=>by
    cases hr : ruleOf l with
    | none=>simp [prules,hr]
    | some r=>simp [prules,hr,prules_take ls k]
def parse : List (List UInt8)→Cfg×Nat
  | []=>(noCfg,1)
  | l::ls=>match headOf l with
    | none=>(noCfg,1)
    | some td=>if (prules ls).length=ls.length then (⟨prules ls,td.1,td.2⟩,0) else (noCfg,(prules ls).length+2)
theorem parse_cons (l : List UInt8) (ls : List (List UInt8)) : parse (l::ls)=match headOf l with
    | none=>(noCfg,1)
    | some td=>if (prules ls).length=ls.length then (⟨prules ls,td.1,td.2⟩,0) else (noCfg,(prules ls).length+2):=rfl
theorem parse_bad {ls : List (List UInt8)} (h : (parse ls).2≠0) :
    (parse ls).1=noCfg∧1≤(parse ls).2∧((parse ls).2≤ls.length∨(parse ls).2=1)∧((parse ls).2≠1→(parse (ls.take ((parse ls).2 - 1))).2=0∧(parse (ls.take (parse ls).2)).2=(parse ls).2):=by
  cases ls with
  | nil=>simp [parse]
  | cons l ls =>
    cases hh : headOf l with
    | none=>simp [parse,hh]
    | some td =>
      obtain ⟨t,d⟩:=td
      by_cases hl : (prules ls).length=ls.length
      · simp [parse,hh,hl] at h
      · have ep : parse (l::ls)=(noCfg,(prules ls).length+2):=by simp [parse,hh,hl]
        have hle:=prules_le ls
        rw [ep]
        refine ⟨rfl,by simp,.inl (by simp;omega),fun _=>?_⟩
        have e1 : (l::ls).take ((prules ls).length+2 - 1)=l::ls.take (prules ls).length:=by
          rw [show (prules ls).length+2 - 1=(prules ls).length+1 by omega,List.take_succ_cons]
        have e2 : (l::ls).take ((prules ls).length+2)=l::ls.take ((prules ls).length+1):=by rw [List.take_succ_cons]
        simp only [e1,e2]
        constructor
        · simp only [parse,hh,prules_take,List.length_take]
          rw [if_pos (by omega)]
        · simp only [parse,hh,prules_take,List.length_take]
          rw [if_neg (by omega)]
          show min _ _+2=_
          omega
def plines (c : Cfg) : List (List UInt8):=hline c.timeout c.drift::c.rules.map fun r=>(rline r).getD []
theorem rline_only {r : Rul} (h : only r=true) : ∃ l,rline r=some l:=by
  unfold only at h
  unfold rline
  split
  · exact ⟨_,rfl⟩
  · rename_i h0
    rw [if_neg h0] at h
    split
    · exact ⟨_,rfl⟩
    · rename_i h1
      rw [if_neg h1] at h
      split
      · exact ⟨_,rfl⟩
      · rename_i h2
        rw [if_neg h2] at h
        cases h
theorem print_plines (c : Cfg) (ho : ∀ r∈c.rules,only r=true) : print c=((plines c).map (· ++ [10])).flatten:=by
  unfold print plines
  rw [List.map_cons,List.flatten_cons,List.map_map]
  congr 2
  refine List.map_congr_left fun r hr=>?_
  obtain ⟨l,hl⟩:=rline_only (ho r hr)
  simp [rule,hl]
theorem rline_10 {r : Rul} {l : List UInt8} (h : rline r=some l) : (10 : UInt8)∉l:=by
  unfold rline at h
  split at h
  · cases h;exact lineOf_10 _ _ (by decide)
  · split at h
    · cases h;exact lineOf_10 _ _ (by decide)
    · split at h
      · cases h;exact lineOf_10 _ _ (by decide)
      · cases h
theorem plines_10 (c : Cfg) : ∀ l∈plines c,(10 : UInt8)∉l:=by
  intro l hl
  rcases List.mem_cons.1 hl with rfl|hl
  · exact lineOf_10 _ _ (by decide)
  · obtain ⟨r,_,rfl⟩:=List.mem_map.1 hl
    cases h : rline r with
    | none=>simp
    | some x=>exact rline_10 h
theorem cuts_ended (c : UInt8) : ∀ (ls : List (List UInt8)) (k : Nat),(∀ l∈ls,c∉l)→ls.length≤k→cuts c k ((ls.map (· ++ [c])).flatten)=ls++[[]]
  | [],k,_,_=>cuts_none c k [] (by simp)
  | l::ls,k,h,hk=>by
    obtain ⟨k,rfl⟩ : ∃ i,k=i+1:=⟨k - 1,by simp at hk;omega⟩
    rw [List.map_cons,List.flatten_cons,List.append_assoc]
    rw [List.singleton_append,cuts_some c k l _ (h l (by simp)),cuts_ended c ls k (fun x hx=>h x (by simp [hx])) (by simp at hk;omega)]
    rfl
theorem count_no (c : UInt8) (l : List UInt8) (h : c∉l) : l.count c=0:=List.count_eq_zero.2 h
theorem count_ended (c : UInt8) : ∀ (ls : List (List UInt8)),(∀ l∈ls,c∉l)→((ls.map (· ++ [c])).flatten).count c=ls.length
  | [],_=>by simp
  | l::ls,h=>by
    rw [List.map_cons,List.flatten_cons,List.count_append,List.count_append,count_no c l (h l (by simp)),count_ended c ls (fun x hx=>h x (by simp [hx]))]
    simp
    omega
theorem cut_some (c : UInt8) (a b : List UInt8) (h : c∉a) : cut (a++c::b) [c]=(a,b,true):=by
  unfold cut
  rw [index_in c a b h]
  simp
theorem cut_none (c : UInt8) (a : List UInt8) (h : c∉a) : cut a [c]=(a,[],false):=by
  unfold cut
  rw [index_out c a h]
  simp
def cname (t : Bool) : List UInt8:=if t then tTick else tPoll
def cline (t : Bool) (n : Int) : List UInt8:=cname t++32::itoa n
def read (l : List UInt8) : Option (Bool×Int) :=
  match numOf (cut l [32]).2.1 with
  | none=>none
  | some n=>if (cut l [32]).1=tPoll then some (false,n) else if (cut l [32]).1=tTick then some (true,n) else none
theorem cname_32 (t : Bool) : (32 : UInt8)∉cname t:=by cases t <;> decide
theorem read_cline (t : Bool) (n : Int) (h : in64 n) : read (cline t n)=some (t,n):=by
  unfold read cline
  rw [cut_some 32 _ _ (cname_32 t)]
  simp only [numOf_itoa n h]
  cases t <;> simp [cname]
theorem numOf_nil : numOf []=none:=rfl
theorem read_some {l : List UInt8} {t : Bool} {n : Int} (h : read l=some (t,n)) : l=cline t n∧in64 n:=by
  by_cases hc : (32 : UInt8)∈l
  · obtain ⟨a,b,rfl,ha⟩:=part_at 32 l hc
    unfold read at h
    rw [cut_some 32 a b ha] at h
    simp only at h
    split at h
    · cases h
    · rename_i m hm
      obtain ⟨e,hb⟩:=numOf_some hm
      split at h
      · rename_i hp
        cases h
        exact ⟨by rw [hp,← e];rfl,hb⟩
      · split at h
        · rename_i hp
          cases h
          exact ⟨by rw [hp,← e];rfl,hb⟩
        · cases h
  · unfold read at h
    rw [cut_none 32 l hc] at h
    simp only [numOf_nil] at h
    cases h
theorem ruleOf_cline (t : Bool) (n : Int) (h : in64 n) : ruleOf (cline t n)=none:=by
  have e : cline t n=lineOf (cname t) [n]:=rfl
  unfold ruleOf
  rw [e,split_line (cname t) [n] (cname_32 t) (by simp) (by simpa using h)]
  cases t <;> simp [cname]
end Go.Proofs.YtmimfkhkilijcaaGreatDoor.PWord
namespace Go.Proofs.YtmimfkhkilijcaaGreatDoor
open Go.ChangeShapes Go.WideShapes Go.ChangeAt Go.RowKit
open PWord
open Go.Lib (itoa decDigits)
theorem tx_size (l : List UInt8) : (bstr l).size=l.length:=by simp [ByteArray.size]
theorem tx_cat (a b : List UInt8) : bstr a++bstr b=bstr (a++b):=by
  apply ByteArray.ext
  simp
theorem tx_run (w : World) (a b : List UInt8) (h : a.length+b.length≤9223372036854775807) : (Op.stringOp .add (bstr a) (bstr b)).run Tryz.prog w = .ok (.string (bstr (a++b))) w :=
  cat_run w _ _ _ (by rw [tx_size,tx_size];exact h) (tx_cat a b)
theorem byte_text (c : Nat) (hc : c<256) (w : World) (N : Nat) (hN : w.heap.size=N) :
    (convert 79 9 (.slice (some ⟨N,0,none⟩) 1 1)).run Tryz.prog (w.alloc (.cells #[.int .u8 (c : Int)] 5)) = .ok (.string (bstr [UInt8.ofNat c])) (w.alloc (.cells #[.int .u8 (c : Int)] 5)):=by
  subst hN
  have e : (UInt8.ofNat c).toNat=c:=by rw [UInt8.toNat_ofNat'];omega
  have h:=Sl.made (B:=w.heap.size) w #[.int .u8 (c : Int)] 5 1 1 1 (Nat.le_refl _) (Nat.le_refl _) (by decide) (by simp)
  exact sl_string (n:=1) (l:=[UInt8.ofNat c]) (by simpa [bv,e] using h) 79 9 5 Tryz.underlying79 Tryz.underlying5 Tryz.underlying9 (B:=w.heap.size)
theorem ref_num_up (n : Nat) : ∀ (w : World),n<9223372036854775808 →
    Calls Tryz.prog 17 #[.int .i64 n] w fun e w'=>e = .returned (.string (bstr (itoa n)))∧Below w.heap.size w w':=by
  induction n using Nat.strongRecOn with
  | _ n ih =>
    intro w hn
    obtain ⟨d,hd⟩ : ∃ d,n % 10=d:=⟨_,rfl⟩
    have hd10 : d<10:=by omega
    have hdi : (n : Int).tmod 10=(d : Int):=by rw [Int.tmod_eq_emod_of_nonneg (by omega)];omega
    have hdi2 : (n : Int) % 10=(d : Int):=by omega
    obtain ⟨c,hce⟩ : ∃ c,48+d=c:=⟨_,rfl⟩
    have kc:=byte_text c (by omega) w w.heap.size rfl
    have hb0 : Below w.heap.size w (w.alloc (.cells #[.int .u8 (c : Int)] 5)):=(Below.refl _ _).alloc (Nat.le_refl _) _
    have HB0:=Lib.hid hb0
    clear hb0
    obtain ⟨q,hqn⟩ : ∃ q,n / 10=q:=⟨_,rfl⟩
    have hq : (n : Int) / 10=(q : Int):=by omega
    have hq2 : (n : Int).tdiv 10=(q : Int):=by rw [Int.tdiv_eq_ediv_of_nonneg (by omega)];exact hq
    have e1 : 48+(d : Int)=(c : Int):=by omega
    have e3 : IntKind.u8.wrap (c : Int)=(c : Int):=by rw [IntKind.wrap_u8];omega
    have h0 : ¬ (n : Int)<0:=by omega
    rw [Go.Lib.itoa_nonneg]
    by_cases h10 : n<10
    · have hx : decDigits n=[UInt8.ofNat c]:=by rw [Go.Lib.decDigits_one h10];congr 2;omega
      rw [hx]
      have h10' : (n : Int)<10:=by omega
      clear hx ih hq hq2 h10 hn hd hqn hce
      go_enter Tryz.func17,Tryz.ntmps17
      go_wp2
      go_ret
      exact ⟨rfl,HB0.out⟩
    · have hx : decDigits n=decDigits q++[UInt8.ofNat c]:=by
        rw [decDigits,dif_neg h10,hqn,hd,hce]
      rw [hx]
      have hl:=itoa_len (n:=(q : Int)) ⟨by omega,by omega⟩
      rw [Go.Lib.itoa_nonneg] at hl
      have hcat:=fun w=>tx_run w (decDigits q) [UInt8.ofNat c] (by simp only [List.length_cons,List.length_nil];omega)
      have hrec:=fun w=>ih q (by omega) w (by omega)
      have HREC:=Lib.hid hrec
      have h10' : ¬ (n : Int)<10:=by omega
      have hnI : (n : Int)<9223372036854775808:=by omega
      rw [Go.Lib.itoa_nonneg] at HREC
      clear hx hrec ih h10 hn hd hqn hce hl
      generalize decDigits q=r at *
      go_enter Tryz.func17,Tryz.ntmps17
      go_wp2_with (first|(go_at_call 17;refine (HREC.out _).mono ?_;rintro e w2 ⟨rfl,hb2⟩))
      go_ret
      exact ⟨rfl,on_below HB0.out hb2⟩
theorem ref_num_down (u : Nat) : ∀ (w : World),1≤u→u≤9223372036854775808 →
    Calls Tryz.prog 17 #[.int .i64 (-(u : Int))] w fun e w'=>e = .returned (.string (bstr (itoa (-(u : Int)))))∧Below w.heap.size w w':=by
  induction u using Nat.strongRecOn with
  | _ u ih =>
    intro w h1 hn
    obtain ⟨d,hd⟩ : ∃ d,u % 10=d:=⟨_,rfl⟩
    have hd10 : d<10:=by omega
    obtain ⟨c,hce⟩ : ∃ c,48+d=c:=⟨_,rfl⟩
    have kc:=byte_text c (by omega) w w.heap.size rfl
    have hb0 : Below w.heap.size w (w.alloc (.cells #[.int .u8 (c : Int)] 5)):=(Below.refl _ _).alloc (Nat.le_refl _) _
    have HB0:=Lib.hid hb0
    clear hb0
    obtain ⟨q,hqn⟩ : ∃ q,u / 10=q:=⟨_,rfl⟩
    obtain ⟨n,hne⟩ : ∃ n : Int,-(u : Int)=n:=⟨_,rfl⟩
    have hdi : n.tmod 10 = -(d : Int):=by rw [← hne,Int.neg_tmod,Int.tmod_eq_emod_of_nonneg (by omega)];omega
    obtain ⟨m,hme⟩ : ∃ m : Int,-(q : Int)=m:=⟨_,rfl⟩
    have hq2 : n.tdiv 10=m:=by rw [← hne,Int.neg_tdiv,Int.tdiv_eq_ediv_of_nonneg (by omega)];omega
    have e1 : 48+(d : Int)=(c : Int):=by omega
    have e2 : 48 - -(d : Int)=(c : Int):=by omega
    have e3 : IntKind.u8.wrap (c : Int)=(c : Int):=by rw [IntKind.wrap_u8];omega
    have h0 : n<0:=by omega
    have hnl : -9223372036854775808≤n:=by omega
    rw [Go.Lib.itoa_neg u h1,hne]
    by_cases h10 : u<10
    · have hx : decDigits u=[UInt8.ofNat c]:=by rw [Go.Lib.decDigits_one h10];congr 2;omega
      rw [hx]
      have h10' : -10<n:=by omega
      have hcat:=fun w=>tx_run w [45] [UInt8.ofNat c] (by simp only [List.length_cons,List.length_nil];omega)
      clear hx ih hq2 h10 hn hd hqn hce hne
      go_enter Tryz.func17,Tryz.ntmps17
      go_wp2
      go_ret
      exact ⟨rfl,HB0.out⟩
    · have hx : decDigits u=decDigits q++[UInt8.ofNat c]:=by
        rw [decDigits,dif_neg h10,hqn,hd,hce]
      rw [hx]
      have hq1 : 1≤q:=by omega
      have hl:=itoa_len (n:=-(q : Int)) ⟨by omega,by omega⟩
      rw [Go.Lib.itoa_neg q hq1] at hl
      have hcat:=fun w=>tx_run w (45::decDigits q) [UInt8.ofNat c] (by simp only [List.length_cons,List.length_nil] at hl ⊢;omega)
      have hrec:=fun w=>ih q (by omega) w hq1 (by omega)
      rw [Go.Lib.itoa_neg q hq1,hme] at hrec
      have HREC:=Lib.hid hrec
      have h10' : ¬ -10<n:=by omega
      have hm1 : -9223372036854775808≤m:=by omega
      have hm2 : m≤9223372036854775807:=by omega
      clear hx hrec ih h10 hn hd hqn hce hl hne hme
      generalize decDigits q=r at *
      go_enter Tryz.func17,Tryz.ntmps17
      go_wp2_with (first|(go_at_call 17;refine (HREC.out _).mono ?_;rintro e w2 ⟨rfl,hb2⟩))
      go_ret
      exact ⟨rfl,on_below HB0.out hb2⟩
theorem ref_num (n : Int) (hn : in64 n) (w : World) : Calls Tryz.prog 17 #[.int .i64 n] w fun e w'=>e = .returned (.string (bstr (itoa n)))∧Below w.heap.size w w':=by
  obtain ⟨h0,h1⟩:=hn
  by_cases h : 0≤n
  · obtain ⟨u,rfl⟩ : ∃ u : Nat,n=u:=⟨n.toNat,by omega⟩
    exact ref_num_up u w (by omega)
  · obtain ⟨u,rfl⟩ : ∃ u : Nat,n = -(u : Int):=⟨n.natAbs,by omega⟩
    exact ref_num_down u w (by omega) (by omega)
end Go.Proofs.YtmimfkhkilijcaaGreatDoor
namespace Go.Proofs.YtmimfkhkilijcaaGreatDoor
open Go.ChangeShapes Go.WideShapes Go.ChangeAt Go.RowKit
structure EnvW (w : World) : Prop where
  pow : Lib.TabIs Tryz.prog w "internal/strconv.uint64pow10" .u64 Lib.pow10Tab
  syn : ∃ v,w.cell? ⟨5,0,none⟩=some v∧(v = .nilIface∨∃ te pe,v = .iface te pe)
  rng : ∃ v,w.cell? ⟨6,0,none⟩=some v∧(v = .nilIface∨∃ te pe,v = .iface te pe)
  max : ∃ m,w.cell? ⟨0,0,none⟩=some (.int .i64 m)
theorem cell_stays {w w' : World} (hb : Below w.heap.size w w') {p : Addr} {v : Value} (h : w.cell? p=some v) : w'.cell? p=some v:=(hb.cell (cell_lt h)).trans h
theorem EnvW.on {w w' : World} (h : EnvW w) (hb : Below w.heap.size w w') : EnvW w' :=
  ⟨Lib.tabBelow_of_tabIs h.pow w' hb,h.syn.imp fun v hv=>⟨cell_stays hb hv.1,hv.2⟩,h.rng.imp fun v hv=>⟨cell_stays hb hv.1,hv.2⟩,h.max.imp fun m hm=>cell_stays hb hm⟩
open Go.Lib (itoa)
open PWord
theorem grow_upon (w : World) (k : Nat) (os : Array Obj) : Below w.heap.size w (Sort.grow (w.drewN k) os):=by
  refine ⟨rfl,rfl,rfl,?_,fun j hj=>?_⟩
  · show w.heap.size≤(w.heap++os).size
    simp
  · show (w.heap++os)[j]? = _
    rw [Array.getElem?_append_left hj]
theorem li_itoa (n : Int) (hn : in64 n) (w : World) (he : EnvW w) : Calls Tryz.prog 84 #[.int .i64 n] w fun e w'=>e = .returned (.string (bstr (itoa n)))∧Below w.heap.size w w' :=
  (Tryz.strconv_Itoa n hn.1 hn.2 w he.pow).mono fun e w' ⟨h,k,os,hw⟩=>⟨h,by rw [hw];exact grow_upon w k os⟩
theorem li_atoi_ok (s : ByteArray) (n : Int) (hs : s.size≤1000000) (h : Lib.atoiAll s.data.toList = .ok n) (w : World) :
    Calls Tryz.prog 185 #[.string s] w fun e w'=>e = .returned (.tuple #[.int .i64 n,.nilIface])∧Below w.heap.size w w' :=
  (Tryz.strconv_Atoi_ok s (by omega) n h w).mono fun e w' ⟨he,hw⟩=>⟨he,by
    rcases hw with rfl|⟨t,rfl⟩
    · exact Below.refl _ _
    · exact bytes_below (Below.refl _ _) (Nat.le_refl _) t _⟩
def NoNum (w : World) (e : Ending) (w' : World) : Prop:=∃ (v : Int) (N : Nat),e = .returned (.tuple #[.int .i64 v,.iface 330 (.pointer (some ⟨N,0,none⟩))])∧Below w.heap.size w w'
theorem li_atoi_none (s : ByteArray) (hs : s.size≤1000000) (h : ∀ n,Lib.atoiAll s.data.toList≠.ok n) (w : World) (he : EnvW w) :
    Calls Tryz.prog 185 #[.string s] w (NoNum w):=by
  rcases hx : Lib.atoiAll s.data.toList with n|_|_
  · exact absurd hx (h n)
  · obtain ⟨ev,h1,h2⟩:=he.syn
    have hc : Calls Tryz.prog 185 #[.string s] w _:=Any.strconv_Atoi_syntax Tryz.laysC172 s (by omega) hx ev w h1 h2
    exact hc.mono fun e w' ⟨N,h,_,_,hb⟩=>⟨_,N,h,hb⟩
  · obtain ⟨ev,h1,h2⟩:=he.rng
    exact (Tryz.strconv_Atoi_range s (by omega) hx ev w h1 h2).mono fun e w' ⟨N,h,_,_,hb⟩=>⟨_,N,h,hb⟩
def Parted (w : World) (L : List (List UInt8)) (e : Ending) (w' : World) : Prop :=
  ∃ (g c : Nat) (ws : List ByteArray),e = .returned (.slice (some ⟨g,0,none⟩) ws.length c)∧ws.map (·.data.toList)=L∧RowS w' (some ⟨g,0,none⟩) ws∧ws.length≤c∧c≤100000∧w.heap.size≤g∧Below w.heap.size w w'
theorem rows_cells (w : World) (ws : List ByteArray) (N : Nat) (e : TypeId) : RowS (w.alloc (.cells (Lib.cellsOf ws N) e)) (some ⟨w.heap.size,0,none⟩) ws :=
  ⟨fun i hi=>⟨w.heap.size,0,rfl,by simp,by
    rw [cell_of_row _ w.heap.size (0+i) _ e (0,0) (heap_alloc_new w _)]
    simp only [Lib.cellsOf,Nat.zero_add,List.getElem?_toArray]
    rw [List.getElem?_append_left (by simpa using hi)]
    simp [hi]⟩⟩
theorem li_splitn (s : ByteArray) (w : World) (hs : s.size≤1000000) (he : EnvW w) :
    Calls Tryz.prog 125 #[.string s,.string ⟨#[32]⟩,.int .i64 4] w (Parted w (cuts 32 3 s.data.toList)):=by
  obtain ⟨m,hm⟩:=he.max
  refine (Tryz.strings_SplitN s ⟨#[32]⟩ 4 m w (by omega) hm (by decide) (by decide) (by decide)).mono ?_
  rintro e w' ⟨rfl,rfl⟩
  refine ⟨w.heap.size,min 4 (s.size+1),_,rfl,?_,rows_cells w _ _ _,?_,by omega,Nat.le_refl _,(Below.refl _ _).alloc (Nat.le_refl _) _⟩
  · rw [Lib.splitB_data,show min 4 (s.size+1) - 1=min 3 s.data.toList.length by rw [Array.length_toList];show min 4 (s.data.size+1) - 1=_;omega]
    exact cuts_min 32 3 s.data.toList
  · have:=Lib.splitB_length_le ⟨#[32]⟩ 0 (min 4 (s.size+1) - 1) s
    omega
theorem glue_tail (c : UInt8) : ∀ (x : List UInt8) (r : List (List UInt8)),glue c (x::r)=x++Lib.joinTail [c] r
  | x,[]=>by simp [glue,Lib.joinTail]
  | x,y::r=>by
    rw [glue_cons,glue_tail c y r]
    simp [Lib.joinTail]
theorem join_glue (c : UInt8) (ws : List (List UInt8)) : Lib.join ws [c]=glue c ws:=by
  cases ws with
  | nil=>rfl
  | cons x r=>rw [Lib.join_cons,glue_tail]
theorem li_join (g o c : Nat) (xs : List ByteArray) (w : World) (hr : RowS w (some ⟨g,o,none⟩) xs) (h0 : 0<xs.length) (hn : xs.length≤1000) (hc : xs.length≤c) (hlen : (glue 32 (xs.map (·.data.toList))).length≤1000000) :
    Calls Tryz.prog 18 #[.slice (some ⟨g,o,none⟩) xs.length c,.string ⟨#[32]⟩] w fun e w'=>e = .returned (.string (bstr (glue 32 (xs.map (·.data.toList)))))∧Below w.heap.size w w':=by
  have hj : Lib.join (xs.map (·.data.toList)) (⟨#[32]⟩ : ByteArray).data.toList=glue 32 (xs.map (·.data.toList)):=join_glue 32 _
  refine (Tryz.strings_Join g o c xs ⟨#[32]⟩ w (fun j x hx=>?_) (hr.cell 0 h0).1 (by omega) hc (by rw [hj];omega)).mono ?_
  · obtain ⟨hj,rfl⟩:=List.getElem?_eq_some_iff.1 hx
    exact (hr.cell j hj).2
  · rintro e w' ⟨rfl,hb⟩
    exact ⟨by rw [hj],hb⟩
def CutPost (w : World) (a b : List UInt8) (e : Ending) (w' : World) : Prop:=∃ (t : Bool),e = .returned (.tuple #[.string (bstr a),.string (bstr b),.bool t])∧Below w.heap.size w w'
theorem li_cut (s : ByteArray) (w : World) (hs : s.size≤1000000) (he : EnvW w) :
    Calls Tryz.prog 41 #[.string s,.string ⟨#[32]⟩] w (CutPost w (Lib.cut s.data.toList [32]).1 (Lib.cut s.data.toList [32]).2.1):=by
  obtain ⟨m,hm⟩:=he.max
  refine (Tryz.strings_Cut s ⟨#[32]⟩ m w (by omega) hm).mono ?_
  rintro e w' ⟨rfl,n,rfl⟩
  exact ⟨_,rfl,⟨rfl,rfl,rfl,Nat.le_refl _,fun _ _=>rfl⟩⟩
end Go.Proofs.YtmimfkhkilijcaaGreatDoor
