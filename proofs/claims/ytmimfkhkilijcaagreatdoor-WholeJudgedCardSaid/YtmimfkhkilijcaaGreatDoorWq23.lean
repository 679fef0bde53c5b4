/- KRec: what is reached of them. -/
import Derived.Test.YtmimfkhkilijcaaGreatDoorWq01
set_option linter.unusedVariables false
set_option linter.unusedSimpArgs false
set_option maxRecDepth 100000
set_option maxHeartbeats 8000000
namespace Go.Proofs.YtmimfkhkilijcaaGreatDoor
namespace PVar
def digs (n : Nat) : List UInt8:=if n<128 then [UInt8.ofNat n] else UInt8.ofNat (n % 128+128)::digs (n / 128)
termination_by n
decreasing_by omega
theorem digs_low {n : Nat} (h : n<128) : digs n=[UInt8.ofNat n]:=by rw [digs,if_pos h]
theorem digs_high {n : Nat} (h : 128≤n) : digs n=UInt8.ofNat (n % 128+128)::digs (n / 128):=by rw [digs,if_neg (by omega)]
theorem digs_len_aux : ∀ (k n : Nat),n<128 ^ k→1≤k→(digs n).length≤k
  | 0,_,_,h=>by omega
  | k+1,n,h,_=>by
    by_cases hn : n<128
    · rw [digs_low hn];simp
    · rw [digs_high (by omega)]
      have hk : 1≤k:=by
        rcases Nat.eq_zero_or_pos k with h0|h0
        · subst h0;simp at h;omega
        · exact h0
      have : n / 128<128 ^ k:=by
        rw [Nat.pow_succ] at h
        exact Nat.div_lt_of_lt_mul (by rw [Nat.mul_comm];exact h)
      have:=digs_len_aux k (n / 128) this hk
      simp;omega
theorem digs_len {n : Nat} (h : n≤18446744073709551615) : (digs n).length≤10:=digs_len_aux 10 n (Nat.lt_of_le_of_lt h (by decide)) (by omega)
theorem digs_pos (n : Nat) : 1≤(digs n).length:=by
  by_cases hn : n<128
  · rw [digs_low hn];simp
  · rw [digs_high (by omega)];simp
def go : (i acc : Nat)→List UInt8→Nat×Nat×Nat
  | _,_,[]=>(0,0,1)
  | i,acc,c::r =>
    if i > 9∨(i=9∧c.toNat % 128 > 1) then (0,0,2)
    else if c.toNat<128 then (if c.toNat=0∧i > 0 then (0,0,2) else (acc+c.toNat*128 ^ i,i+1,0))
    else go (i+1) (acc+c.toNat % 128*128 ^ i) r
def get (l : List UInt8) : Nat×Nat×Nat:=go 0 0 l
theorem go_nil (i acc : Nat) : go i acc []=(0,0,1):=rfl
theorem go_bad {i acc : Nat} {c : UInt8} {r : List UInt8} (h : i > 9∨(i=9∧c.toNat % 128 > 1)) : go i acc (c::r)=(0,0,2):=by rw [go,if_pos h]
theorem go_zero {i acc : Nat} {c : UInt8} {r : List UInt8} (h : c.toNat=0) (h2 : i > 0) : go i acc (c::r)=(0,0,2):=by
  rw [go]
  by_cases h' : i > 9∨(i=9∧c.toNat % 128 > 1)
  · rw [if_pos h']
  · rw [if_neg h',if_pos (by omega),if_pos ⟨h,h2⟩]
theorem go_end {i acc : Nat} {c : UInt8} {r : List UInt8} (h : ¬ (i > 9∨(i=9∧c.toNat % 128 > 1))) (h1 : c.toNat<128) (h2 : ¬ (c.toNat=0∧i > 0)) : go i acc (c::r)=(acc+c.toNat*128 ^ i,i+1,0):=by
  rw [go,if_neg h,if_pos h1,if_neg h2]
theorem go_on {i acc : Nat} {c : UInt8} {r : List UInt8} (h : ¬ (i > 9∨(i=9∧c.toNat % 128 > 1))) (h1 : 128≤c.toNat) : go i acc (c::r)=go (i+1) (acc+c.toNat % 128*128 ^ i) r:=by
  rw [go,if_neg h,if_neg (by omega)]
theorem go_spec : ∀ (l : List UInt8) (i acc : Nat) (n k : Nat),acc<128 ^ i→go i acc l=(n,k,0)→∃ m,n=acc+m*128 ^ i∧k=i+(digs m).length∧l.take (digs m).length=digs m∧(digs m).length≤l.length∧n≤18446744073709551615∧(i > 0→m > 0)
  | [],i,acc,n,k,_,h=>by simp [go_nil] at h
  | c :: r, i, acc, n, k, ha, h => by
    by_cases h1 : i > 9∨(i=9∧c.toNat % 128 > 1)
    · rw [go_bad h1] at h;simp at h
    have hc : c.toNat<256:=c.toNat_lt
    have hpow : 128 ^ i≤128 ^ 9:=Nat.pow_le_pow_right (by omega) (by omega)
    have h9 : (128 : Nat) ^ 9=9223372036854775808:=by decide
    by_cases h2 : c.toNat<128
    · by_cases h3 : c.toNat=0∧i > 0
      · rw [go_zero h3.1 h3.2] at h;simp at h
      · rw [go_end h1 h2 h3] at h
        simp at h
        obtain ⟨rfl,rfl⟩:=h
        refine ⟨c.toNat,rfl,?_,?_,?_,?_,fun h=>by omega⟩
        · rw [digs_low h2];simp
        · rw [digs_low h2];simp
        · rw [digs_low h2];simp
        · by_cases hi : i=9
          · subst hi
            have : c.toNat*128 ^ 9≤1*128 ^ 9:=Nat.mul_le_mul_right _ (by omega)
            omega
          · have h8 : 128 ^ i≤128 ^ 8:=Nat.pow_le_pow_right (by omega) (by omega)
            have e8 : (128 : Nat) ^ 8=72057594037927936:=by decide
            have : c.toNat*128 ^ i≤127*128 ^ 8:=Nat.mul_le_mul (by omega) h8
            omega
    · rw [go_on h1 (by omega)] at h
      have ha' : acc+c.toNat % 128*128 ^ i<128 ^ (i+1):=by
        have : c.toNat % 128*128 ^ i≤127*128 ^ i:=Nat.mul_le_mul_right _ (by omega)
        rw [Nat.pow_succ]
        omega
      obtain ⟨m,rfl,rfl,h5,h6,h7,h8⟩:=go_spec r (i+1) _ n k ha' h
      have hm:=h8 (by omega)
      have hd : digs (128*m+c.toNat % 128)=c::digs m:=by
        rw [digs_high (by omega),show (128*m+c.toNat % 128) / 128=m by omega,show (128*m+c.toNat % 128) % 128+128=c.toNat by omega]
        simp
      refine ⟨128*m+c.toNat % 128,?_,?_,?_,?_,h7,fun _=>by omega⟩
      · rw [Nat.pow_succ,Nat.add_mul,Nat.add_assoc]
        congr 1
        rw [Nat.add_comm,Nat.mul_comm (128 ^ i) 128,← Nat.mul_assoc,Nat.mul_comm m 128]
      · rw [hd];simp;omega
      · rw [hd];simp [h5]
      · rw [hd];simp [h6]
theorem get_spec {l : List UInt8} {n k : Nat} (h : get l=(n,k,0)) : k=(digs n).length∧l.take k=digs n∧k≤l.length∧n≤18446744073709551615:=by
  obtain ⟨m,h1,h2,h3,h4,h5,_⟩:=go_spec l 0 0 n k (by simp) h
  simp at h1 h2
  subst h1
  subst h2
  exact ⟨rfl,h3,h4,h5⟩
theorem go_err : ∀ (l : List UInt8) (i acc : Nat),(go i acc l).2.2=0∨go i acc l=(0,0,1)∨go i acc l=(0,0,2)
  | [],i,acc=>by simp [go_nil]
  | c::r,i,acc=>by
    rw [go]
    split
    · simp
    · split
      · split <;> simp
      · exact go_err r _ _
theorem get_err (l : List UInt8) : (get l).2.2=0∨get l=(0,0,1)∨get l=(0,0,2):=go_err l 0 0
def fold (n : Int) : Nat:=if n<0 then (2*(-n - 1)+1).toNat else (2*n).toNat
def back (n : Nat) : Int:=if n % 2=1 then -((n / 2 : Nat) : Int) - 1 else ((n / 2 : Nat) : Int)
theorem back_in {n : Nat} (h : n≤18446744073709551615) : -9223372036854775808≤back n∧back n≤9223372036854775807:=by unfold back;split <;> omega
end PVar
end Go.Proofs.YtmimfkhkilijcaaGreatDoor
namespace PCrc
def D : Nat:=3988292384
def cst (r : Nat) : Nat:=if r % 2=1 then (r / 2) ^^^ D else r / 2
def iter (n r : Nat) : Nat:=if n=0 then r else iter (n - 1) (cst r)
termination_by n
decreasing_by omega
theorem iter_0 (r : Nat) : iter 0 r=r:=by rw [iter,if_pos rfl]
theorem iter_1 (n r : Nat) : iter (n+1) r=iter n (cst r):=by rw [iter,if_neg (by omega)];rfl
def tab (b : Nat) : Nat:=iter 8 b
def upd (r c : Nat) : Nat:=tab ((r % 256) ^^^ c) ^^^ (r / 256)
def reg (r : Nat) (l : List UInt8) : Nat:=l.foldl (fun r c=>upd r c.toNat) r
def sum (l : List UInt8) : Nat:=4294967295 - reg 4294967295 l
theorem cst_lt {r : Nat} (h : r<2 ^ 32) : cst r<2 ^ 32:=by
  unfold cst
  split
  · exact Nat.xor_lt_two_pow (by omega) (by decide)
  · omega
theorem iter_lt (n : Nat) : ∀ {r : Nat},r<2 ^ 32→iter n r<2 ^ 32:=by
  induction n with
  | zero=>intro r h;rw [iter_0];exact h
  | succ n ih=>intro r h;rw [iter_1];exact ih (cst_lt h)
theorem reg_append (r : Nat) (a b : List UInt8) : reg r (a++b)=reg (reg r a) b:=List.foldl_append
theorem sum_lt (l : List UInt8) : sum l<2 ^ 32:=by unfold sum;omega
theorem reg_snoc (r : Nat) (l : List UInt8) (k : Nat) (h : k<l.length) : reg r (l.take (k+1))=upd (reg r (l.take k)) l[k].toNat:=by
  rw [List.take_succ_eq_append_getElem h,reg_append];rfl
theorem tab_lt {b : Nat} (h : b<256) : tab b<2 ^ 32:=iter_lt 8 (Nat.lt_of_lt_of_le h (by decide))
def tb (l : List UInt8) (i : Nat) : Nat:=(((l[i / 8]?).map UInt8.toNat).getD 0 / 2 ^ (i % 8)) % 2
def T (l : List UInt8) : Nat→Nat
  | 0=>4294967295
  | i+1=>cst (T l i ^^^ tb l i)
def bt (r k : Nat) : Nat:=r / 2 ^ k % 2
def row (l : List UInt8) (i j : Nat) : Nat:=(tb l j+bt (T l i) (j - i)) % 2
def fin (f : Nat→Nat) : Nat→Nat
  | 0=>0
  | i+1=>fin f i*2+(1 - f (31 - i))
end PCrc
namespace PCrc
def four (n : Nat) : List UInt8:=[UInt8.ofNat (n / 16777216),UInt8.ofNat (n / 65536),UInt8.ofNat (n / 256),UInt8.ofNat n]
def sld (l : List UInt8) : List UInt8:=l++four (sum l)
def opn (l : List UInt8) : Bool:=decide (4≤l.length∧l.drop (l.length - 4)=four (sum (l.take (l.length - 4))))
def opened (l : List UInt8) : List UInt8:=if opn l then l.take (l.length - 4) else []
theorem sld_len (l : List UInt8) : (sld l).length=l.length+4:=by unfold sld;rw [List.length_append];rfl
theorem opn_iff (l : List UInt8) (h : 4≤l.length) : opn l=true↔sld (l.take (l.length - 4))=l:=by
  unfold opn
  rw [decide_eq_true_iff]
  constructor
  · intro ⟨_,h2⟩
    unfold sld
    rw [← h2,List.take_append_drop]
  · intro h2
    refine ⟨h,?_⟩
    have : l.drop (l.length - 4)=(sld (l.take (l.length - 4))).drop (l.take (l.length - 4)).length:=by
      rw [h2,List.length_take,Nat.min_eq_left (by omega)]
    rw [this]
    unfold sld
    rw [List.drop_left]
end PCrc
namespace Go.Proofs.YtmimfkhkilijcaaGreatDoor
namespace PFrame
open PVar PCrc
abbrev R:=Int×Int×List UInt8
def zr : R:=(0,0,[])
def body (k t : Int) (x : List UInt8) : List UInt8:=UInt8.ofNat k.toNat::(digs (fold t)++x)
def err (k t : Int) (x : List UInt8) : Nat:=if k≠1∧k≠2 then 3 else if 65536<(body k t x).length then 4 else 0
def enc (k t : Int) (x : List UInt8) : List UInt8:=digs (body k t x).length++sld (body k t x)
def rget : List UInt8→R×Nat
  | []=>(zr,3)
  | c::r=>if c.toNat≠1∧c.toNat≠2 then (zr,3) else if (get r).2.2≠0 then (zr,(get r).2.2) else (((c.toNat : Int),back (get r).1,r.drop (get r).2.1),0)
theorem rget_cons (c : UInt8) (r : List UInt8) : rget (c::r)=if c.toNat≠1∧c.toNat≠2 then (zr,3) else if (get r).2.2≠0 then (zr,(get r).2.2) else (((c.toNat : Int),back (get r).1,r.drop (get r).2.1),0):=rfl
def fget (l : List UInt8) : R×Nat×Nat :=
  if (get l).2.2≠0 then (zr,0,(get l).2.2) else
  if (get l).1<2∨65536<(get l).1 then (zr,0,4) else
  if l.length<(get l).2.1+(get l).1+4 then (zr,0,1) else
  if sld ((l.drop (get l).2.1).take (get l).1)≠(l.drop (get l).2.1).take ((get l).1+4) then (zr,0,5) else
  if (rget ((l.drop (get l).2.1).take (get l).1)).2≠0 then (zr,0,(rget ((l.drop (get l).2.1).take (get l).1)).2) else
  ((rget ((l.drop (get l).2.1).take (get l).1)).1,(get l).2.1+(get l).1+4,0)
def ffirst (l : List UInt8) : List UInt8×Nat×Nat :=
  if (get l).2.2≠0 then ([],0,(get l).2.2) else
  if (get l).1<2∨65536<(get l).1 then ([],0,4) else
  if l.length<(get l).2.1+(get l).1+4 then ([],0,1) else
  ((l.drop (get l).2.1).take ((get l).1+4),(get l).2.1+(get l).1+4,0)
theorem ffirst_bad {l : List UInt8} (h : (ffirst l).2.2≠0) : ffirst l=([],0,(ffirst l).2.2)∧fget l=(zr,0,(ffirst l).2.2):=by
  unfold ffirst fget at *
  by_cases h1 : (get l).2.2≠0
  · simp only [if_pos h1];exact ⟨trivial,trivial⟩
  simp only [if_neg h1] at h ⊢
  by_cases h2 : (get l).1<2∨65536<(get l).1
  · simp only [if_pos h2];exact ⟨trivial,trivial⟩
  simp only [if_neg h2] at h ⊢
  by_cases h3 : l.length<(get l).2.1+(get l).1+4
  · simp only [if_pos h3];exact ⟨trivial,trivial⟩
  simp only [if_neg h3] at h ⊢
  exact absurd rfl h
theorem ffirst_ok {l : List UInt8} (h : (ffirst l).2.2=0) : ∃ n k : Nat,get l=(k,n,0)∧2≤k∧k≤65536∧n+k+4≤l.length∧1≤n∧ffirst l=((l.drop n).take (k+4),n+k+4,0) ∧
    fget l=if opn ((l.drop n).take (k+4))=false then (zr,0,5) else if (rget (opened ((l.drop n).take (k+4)))).2≠0 then (zr,0,(rget (opened ((l.drop n).take (k+4)))).2) else ((rget (opened ((l.drop n).take (k+4)))).1,n+k+4,0):=by
  by_cases h1 : (get l).2.2≠0
  · unfold ffirst at h;rw [if_pos h1] at h;exact absurd h h1
  by_cases h2 : (get l).1<2∨65536<(get l).1
  · unfold ffirst at h;rw [if_neg h1,if_pos h2] at h;cases h
  by_cases h3 : l.length<(get l).2.1+(get l).1+4
  · unfold ffirst at h;rw [if_neg h1,if_neg h2,if_pos h3] at h;cases h
  have e1 : (get l).2.2=0:=Decidable.not_not.1 h1
  obtain ⟨s1,_,_,_⟩:=@get_spec l (get l).1 (get l).2.1 (by rw [← e1])
  have hp:=digs_pos (get l).1
  have hlen : ((l.drop (get l).2.1).take ((get l).1+4)).length=(get l).1+4:=by rw [List.length_take,List.length_drop];omega
  have hi:=opn_iff ((l.drop (get l).2.1).take ((get l).1+4)) (by omega)
  rw [hlen,show (get l).1+4 - 4=(get l).1 by omega,List.take_take,Nat.min_eq_left (by omega)] at hi
  refine ⟨(get l).2.1,(get l).1,by rw [← e1],by omega,by omega,by omega,by omega,by unfold ffirst;rw [if_neg h1,if_neg h2,if_neg h3],?_⟩
  unfold fget
  rw [if_neg h1,if_neg h2,if_neg h3]
  by_cases h4 : opn ((l.drop (get l).2.1).take ((get l).1+4))=true
  · have ho : opened ((l.drop (get l).2.1).take ((get l).1+4))=(l.drop (get l).2.1).take (get l).1:=by
      unfold opened
      rw [if_pos h4,hlen,show (get l).1+4 - 4=(get l).1 by omega,List.take_take,Nat.min_eq_left (by omega)]
    rw [if_neg (fun h=>h (hi.1 h4)),ho,h4,if_neg (show ¬ (true=false) by decide)]
  · rw [if_pos (fun h=>h4 (hi.2 h)),if_pos (by simpa using h4)]
theorem body_len (k t : Int) (x : List UInt8) : (body k t x).length=1+(digs (fold t)).length+x.length:=by unfold body;simp;omega
theorem body_two (k t : Int) (x : List UInt8) : 2≤(body k t x).length:=by rw [body_len];have:=digs_pos (fold t);omega
theorem enc_len (k t : Int) (x : List UInt8) : (enc k t x).length=(digs (body k t x).length).length+(body k t x).length+4:=by unfold enc;rw [List.length_append,sld_len];omega
theorem err_kind {k t : Int} {x : List UInt8} (h : err k t x=0) : k=1∨k=2:=by
  unfold err at h;split at h
  · cases h
  · omega
theorem err_zero {k t : Int} {x : List UInt8} (h1 : k=1∨k=2) (h2 : (body k t x).length≤65536) : err k t x=0:=by
  unfold err;rw [if_neg (by omega),if_neg (by omega)]
theorem rget_spec {b : List UInt8} {k t : Int} {x : List UInt8} (h : rget b=((k,t,x),0)) : b=body k t x∧(k=1∨k=2)∧-9223372036854775808≤t∧t≤9223372036854775807:=by
  cases b with
  | nil=>simp [rget] at h
  | cons c r =>
    rw [rget_cons] at h
    by_cases h1 : c.toNat≠1∧c.toNat≠2
    · rw [if_pos h1] at h;simp at h
    · rw [if_neg h1] at h
      by_cases h2 : (get r).2.2≠0
      · rw [if_pos h2] at h
        simp at h
        exact absurd h.2 h2
      · rw [if_neg h2] at h
        simp at h2
        have hs:=@get_spec r (get r).1 (get r).2.1 (by rw [← h2])
        simp only [Prod.mk.injEq,and_true] at h
        obtain ⟨rfl,rfl,rfl⟩:=h
        obtain ⟨s1,s2,s3,s4⟩:=hs
        have hb:=back_in s4
        have hf : fold (back (get r).1)=(get r).1:=by unfold fold back;split <;> split <;> omega
        refine ⟨?_,by omega,hb.1,hb.2⟩
        unfold body
        rw [hf,← s2,List.take_append_drop]
        simp
theorem fget_spec {l : List UInt8} {k t : Int} {x : List UInt8} {n : Nat} (h : fget l=((k,t,x),n,0)) :
    err k t x=0∧-9223372036854775808≤t∧t≤9223372036854775807∧l.take n=enc k t x∧n=(enc k t x).length∧n≤l.length:=by
  unfold fget at h
  by_cases h1 : (get l).2.2≠0
  · rw [if_pos h1] at h;simp at h;exact absurd h.2.2 h1
  rw [if_neg h1] at h
  by_cases h2 : (get l).1<2∨65536<(get l).1
  · rw [if_pos h2] at h;simp at h
  rw [if_neg h2] at h
  by_cases h3 : l.length<(get l).2.1+(get l).1+4
  · rw [if_pos h3] at h;simp at h
  rw [if_neg h3] at h
  by_cases h4 : sld ((l.drop (get l).2.1).take (get l).1)≠(l.drop (get l).2.1).take ((get l).1+4)
  · rw [if_pos h4] at h;simp at h
  rw [if_neg h4] at h
  by_cases h5 : (rget ((l.drop (get l).2.1).take (get l).1)).2≠0
  · rw [if_pos h5] at h;simp at h;exact absurd h.2.2 h5
  rw [if_neg h5] at h
  simp at h1 h4 h5
  obtain ⟨s1,s2,s3,s4⟩:=@get_spec l (get l).1 (get l).2.1 (by rw [← h1])
  have hr:=@rget_spec ((l.drop (get l).2.1).take (get l).1) k t x (by
    have:=(Prod.mk.inj h).1
    rw [← this,← h5])
  have hn : (get l).2.1+(get l).1+4=n:=by simpa using (Prod.mk.inj (Prod.mk.inj h).2).1
  obtain ⟨r1,r2,r3,r4⟩:=hr
  generalize get l=g at *
  have hbl : (body k t x).length=g.1:=by rw [← r1,List.length_take,List.length_drop];omega
  have hen : l.take n=enc k t x:=by
    unfold enc
    rw [hbl,← r1,h4,← s2,← hn]
    rw [show g.2.1+g.1+4=g.2.1+(g.1+4) by omega]
    exact List.take_add
  refine ⟨err_zero r2 (by omega),r3,r4,hen,?_,by omega⟩
  rw [enc_len,hbl,← s1,hn]
theorem rget_err (b : List UInt8) : (rget b).2=0∨((rget b).1=zr∧((rget b).2=1∨(rget b).2=2∨(rget b).2=3)):=by
  cases b with
  | nil=>right;exact ⟨rfl,.inr (.inr rfl)⟩
  | cons c r =>
    rw [rget_cons]
    split
    · right;exact ⟨rfl,.inr (.inr rfl)⟩
    · split
      · rename_i h1 h2
        right
        refine ⟨rfl,?_⟩
        rcases get_err r with h|h|h
        · exact absurd h h2
        · left;rw [h]
        · right;left;rw [h]
      · left;rfl
theorem fget_err (l : List UInt8) : (fget l).2.2=0∨∃ e : Nat,fget l=(zr,0,e)∧1≤e∧e≤5:=by
  unfold fget
  split
  · rename_i h
    right
    refine ⟨_,rfl,?_⟩
    rcases get_err l with h' | h' | h'
    · exact absurd h' h
    · rw [h'];simp
    · rw [h'];simp
  · split
    · right;exact ⟨4,rfl,by omega,by omega⟩
    · split
      · right;exact ⟨1,rfl,by omega,by omega⟩
      · split
        · right;exact ⟨5,rfl,by omega,by omega⟩
        · split
          · rename_i h
            right
            refine ⟨_,rfl,?_⟩
            rcases rget_err ((l.drop (get l).2.1).take (get l).1) with h' | ⟨_,h'⟩
            · exact absurd h' h
            · omega
          · left;rfl
def okR (r : R) : Prop:=err r.1 r.2.1 r.2.2=0∧-9223372036854775808≤r.2.1∧r.2.1≤9223372036854775807
def encR (r : R) : List UInt8:=enc r.1 r.2.1 r.2.2
def build : List R→List UInt8
  | []=>[]
  | r::rs=>encR r++build rs
def parse (l : List UInt8) : List R×Nat×Nat :=
  if _hl : l=[] then ([],0,0) else
  if _h : (fget l).2.2=0∧0<(fget l).2.1 then
    ((fget l).1::(parse (l.drop (fget l).2.1)).1,(fget l).2.1+(parse (l.drop (fget l).2.1)).2.1,(parse (l.drop (fget l).2.1)).2.2)
  else ([],0,(fget l).2.2)
termination_by l.length
decreasing_by all_goals (rw [List.length_drop];have : 0<l.length:=List.length_pos_iff.2 _hl;omega)
theorem parse_nil : parse []=([],0,0):=by rw [parse];simp
theorem parse_bad {l : List UInt8} (h : l≠[]) (hf : (fget l).2.2≠0) : parse l=([],0,(fget l).2.2):=by
  rw [parse,dif_neg h,dif_neg (by omega)]
theorem encR_pos (r : R) : 7≤(encR r).length:=by unfold encR;rw [enc_len];have:=body_two r.1 r.2.1 r.2.2;have:=digs_pos (body r.1 r.2.1 r.2.2).length;omega
theorem parse_more {l : List UInt8} {r : R} {n : Nat} (hf : fget l=(r,n,0)) :
    parse l=(r::(parse (l.drop n)).1,n+(parse (l.drop n)).2.1,(parse (l.drop n)).2.2):=by
  obtain ⟨k,t,x⟩:=r
  obtain ⟨_,_,_,_,h5,h6⟩:=fget_spec hf
  have:=encR_pos (k,t,x)
  unfold encR at this
  simp only at this
  have hl : l≠[]:=by intro e;subst e;simp at h6;omega
  rw [parse,dif_neg hl,hf,dif_pos (by simp;omega)]
theorem build_append : ∀ (a b : List R),build (a++b)=build a++build b
  | [],b=>rfl
  | r::a,b=>by show encR r++build (a++b)=(encR r++build a)++build b;rw [build_append a b,List.append_assoc]
theorem fget_ok {l : List UInt8} {r : R} {n : Nat} (h : fget l=(r,n,0)) : okR r∧l.take n=encR r∧n=(encR r).length∧n≤l.length:=by
  obtain ⟨k,t,x⟩:=r
  obtain ⟨h1,h2,h3,h4,h5,h6⟩:=fget_spec h
  exact ⟨⟨h1,h2,h3⟩,h4,h5,h6⟩
theorem parse_spec : ∀ (m : Nat) (l : List UInt8),l.length≤m→(∀ r∈(parse l).1,okR r)∧build (parse l).1=l.take (parse l).2.1∧(parse l).2.1≤l.length∧((parse l).2.2=0↔(parse l).2.1=l.length)∧(parse l).2.2≤5
  | 0,l,h=>by
    have : l=[]:=List.eq_nil_of_length_eq_zero (by omega)
    subst this
    rw [parse_nil]
    simp [build]
  | m+1,l,h=>by
    by_cases hl : l=[]
    · subst hl
      rw [parse_nil]
      simp [build]
    have hpos : 0<l.length:=List.length_pos_iff.2 hl
    rcases fget_err l with he|⟨e,he,h1,h5⟩
    · obtain ⟨r,n,e,hf⟩ : ∃ r n e,fget l=(r,n,e):=⟨_,_,_,rfl⟩
      rw [hf] at he
      simp only at he
      subst he
      obtain ⟨o1,o2,o3,o4⟩:=fget_ok hf
      have hp:=encR_pos r
      have hd : (l.drop n).length=l.length - n:=List.length_drop
      obtain ⟨i1,i2,i3,i4,i5⟩:=parse_spec m (l.drop n) (by omega)
      rw [parse_more hf]
      refine ⟨?_,?_,?_,?_,i5⟩
      · intro x hx
        rcases List.mem_cons.1 hx with rfl|hx
        · exact o1
        · exact i1 x hx
      · show encR r++build _=_
        rw [i2,← o2]
        exact List.take_add.symm
      · show n+_≤_
        omega
      · show _↔n+_=_
        rw [i4]
        omega
    · have hb:=parse_bad hl (by rw [he];simp;omega)
      rw [hb,he]
      simp [build]
      omega
end PFrame
open Go.ChangeShapes Go.WideShapes Go.ChangeAt Go.RowKit PFrame
def rcells (r : R) : List Value:=[.int .i64 r.1,.int .i64 r.2.1,.string (bstr r.2.2)]
def rv : List R→List Value
  | []=>[]
  | r::rs=>rcells r++rv rs
theorem rv_append : ∀ (a b : List R),rv (a++b)=rv a++rv b
  | [],b=>rfl
  | r::a,b=>by show rcells r++rv (a++b)=(rcells r++rv a)++rv b;rw [rv_append a b,List.append_assoc]
theorem rv_len : ∀ (rs : List R),(rv rs).length=rs.length*3
  | []=>rfl
  | r::rs=>by show (rcells r++rv rs).length=_;rw [List.length_append,rv_len rs,List.length_cons];show 3+_=_;omega
theorem rv_at : ∀ (rs : List R) (i : Nat) (h : i<rs.length),(rv rs)[i*3]? = some (.int .i64 rs[i].1)∧(rv rs)[i*3+1]? = some (.int .i64 rs[i].2.1)∧(rv rs)[i*3+2]? = some (.string (bstr rs[i].2.2))
  | r::rs,0,_=>⟨rfl,rfl,rfl⟩
  | r::rs,i+1,h=>by
    have e : (i+1)*3=i*3+3:=by omega
    have ih:=rv_at rs i (by simpa using h)
    show (rcells r++rv rs)[(i+1)*3]? = _∧(rcells r++rv rs)[(i+1)*3+1]? = _∧(rcells r++rv rs)[(i+1)*3+2]? = _
    have hl : (rcells r).length=3:=rfl
    rw [List.getElem?_append_right (by omega),List.getElem?_append_right (by omega),List.getElem?_append_right (by omega),hl,show (i+1)*3 - 3=i*3 by omega,show (i+1)*3+1 - 3=i*3+1 by omega,show (i+1)*3+2 - 3=i*3+2 by omega]
    exact ih
structure RowR (w : World) (a : Option Addr) (l : List R) : Prop where
  len : l.length≤maxLen
  at_ : ∀ (i : Nat) (h : i<l.length),∃ b off,a=some ⟨b,off,none⟩∧b<w.heap.size∧w.cell? ⟨b,off+i*3,none⟩=some (.int .i64 l[i].1)∧w.cell? ⟨b,off+i*3+1,none⟩=some (.int .i64 l[i].2.1)∧w.cell? ⟨b,off+i*3+2,none⟩=some (.string (bstr l[i].2.2))
  tm : ∀ r∈l,(-9223372036854775808≤r.1∧r.1≤9223372036854775807)∧(-9223372036854775808≤r.2.1∧r.2.1≤9223372036854775807)
theorem RowR.on {w w' : World} {a : Option Addr} {l : List R} (h : RowR w a l) (hb : Below w.heap.size w w') : RowR w' a l :=
  ⟨h.len,fun i hi=>by
    obtain ⟨b,off,h1,h2,h3,h4,h5⟩:=h.at_ i hi
    exact ⟨b,off,h1,Nat.lt_of_lt_of_le h2 hb.size,by rw [hb.cell (p:=⟨b,off+i*3,none⟩) h2];exact h3,by rw [hb.cell (p:=⟨b,off+i*3+1,none⟩) h2];exact h4,by rw [hb.cell (p:=⟨b,off+i*3+2,none⟩) h2];exact h5⟩,h.tm⟩
theorem RowR.of_sl {B : Nat} {w : World} {v : Value} {n : Nat} {rs : List R} (h : Sl B w 3 v n (rv rs)) (ht : ∀ r∈rs,(-9223372036854775808≤r.1∧r.1≤9223372036854775807)∧(-9223372036854775808≤r.2.1∧r.2.1≤9223372036854775807)) :
    n=rs.length∧∃ a c,v = .slice a rs.length c∧RowR w a rs:=by
  have hl:=h.1
  rw [rv_len] at hl
  have hn : n=rs.length:=by omega
  subst hn
  have hm:=h.len
  refine ⟨rfl,?_⟩
  rcases h.2 with ⟨rfl,h0⟩|⟨g,off,cap,rfl,hb,hg,h1,h2,h3,h4⟩
  · rw [h0]
    exact ⟨_,_,rfl,by omega,fun i hi=>by omega,ht⟩
  · refine ⟨_,_,rfl,hm,fun i hi=>⟨g,off,rfl,hg,?_⟩,ht⟩
    obtain ⟨r1,r2,r3⟩:=rv_at rs i hi
    have c1:=h3 (i*3) (by omega)
    have c2:=h3 (i*3+1) (by omega)
    have c3:=h3 (i*3+2) (by omega)
    rw [Nat.add_assoc,Nat.add_assoc,c1,c2,c3]
    exact ⟨r1,r2,r3⟩
theorem RowR.cell {w : World} {b off : Nat} {l : List R} (h : RowR w (some ⟨b,off,none⟩) l) (i : Nat) (hi : i<l.length) : b<w.heap.size∧w.cell? ⟨b,off+i*3,none⟩=some (.int .i64 l[i].1)∧w.cell? ⟨b,off+i*3+1,none⟩=some (.int .i64 l[i].2.1)∧w.cell? ⟨b,off+i*3+2,none⟩=some (.string (bstr l[i].2.2)):=by
  obtain ⟨b',off',e,h1,h2⟩:=h.at_ i hi
  cases e
  exact ⟨h1,h2⟩
end Go.Proofs.YtmimfkhkilijcaaGreatDoor
