/- KConfB; KChoice: what is reached of them. -/
import Derived.Test.YtmimfkhkilijcaaGreatDoorPq09
import Derived.Test.YtmimfkhkilijcaaGreatDoorPq34
import Derived.Test.YtmimfkhkilijcaaGreatDoorPq01
import Derived.Deep.RegionHeld3
import Derived.Deep.DeepCutAuto
import Derived.Test.YtmimfkhkilijcaaGreatDoorPq35
import Derived.Test.YtmimfkhkilijcaaGreatDoorPq30
import Derived.Test.YtmimfkhkilijcaaGreatDoorPq22
import Derived.Laws.MakeOwn
import Derived.Deep.LoopGhost
set_option linter.unusedVariables false
set_option linter.unusedSimpArgs false
set_option maxRecDepth 100000
set_option maxHeartbeats 8000000
namespace Go.Proofs.YtmimfkhkilijcaaGreatDoor
open Go.ChangeShapes Go.WideShapes Go.ChangeAt Go.RowKit
open PWord
open Go.Lib (itoa)
theorem tx_let (a b : List UInt8) (h : a.length+b.length≤9223372036854775807) : ∃ t,bstr (a++b)=t∧∀ w,(Op.stringOp .add (bstr a) (bstr b)).run Tryz.prog w = .ok (.string t) w:=⟨_,rfl,fun w=>tx_run w a b h⟩
theorem rule0r (r : Rul) (h : r.kind=0) : rule r=[98,111,117,110,100,101,100,32]++itoa r.bound++[10]:=by unfold rule rline;rw [if_pos h];rfl
theorem rule1r (r : Rul) (h : r.kind=1) : rule r=[109,97,114,107,101,100,32]++itoa r.sign++[10]:=by unfold rule rline;rw [if_neg (by omega),if_pos h];rfl
theorem rule2r (r : Rul) (h : r.kind=2) : rule r=[112,101,114,99,101,110,116,32]++itoa r.pct++[32]++itoa r.win++[10]:=by
  unfold rule rline
  rw [if_neg (by omega),if_neg (by omega),if_pos h]
  simp [line2,lineOf,glue]
theorem rule3r (r : Rul) (h0 : r.kind≠0) (h1 : r.kind≠1) (h2 : r.kind≠2) : rule r=[]:=by unfold rule rline;rw [if_neg h0,if_neg h1,if_neg h2]
theorem ref_rule (r : Rul) (hf : r.Fits) (w : World) :
    Calls Tryz.prog 90 #[r.val] w fun e w'=>e = .returned (.string (bstr (rule r)))∧Below w.heap.size w w':=by
  have h0':=rule0r r
  have h1':=rule1r r
  have h2':=rule2r r
  have h3':=rule3r r
  obtain ⟨k,b,p,n,s⟩:=r
  obtain ⟨f0,f1,f2,f3,f4⟩:=hf
  unfold Rul.val
  simp only at *
  have hA:=At.alloc w [.int .i64 k,.int .i64 b,.int .i64 p,.int .i64 n,.int .i64 s] 59
  have hb0 : Below w.heap.size w (w.alloc (.cells #[.int .i64 k,.int .i64 b,.int .i64 p,.int .i64 n,.int .i64 s] 59)):=(Below.refl _ _).alloc (Nat.le_refl _) _
  obtain ⟨hg,c0,z0,c1,z1,c2,z2,c3,z3,c4,z4⟩:=hA.five
  clear hA z0 z1 z2 z3 z4
  by_cases k0 : k=0
  · subst k0
    rw [h0' rfl]
    have hl:=itoa_len f1
    obtain ⟨t1,ht1,hc1⟩:=tx_let [98,111,117,110,100,101,100,32] (itoa b) (by simp only [List.length_cons,List.length_nil];omega)
    obtain ⟨t2,ht2,hc2⟩:=tx_let ([98,111,117,110,100,101,100,32]++itoa b) [10] (by simp only [List.length_append,List.length_cons,List.length_nil];omega)
    have HN:=Lib.hid (fun w=>ref_num b f1 w)
    clear h0' h1' h2' h3' f0 f1 f2 f3 f4 hl
    rw [ht1] at hc2
    rw [ht2]
    clear ht1 ht2
    generalize bstr (itoa b)=B at *
    go_enter Tryz.func90,Tryz.ntmps90
    go_wp2_with (go_at_call 17;refine (HN.out _).mono ?_;rintro e w2 ⟨rfl,hb2⟩)
    go_ret
    exact ⟨rfl,on_below hb0 hb2⟩
  by_cases k1 : k=1
  · subst k1
    rw [h1' rfl]
    have hl:=itoa_len f4
    obtain ⟨t1,ht1,hc1⟩:=tx_let [109,97,114,107,101,100,32] (itoa s) (by simp only [List.length_cons,List.length_nil];omega)
    obtain ⟨t2,ht2,hc2⟩:=tx_let ([109,97,114,107,101,100,32]++itoa s) [10] (by simp only [List.length_append,List.length_cons,List.length_nil];omega)
    have HN:=Lib.hid (fun w=>ref_num s f4 w)
    clear h0' h1' h2' h3' f0 f1 f2 f3 f4 hl
    rw [ht1] at hc2
    rw [ht2]
    clear ht1 ht2
    generalize bstr (itoa s)=B at *
    go_enter Tryz.func90,Tryz.ntmps90
    go_wp2_with (go_at_call 17;refine (HN.out _).mono ?_;rintro e w2 ⟨rfl,hb2⟩)
    go_ret
    exact ⟨rfl,on_below hb0 hb2⟩
  by_cases k2 : k=2
  · subst k2
    rw [h2' rfl]
    have hl1:=itoa_len f2
    have hl2:=itoa_len f3
    obtain ⟨t1,ht1,hc1⟩:=tx_let [112,101,114,99,101,110,116,32] (itoa p) (by simp only [List.length_cons,List.length_nil];omega)
    obtain ⟨t2,ht2,hc2⟩:=tx_let ([112,101,114,99,101,110,116,32]++itoa p) [32] (by simp only [List.length_append,List.length_cons,List.length_nil];omega)
    obtain ⟨t3,ht3,hc3⟩:=tx_let ([112,101,114,99,101,110,116,32]++itoa p++[32]) (itoa n) (by simp only [List.length_append,List.length_cons,List.length_nil];omega)
    obtain ⟨t4,ht4,hc4⟩:=tx_let ([112,101,114,99,101,110,116,32]++itoa p++[32]++itoa n) [10] (by simp only [List.length_append,List.length_cons,List.length_nil];omega)
    have HP:=Lib.hid (fun w=>ref_num p f2 w)
    have HW:=Lib.hid (fun w=>ref_num n f3 w)
    clear h0' h1' h2' h3' f0 f1 f2 f3 f4 hl1 hl2
    rw [ht1] at hc2
    rw [ht2] at hc3
    rw [ht3] at hc4
    rw [ht4]
    clear ht1 ht2 ht3 ht4
    generalize bstr (itoa p)=A at *
    generalize bstr (itoa n)=B at *
    go_enter Tryz.func90,Tryz.ntmps90
    go_wp2
    generalize w.alloc (.cells #[.int .i64 2,.int .i64 b,.int .i64 p,.int .i64 n,.int .i64 s] 59)=w1 at *
    go_cut [2] (fun v wx=>v = .string t4∧Below w1.heap.size w1 wx)
    case first =>
      go_region_with (first|(go_at_call 17;first|((with_reducible refine (HP.out _).mono ?_);rintro e wp ⟨rfl,hbp⟩;have d2p:=cell_stays hbp (by first|exact c2|exact d2q);have d3p:=cell_stays hbp (by first|exact c3|exact d3q))|((with_reducible refine (HW.out _).mono ?_);rintro e wq ⟨rfl,hbq⟩;have d2q:=cell_stays hbq (by first|exact c2|exact d2p);have d3q:=cell_stays hbq (by first|exact c3|exact d3p))))
      all_goals (go_wp2_with fail;go_meet;first|exact ⟨rfl,on_below (un_drew hbp) hbq⟩|exact ⟨rfl,on_below hbp hbq⟩|exact ⟨rfl,on_below (un_drew hbq) hbp⟩|exact ⟨rfl,on_below hbq hbp⟩|exact ⟨rfl,on_below (un_drew hbp) (un_drew hbq)⟩|exact ⟨rfl,on_below hbp (un_drew hbq)⟩|exact ⟨rfl,on_below (un_drew hbq) (un_drew hbp)⟩|exact ⟨rfl,on_below hbq (un_drew hbp)⟩)
    case rest =>
      obtain ⟨rfl,hb2⟩:=hcut
      go_wp2
      go_ret
      exact ⟨rfl,on_below hb0 hb2⟩
  rw [h3' k0 k1 k2]
  clear h0' h1' h2' h3' f0 f1 f2 f3 f4
  go_enter Tryz.func90,Tryz.ntmps90
  go_wp2
  go_ret
  exact ⟨rfl,hb0⟩
def ptext (c : Cfg) (k : Nat) : List UInt8:=hline c.timeout c.drift++[10]++((c.rules.take k).map rule).flatten
theorem ptext_all (c : Cfg) : ptext c c.rules.length=print c:=by unfold ptext print;rw [List.take_length]
theorem ptext_next (c : Cfg) (k : Nat) (hk : k<c.rules.length) : ptext c (k+1)=ptext c k++rule c.rules[k]:=by
  unfold ptext
  rw [List.take_succ_eq_append_getElem hk]
  simp only [List.map_append,List.map_cons,List.map_nil,List.flatten_append,List.flatten_cons,List.flatten_nil,List.append_nil,List.append_assoc]
theorem rule_len (r : Rul) (hf : r.Fits) : (rule r).length≤67:=by
  obtain ⟨f0,f1,f2,f3,f4⟩:=hf
  by_cases k0 : r.kind=0
  · rw [rule0r r k0];have:=itoa_len f1;simp;omega
  by_cases k1 : r.kind=1
  · rw [rule1r r k1];have:=itoa_len f4;simp;omega
  by_cases k2 : r.kind=2
  · rw [rule2r r k2];have h1:=itoa_len f2;have h2:=itoa_len f3;simp;omega
  rw [rule3r r k0 k1 k2];simp
theorem hline_len (t d : Int) (ht : in64 t) (hd : in64 d) : (hline t d).length≤66:=by
  have:=lineOf_len tSource [t,d] (by decide) (by simpa using ⟨ht,hd⟩)
  simpa [hline] using this
theorem ptext_len (c : Cfg) (hf : c.Fits) : ∀ k,k≤c.rules.length→(ptext c k).length≤(k+1)*67:=by
  intro k
  induction k with
  | zero=>intro _;have:=hline_len c.timeout c.drift hf.timeout hf.drift;simp [ptext];omega
  | succ k ih =>
    intro hk
    rw [ptext_next c k (by omega),List.length_append]
    have h1:=ih (by omega)
    have h2:=rule_len c.rules[k] (hf.rules _ (List.getElem_mem _))
    omega
theorem hline_eq (t d : Int) : hline t d++[10]=[115,111,117,114,99,101,32]++itoa t++[32]++itoa d++[10]:=by
  simp [hline,lineOf,glue]
theorem ref_print (c : Cfg) (hf : c.Fits) (a : Option Addr) (n cap : Nat) (w : World) (hr : RowU w a c.rules) (hn : n=c.rules.length) (hl : n≤1000) :
    Calls Tryz.prog 43 #[.agg #[.slice a n cap,.int .i64 c.timeout,.int .i64 c.drift]] w fun e w'=>e = .returned (.string (bstr (print c)))∧Below w.heap.size w w':=by
  have hP0 : ptext c 0=[115,111,117,114,99,101,32]++itoa c.timeout++[32]++itoa c.drift++[10]:=by rw [← hline_eq];simp [ptext]
  have hPn : ptext c n=print c:=by rw [hn,ptext_all]
  rw [← hPn]
  have hl1:=itoa_len hf.timeout
  have hl2:=itoa_len hf.drift
  obtain ⟨t1,ht1,hc1⟩:=tx_let [115,111,117,114,99,101,32] (itoa c.timeout) (by simp only [List.length_cons,List.length_nil];omega)
  obtain ⟨t2,ht2,hc2⟩:=tx_let ([115,111,117,114,99,101,32]++itoa c.timeout) [32] (by simp only [List.length_append,List.length_cons,List.length_nil];omega)
  obtain ⟨t3,ht3,hc3⟩:=tx_let ([115,111,117,114,99,101,32]++itoa c.timeout++[32]) (itoa c.drift) (by simp only [List.length_append,List.length_cons,List.length_nil];omega)
  obtain ⟨t4,ht4,hc4⟩:=tx_let ([115,111,117,114,99,101,32]++itoa c.timeout++[32]++itoa c.drift) [10] (by simp only [List.length_append,List.length_cons,List.length_nil];omega)
  rw [ht1] at hc2
  rw [ht2] at hc3
  rw [ht3] at hc4
  rw [← hP0] at ht4
  have HP:=Lib.hid (fun w=>ref_num c.timeout hf.timeout w)
  have HW:=Lib.hid (fun w=>ref_num c.drift hf.drift w)
  have HPL:=Lib.hid (fun k hk=>ptext_len c hf k hk)
  have HPN:=Lib.hid (fun k hk=>ptext_next c k hk)
  have HF:=Lib.hid hf.rules
  have HT4:=Lib.hid ht4
  have HN:=Lib.hid hn
  clear hP0 hPn hf hn ht1 ht2 ht3 ht4 hl1 hl2
  generalize c.timeout=t at *
  generalize c.drift=d at *
  generalize bstr (itoa t)=A at *
  generalize bstr (itoa d)=B at *
  have hA:=At.alloc w [.slice a n cap,.int .i64 t,.int .i64 d] 24
  have hb0 : Below w.heap.size w (w.alloc (.cells #[.slice a n cap,.int .i64 t,.int .i64 d] 24)):=(Below.refl _ _).alloc (Nat.le_refl _) _
  obtain ⟨hg,c0,z0,c1,z1,c2,z2⟩:=hA.three
  go_enter Tryz.func43,Tryz.ntmps43
  go_wp2
  generalize w.alloc (.cells #[.slice a n cap,.int .i64 t,.int .i64 d] 24)=w1 at *
  go_cut [3] (fun v wx=>v = .string t4∧Below w1.heap.size w1 wx)
  case first =>
    go_region_with (first|(go_at_call 17;first|((with_reducible refine (HP.out _).mono ?_);rintro e wp ⟨rfl,hbp⟩;have d1p:=cell_stays hbp (by first|exact c1|exact d1q);have d2p:=cell_stays hbp (by first|exact c2|exact d2q))|((with_reducible refine (HW.out _).mono ?_);rintro e wq ⟨rfl,hbq⟩;have d1q:=cell_stays hbq (by first|exact c1|exact d1p);have d2q:=cell_stays hbq (by first|exact c2|exact d2p))))
    all_goals (go_wp2_with fail;go_meet;first|exact ⟨rfl,on_below (un_drew hbp) hbq⟩|exact ⟨rfl,on_below hbp hbq⟩|exact ⟨rfl,on_below (un_drew hbq) hbp⟩|exact ⟨rfl,on_below hbq hbp⟩|exact ⟨rfl,on_below (un_drew hbp) (un_drew hbq)⟩|exact ⟨rfl,on_below hbp (un_drew hbq)⟩|exact ⟨rfl,on_below (un_drew hbq) (un_drew hbp)⟩|exact ⟨rfl,on_below hbq (un_drew hbp)⟩)
  case rest =>
    obtain ⟨rfl,hb2⟩:=hcut
    have hA2:=hA.on hb2
    have hb3:=on_below hb0 hb2
    obtain rfl:=HT4.out
    clear hc1 hc2 hc3 hc4 c0 c1 c2 z0 z1 z2
    go_wp2
    go_loopw [3,4] (fun v i wr=>∃ k : Nat,k≤n∧i = .int .i64 k∧v = .string (bstr (ptext c k))∧At wr w.heap.size [.slice a n cap,.int .i64 t,.int .i64 d]∧Below w.heap.size w wr) (fun _ i _=>n - (intOf i).toNat)
    case atStart=>exact ⟨0,Nat.zero_le _,rfl,rfl,hA2,hb3⟩
    case round =>
      clear hA2 hb3 hb2 hA hb0
      obtain ⟨k,hk,rfl,rfl,hAt,hb⟩:=hrel
      obtain ⟨hg',c0,z0,c1,z1,c2,z2⟩:=hAt.three
      by_cases hlt : k<n
      · have hk1 : k<c.rules.length:=by rw [← HN.out];exact hlt
        have hrow:=hr.below hb
        obtain ⟨b0,off,rfl,-,-⟩:=hrow.at_ k hk1
        obtain ⟨hbl,r0,r1,r2,r3,r4⟩:=RowU.cells hrow k hk1
        have hx:=HF.out _ (List.getElem_mem hk1)
        have hpn:=HPN.out k hk1
        obtain ⟨t9,ht9,hc9⟩:=tx_let (ptext c k) (rule c.rules[k]) (by have h1:=HPL.out k (by omega);have h2:=rule_len _ hx;omega)
        rw [← hpn] at ht9
        have HR:=Lib.hid (fun w=>ref_rule c.rules[k] hx w)
        have HT9:=Lib.hid ht9
        clear hrow hpn ht9 hx
        generalize hrk : c.rules[k]=r at *
        clear hrk hk1
        obtain ⟨rk,rb,rp,rn,rs⟩:=r
        simp only at r0 r1 r2 r3 r4
        have HR : Hid (∀ w,Calls Tryz.prog 90 #[.agg #[.int .i64 rk,.int .i64 rb,.int .i64 rp,.int .i64 rn,.int .i64 rs]] w fun e w'=>e = .returned (.string (bstr (rule ⟨rk,rb,rp,rn,rs⟩)))∧Below w.heap.size w w'):=HR
        generalize bstr (rule ⟨rk,rb,rp,rn,rs⟩)=RT at *
        generalize bstr (ptext c k)=PT at *
        go_wp2_with (go_at_call 90;refine (HR.out _).mono ?_;rintro e w3 ⟨rfl,hb4⟩)
        go_roundw
        case rel=>exact ⟨k+1,by omega,by go_num,(by rw [HT9.out]),hAt.on hb4,on_below hb hb4⟩
        case measure=>simp [intOf];omega
      · obtain rfl : k=n:=by omega
        go_wp2
        go_ret
        exact ⟨rfl,hb⟩
end Go.Proofs.YtmimfkhkilijcaaGreatDoor
namespace Go.Proofs.YtmimfkhkilijcaaGreatDoor
open Go.ChangeShapes Go.WideShapes Go.ChangeAt Go.RowKit
open PWord
theorem ref_only (r : Rul) (o : Bool) (ho : only r=o) (w : World) :
    Calls Tryz.prog 26 #[r.val] w fun e w'=>e = .returned (.bool o)∧Below w.heap.size w w':=by
  have HO:=Lib.hid ho
  clear ho
  obtain ⟨k,b,p,n,s⟩:=r
  unfold Rul.val
  simp only at *
  have hA:=At.alloc w [.int .i64 k,.int .i64 b,.int .i64 p,.int .i64 n,.int .i64 s] 59
  have hb0 : Below w.heap.size w (w.alloc (.cells #[.int .i64 k,.int .i64 b,.int .i64 p,.int .i64 n,.int .i64 s] 59)):=(Below.refl _ _).alloc (Nat.le_refl _) _
  obtain ⟨hg,c0,z0,c1,z1,c2,z2,c3,z3,c4,z4⟩:=hA.five
  clear hA z0 z1 z2 z3 z4
  by_cases k0 : k=0
  · subst k0
    by_cases e1 : s=0
    · by_cases e2 : p=0
      · by_cases e3 : n=0
        · obtain rfl : o=true:=by rw [← HO.out];simp [only,e1,e2,e3]
          go_enter Tryz.func26,Tryz.ntmps26
          go_wp2
          go_ret
          exact ⟨by first|rfl|(refine ret_bool ?_;simp_all),(Below.refl _ _).alloc (Nat.le_refl _) _⟩
        · obtain rfl : o=false:=by rw [← HO.out];simp [only,e3]
          go_enter Tryz.func26,Tryz.ntmps26
          go_wp2
          go_ret
          exact ⟨by first|rfl|(refine ret_bool ?_;simp_all),(Below.refl _ _).alloc (Nat.le_refl _) _⟩
      · obtain rfl : o=false:=by rw [← HO.out];simp [only,e2]
        go_enter Tryz.func26,Tryz.ntmps26
        go_wp2
        go_ret
        exact ⟨by first|rfl|(refine ret_bool ?_;simp_all),(Below.refl _ _).alloc (Nat.le_refl _) _⟩
    · obtain rfl : o=false:=by rw [← HO.out];simp [only,e1]
      go_enter Tryz.func26,Tryz.ntmps26
      go_wp2
      go_ret
      exact ⟨by first|rfl|(refine ret_bool ?_;simp_all),(Below.refl _ _).alloc (Nat.le_refl _) _⟩
  by_cases k1 : k=1
  · subst k1
    by_cases e1 : b=0
    · by_cases e2 : p=0
      · by_cases e3 : n=0
        · obtain rfl : o=true:=by rw [← HO.out];simp [only,e1,e2,e3]
          go_enter Tryz.func26,Tryz.ntmps26
          go_wp2
          go_ret
          exact ⟨by first|rfl|(refine ret_bool ?_;simp_all),(Below.refl _ _).alloc (Nat.le_refl _) _⟩
        · obtain rfl : o=false:=by rw [← HO.out];simp [only,e3]
          go_enter Tryz.func26,Tryz.ntmps26
          go_wp2
          go_ret
          exact ⟨by first|rfl|(refine ret_bool ?_;simp_all),(Below.refl _ _).alloc (Nat.le_refl _) _⟩
      · obtain rfl : o=false:=by rw [← HO.out];simp [only,e2]
        go_enter Tryz.func26,Tryz.ntmps26
        go_wp2
        go_ret
        exact ⟨by first|rfl|(refine ret_bool ?_;simp_all),(Below.refl _ _).alloc (Nat.le_refl _) _⟩
    · obtain rfl : o=false:=by rw [← HO.out];simp [only,e1]
      go_enter Tryz.func26,Tryz.ntmps26
      go_wp2
      go_ret
      exact ⟨by first|rfl|(refine ret_bool ?_;simp_all),(Below.refl _ _).alloc (Nat.le_refl _) _⟩
  by_cases k2 : k=2
  · subst k2
    by_cases e1 : b=0
    · by_cases e2 : s=0
      · obtain rfl : o=true:=by rw [← HO.out];simp [only,e1,e2]
        go_enter Tryz.func26,Tryz.ntmps26
        go_wp2
        go_ret
        exact ⟨by first|rfl|(refine ret_bool ?_;simp_all),(Below.refl _ _).alloc (Nat.le_refl _) _⟩
      · obtain rfl : o=false:=by rw [← HO.out];simp [only,e2]
        go_enter Tryz.func26,Tryz.ntmps26
        go_wp2
        go_ret
        exact ⟨by first|rfl|(refine ret_bool ?_;simp_all),(Below.refl _ _).alloc (Nat.le_refl _) _⟩
    · obtain rfl : o=false:=by rw [← HO.out];simp [only,e1]
      go_enter Tryz.func26,Tryz.ntmps26
      go_wp2
      go_ret
      exact ⟨by first|rfl|(refine ret_bool ?_;simp_all),(Below.refl _ _).alloc (Nat.le_refl _) _⟩
  obtain rfl : o=false:=by rw [← HO.out];simp [only,k0,k1,k2]
  go_enter Tryz.func26,Tryz.ntmps26
  go_wp2
  go_ret
  exact ⟨by first|rfl|(refine ret_bool ?_;simp_all),(Below.refl _ _).alloc (Nat.le_refl _) _⟩
open Go.Lib (itoa)
theorem At.put2 {w : World} {g : Nat} {a b : Value} (h : At w g [a,b]) :
    (∀ x,(w.setCell ⟨g,0,none⟩ x).cell? ⟨g,0,none⟩=some x)∧(∀ x y,((w.setCell ⟨g,0,none⟩ x).setCell ⟨g,1,none⟩ y).cell? ⟨g,1,none⟩=some y) :=
  ⟨fun x=>((h.set 0 (by simp) x).2 0 (by simp)).1,fun x y=>(((h.set 0 (by simp) x).set 1 (by simp) y).2 1 (by simp)).1⟩
theorem ch_poll (n : Int) (w : World) : Calls Tryz.prog 193 #[.int .i64 n] w fun e w'=>e = .returned (.agg #[.bool false,.int .i64 n])∧Below w.heap.size w w':=by
  have hb0 : Below w.heap.size w (w.alloc (.cells #[.bool false,.int .i64 n] 50)):=(Below.refl _ _).alloc (Nat.le_refl _) _
  obtain ⟨hg,c0,z0,c1,z1⟩:=(At.alloc w [.bool false,.int .i64 n] 50).two
  go_enter Tryz.func193,Tryz.ntmps193
  go_wp2
  exact bodyPost_ret (v:=.agg #[.bool false,.int .i64 n]) (by simp [results,Tryz.results193,go_sem]) rfl ⟨rfl,hb0⟩
theorem ch_tick (n : Int) (w : World) : Calls Tryz.prog 194 #[.int .i64 n] w fun e w'=>e = .returned (.agg #[.bool true,.int .i64 n])∧Below w.heap.size w w':=by
  have hb0 : Below w.heap.size w (w.alloc (.cells #[.bool true,.int .i64 n] 50)):=(Below.refl _ _).alloc (Nat.le_refl _) _
  go_enter Tryz.func194,Tryz.ntmps194
  go_wp2
  exact bodyPost_ret (v:=.agg #[.bool true,.int .i64 n]) (by simp [results,Tryz.results194,go_sem]) rfl ⟨rfl,hb0⟩
def ReadPost (o : Option (Bool×Int)) (w : World) (e : Ending) (w' : World) : Prop :=
  e = .returned (.tuple #[.agg #[.bool (o.getD (false,0)).1,.int .i64 (o.getD (false,0)).2],.bool o.isSome])∧Below w.heap.size w w'
def readP (a : List UInt8) (o : Option Int) : Option (Bool×Int) :=
  match o with
  | none=>none
  | some n=>if a=tPoll then some (false,n) else if a=tTick then some (true,n) else none
theorem read_eq (l : List UInt8) : PWord.read l=readP (Lib.cut l [32]).1 (PWord.numOf (Lib.cut l [32]).2.1):=by unfold PWord.read readP;rfl
theorem nums_one (l : List UInt8) : nums [l]=(PWord.numOf l).map fun n=>[n]:=by
  rw [nums_cons]
  cases PWord.numOf l <;> rfl
theorem cut_len2 (l : List UInt8) : (Lib.cut l [32]).2.1.length≤l.length:=by
  by_cases h : (32 : UInt8)∈l
  · obtain ⟨a,b,rfl,ha⟩:=part_at 32 l h
    rw [cut_some 32 a b ha]
    simp
    omega
  · rw [cut_none 32 l h];simp
theorem rows_one {w : World} {N : Nat} {x : ByteArray} (h : w.cell? ⟨N,0,none⟩=some (.string x)) : RowS w (some ⟨N,0,none⟩) [x]:=by
  refine ⟨fun i hi=>⟨N,0,rfl,cell_lt h,?_⟩⟩
  obtain rfl : i=0:=by simpa using hi
  exact h
def NumOne (n : Int) (w : World) (e : Ending) (w' : World) : Prop:=∃ g off c,e = .returned (.tuple #[.slice (some ⟨g,off,none⟩) 1 c,.bool true])∧w'.cell? ⟨g,off,none⟩=some (.int .i64 n)∧Below w.heap.size w w'
def NumNot (w : World) (e : Ending) (w' : World) : Prop:=∃ a c,e = .returned (.tuple #[.slice a 0 c,.bool false])∧Below w.heap.size w w'
theorem num_one (b : List UInt8) (hb : b.length≤1000000) (n : Int) (hn : PWord.numOf b=some n) (N : Nat) (w : World) (he : EnvW w) (h : w.cell? ⟨N,0,none⟩=some (.string (bstr b))) :
    Calls Tryz.prog 126 #[.slice (some ⟨N,0,none⟩) 1 1] w (NumOne n w):=by
  have hx:=cf_numbers (some ⟨N,0,none⟩) 1 1 [bstr b] w he (rows_one h) rfl (by simp) (fun x hx=>by simp at hx;subst hx;rw [tx_size];exact hb)
  rw [show bl [bstr b]=[b] from rfl,nums_one,hn] at hx
  refine hx.mono ?_
  rintro e w' ⟨v,he,hv,hbw⟩
  obtain ⟨-,a,c,rfl,hr⟩:=rowi_of_sl (l:=[n]) hv (fun x hx=>by simp at hx;subst hx;exact (numOf_some hn).2)
  obtain ⟨g,off,rfl,-,hc⟩:=hr.at_ 0 (by simp)
  exact ⟨g,off,c,he,by simpa using hc,hbw⟩
theorem num_not (b : List UInt8) (hb : b.length≤1000000) (hn : PWord.numOf b=none) (N : Nat) (w : World) (he : EnvW w) (h : w.cell? ⟨N,0,none⟩=some (.string (bstr b))) :
    Calls Tryz.prog 126 #[.slice (some ⟨N,0,none⟩) 1 1] w (NumNot w):=by
  have hx:=cf_numbers (some ⟨N,0,none⟩) 1 1 [bstr b] w he (rows_one h) rfl (by simp) (fun x hx=>by simp at hx;subst hx;rw [tx_size];exact hb)
  rw [show bl [bstr b]=[b] from rfl,nums_one,hn] at hx
  refine hx.mono ?_
  rintro e w' ⟨v,he,hv,hbw⟩
  obtain ⟨a,c,rfl⟩:=hv.shape
  exact ⟨a,c,he,hbw⟩
theorem ch_read (s : ByteArray) (w : World) (he : EnvW w) (hs : s.size≤1000000) :
    Calls Tryz.prog 136 #[.string s] w (ReadPost (PWord.read s.data.toList) w):=by
  have hcl:=cut_len2 s.data.toList
  have hsl : s.data.toList.length=s.size:=by simp
  rw [read_eq]
  have hb0 : Below w.heap.size w (w.alloc (.cells #[.bool false,.int .i64 0] 50)):=(Below.refl _ _).alloc (Nat.le_refl _) _
  have hA:=At.alloc w [.bool false,.int .i64 0] 50
  have he0:=he.on hb0
  have HC:=Lib.hid (li_cut s _ hs he0)
  generalize Lib.cut s.data.toList [32]=p at *
  obtain ⟨a,b,y⟩:=p
  simp only at *
  cases ho : PWord.numOf b with
  | none =>
    have HNUM:=Lib.hid (num_not b (by omega) ho)
    clear he hsl hcl ho
    show Calls Tryz.prog 136 #[.string s] w (ReadPost none w)
    go_enter Tryz.func136,Tryz.ntmps136
    go_wp2_with (first|(go_at_call 41;(with_reducible refine HC.out.mono ?_);rintro e w1 ⟨y1,rfl,hb1⟩;have he1:=(he0.on hb1).on ((Below.refl _ _).alloc (Nat.le_refl _) (.cells #[.string (bstr b)] 9));have hc1:=(At.alloc w1 [.string (bstr b)] 9).one.2.1)|(go_at_call 126;(with_reducible refine (HNUM.out _ _ he1 hc1).mono ?_);rintro e w2 ⟨a2,c2,rfl,hb2⟩;have hb3:=on_below ((on_below hb0 hb1).alloc (by have:=hb1.size;simp at this;omega) (.cells #[.string (bstr b)] 9)) hb2;have hA3:=((hA.on hb1).on ((Below.refl _ _).alloc (Nat.le_refl _) (.cells #[.string (bstr b)] 9))).on hb2;obtain ⟨hg,c0,z0,c1,z1⟩:=hA3.two;obtain ⟨p0,p1⟩:=hA3.put2))
    exact bodyPost_ret (v:=.tuple #[.agg #[.bool false,.int .i64 0],.bool false]) (by simp [results,Tryz.results136,go_sem,p0,p1,hg]) rfl ⟨rfl,((hb3.setCell (Nat.le_refl _) _).setCell (Nat.le_refl _) _)⟩
  | some n =>
    have HNUM:=Lib.hid (num_one b (by omega) n ho)
    clear he hsl hcl ho
    by_cases k0 : a=tPoll
    · have hr : readP a (some n)=some (false,n):=by simp [readP,k0]
      rw [hr]
      subst k0
      have HP:=Lib.hid (fun w=>ch_poll n w)
      go_enter Tryz.func136,Tryz.ntmps136
      go_wp2_with (first|(go_at_call 41;(with_reducible refine HC.out.mono ?_);rintro e w1 ⟨y1,rfl,hb1⟩;have he1:=(he0.on hb1).on ((Below.refl _ _).alloc (Nat.le_refl _) (.cells #[.string (bstr b)] 9));have hc1:=(At.alloc w1 [.string (bstr b)] 9).one.2.1)|(go_at_call 126;(with_reducible refine (HNUM.out _ _ he1 hc1).mono ?_);rintro e w2 ⟨g2,o2,c2,rfl,hq,hb2⟩;have hb3:=on_below ((on_below hb0 hb1).alloc (by have:=hb1.size;simp at this;omega) (.cells #[.string (bstr b)] 9)) hb2;have hA3:=((hA.on hb1).on ((Below.refl _ _).alloc (Nat.le_refl _) (.cells #[.string (bstr b)] 9))).on hb2;obtain ⟨hg,c0,z0,c1,z1⟩:=hA3.two;obtain ⟨p0,p1⟩:=hA3.put2)|(go_at_call 193;(with_reducible refine (HP.out _).mono ?_);rintro e w4 ⟨rfl,hb4⟩;obtain ⟨hg4,d0,y0,d1,y1⟩:=(hA3.on hb4).two;obtain ⟨q0,q1⟩:=(hA3.on hb4).put2))
      exact bodyPost_ret (v:=.tuple #[.agg #[.bool false,.int .i64 n],.bool true]) (by simp [results,Tryz.results136,go_sem,q0,q1,hg4]) rfl ⟨rfl,(((on_below hb3 hb4).setCell (Nat.le_refl _) _).setCell (Nat.le_refl _) _)⟩
    by_cases k1 : a=tTick
    · have hr : readP a (some n)=some (true,n):=by simp [readP,k1]
      rw [hr]
      subst k1
      have HP:=Lib.hid (fun w=>ch_tick n w)
      go_enter Tryz.func136,Tryz.ntmps136
      go_wp2_with (first|(go_at_call 41;(with_reducible refine HC.out.mono ?_);rintro e w1 ⟨y1,rfl,hb1⟩;have he1:=(he0.on hb1).on ((Below.refl _ _).alloc (Nat.le_refl _) (.cells #[.string (bstr b)] 9));have hc1:=(At.alloc w1 [.string (bstr b)] 9).one.2.1)|(go_at_call 126;(with_reducible refine (HNUM.out _ _ he1 hc1).mono ?_);rintro e w2 ⟨g2,o2,c2,rfl,hq,hb2⟩;have hb3:=on_below ((on_below hb0 hb1).alloc (by have:=hb1.size;simp at this;omega) (.cells #[.string (bstr b)] 9)) hb2;have hA3:=((hA.on hb1).on ((Below.refl _ _).alloc (Nat.le_refl _) (.cells #[.string (bstr b)] 9))).on hb2;obtain ⟨hg,c0,z0,c1,z1⟩:=hA3.two;obtain ⟨p0,p1⟩:=hA3.put2)|(go_at_call 194;(with_reducible refine (HP.out _).mono ?_);rintro e w4 ⟨rfl,hb4⟩;obtain ⟨hg4,d0,y0,d1,y1⟩:=(hA3.on hb4).two;obtain ⟨q0,q1⟩:=(hA3.on hb4).put2))
      exact bodyPost_ret (v:=.tuple #[.agg #[.bool true,.int .i64 n],.bool true]) (by simp [results,Tryz.results136,go_sem,q0,q1,hg4]) rfl ⟨rfl,(((on_below hb3 hb4).setCell (Nat.le_refl _) _).setCell (Nat.le_refl _) _)⟩
    have hr : readP a (some n)=none:=by simp [readP,k0,k1]
    rw [hr]
    have e0 : (a == [112,111,108,108])=false:=by rw [beq_eq_false_iff_ne];exact k0
    have e1 : (a == [116,105,99,107])=false:=by rw [beq_eq_false_iff_ne];exact k1
    clear hr k0 k1
    go_enter Tryz.func136,Tryz.ntmps136
    go_wp2_with (first|(go_at_call 41;(with_reducible refine HC.out.mono ?_);rintro e w1 ⟨y1,rfl,hb1⟩;have he1:=(he0.on hb1).on ((Below.refl _ _).alloc (Nat.le_refl _) (.cells #[.string (bstr b)] 9));have hc1:=(At.alloc w1 [.string (bstr b)] 9).one.2.1)|(go_at_call 126;(with_reducible refine (HNUM.out _ _ he1 hc1).mono ?_);rintro e w2 ⟨g2,o2,c2,rfl,hq,hb2⟩;have hb3:=on_below ((on_below hb0 hb1).alloc (by have:=hb1.size;simp at this;omega) (.cells #[.string (bstr b)] 9)) hb2;have hA3:=((hA.on hb1).on ((Below.refl _ _).alloc (Nat.le_refl _) (.cells #[.string (bstr b)] 9))).on hb2;obtain ⟨hg,c0,z0,c1,z1⟩:=hA3.two;obtain ⟨p0,p1⟩:=hA3.put2))
    exact bodyPost_ret (v:=.tuple #[.agg #[.bool false,.int .i64 0],.bool false]) (by simp [results,Tryz.results136,go_sem,p0,p1,hg]) rfl ⟨rfl,((hb3.setCell (Nat.le_refl _) _).setCell (Nat.le_refl _) _)⟩
end Go.Proofs.YtmimfkhkilijcaaGreatDoor
namespace Go.Proofs.YtmimfkhkilijcaaGreatDoor
open Go.ChangeShapes Go.WideShapes Go.ChangeAt Go.RowKit
open PWord
theorem info_chC : (Tryz.prog.info? 50).map (fun i=>(i.zero,i.size,i.bytes))=some (some (.agg #[.bool false,.int .i64 0]),2,16):=by kernel_rfl
end Go.Proofs.YtmimfkhkilijcaaGreatDoor
