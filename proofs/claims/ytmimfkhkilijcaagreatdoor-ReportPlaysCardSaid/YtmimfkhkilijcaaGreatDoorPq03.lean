/- KSPlain; KQuA: what is reached of them. -/
import Derived.Laws.RangeAny
import Derived.Lib.Strings
import Derived.Test.YtmimfkhkilijcaaGreatDoorPq01
import Derived.Test.YtmimfkhkilijcaaGreatDoorPq02
import Derived.WalkKit
import Derived.ProofKit
import Derived.OpenShut
import Derived.Handy
import Derived.BigQuiet
import Derived.Deep.QuietTactic
import Derived.IntWalk
import Derived.Outline
import Derived.WalkLawsBesides
import Derived.Deep.RegionWith
import Derived.Deep.RegionHeld3
import Derived.Lib.OthersKept
set_option linter.unusedVariables false
set_option linter.unusedSimpArgs false
set_option maxRecDepth 100000
set_option maxHeartbeats 8000000
namespace PSign
open Go
def byt (l : List UInt8) (k : Nat) : Nat:=(l.getD k 0).toNat
theorem byt_lt (l : List UInt8) (k : Nat) : byt l k<256:=UInt8.toNat_lt _
def con (l : List UInt8) (k : Nat) : Prop:=k<l.length∧128≤byt l k∧byt l k<192
instance (l : List UInt8) (k : Nat) : Decidable (con l k):=inferInstanceAs (Decidable (_∧_))
def fit (n least m : Nat) : Nat×Nat:=if n<least∨1114111<n∨(55296≤n∧n≤57343) then (0,0) else (n,m)
def first (l : List UInt8) : Nat×Nat :=
  if byt l 0<128 then (byt l 0,1)
  else if 192≤byt l 0∧byt l 0<224 then (if con l 1 then fit ((byt l 0 - 192)*64+(byt l 1 - 128)) 128 2 else (0,0))
  else if 224≤byt l 0∧byt l 0<240 then (if con l 1∧con l 2 then fit (((byt l 0 - 224)*64+(byt l 1 - 128))*64+(byt l 2 - 128)) 2048 3 else (0,0))
  else if 240≤byt l 0∧byt l 0<248 then (if con l 1∧con l 2∧con l 3 then fit ((((byt l 0 - 240)*64+(byt l 1 - 128))*64+(byt l 2 - 128))*64+(byt l 3 - 128)) 65536 4 else (0,0))
  else (0,0)
def stp (l : List UInt8) : Nat:=if (first l).2=0 then 1 else (first l).2
def sg (l : List UInt8) : Int:=if (first l).2=0 then -(byt l 0 : Int) - 1 else ((first l).1 : Int)
theorem fit_len {n least m : Nat} : (fit n least m).2=0∨(fit n least m).2=m:=by unfold fit;split <;> simp
theorem first_le (l : List UInt8) (h : l≠[]) : (first l).2≤l.length:=by
  have hl : 0<l.length:=List.length_pos_iff.2 h
  unfold first
  split
  · exact hl
  · split
    · split
      · rename_i hc
        have:=hc.1
        rcases fit_len (n:=(byt l 0 - 192)*64+(byt l 1 - 128)) (least:=128) (m:=2) with e|e <;> rw [e] <;> omega
      · exact Nat.zero_le _
    · split
      · split
        · rename_i hc
          have:=hc.2.1
          rcases fit_len (n:=((byt l 0 - 224)*64+(byt l 1 - 128))*64+(byt l 2 - 128)) (least:=2048) (m:=3) with e|e <;> rw [e] <;> omega
        · exact Nat.zero_le _
      · split
        · split
          · rename_i hc
            have:=hc.2.2.1
            rcases fit_len (n:=(((byt l 0 - 240)*64+(byt l 1 - 128))*64+(byt l 2 - 128))*64+(byt l 3 - 128)) (least:=65536) (m:=4) with e|e <;> rw [e] <;> omega
          · exact Nat.zero_le _
        · exact Nat.zero_le _
theorem stp_pos (l : List UInt8) : 1≤stp l:=by unfold stp;split <;> omega
theorem stp_le (l : List UInt8) (h : l≠[]) : stp l≤l.length:=by
  have h1:=first_le l h
  have h2 : 0<l.length:=List.length_pos_iff.2 h
  unfold stp
  split <;> omega
def signs (l : List UInt8) : List Int:=if h : l=[] then [] else sg l::signs (l.drop (stp l))
termination_by l.length
decreasing_by
  rw [List.length_drop]
  have:=stp_pos l
  have : 0<l.length:=List.length_pos_iff.2 h
  omega
theorem signs_nil : signs []=[]:=by rw [signs,dif_pos rfl]
theorem signs_cons (l : List UInt8) (h : l≠[]) : signs l=sg l::signs (l.drop (stp l)):=by rw [signs,dif_neg h]
theorem get_byt (s : ByteArray) (pos k : Nat) : (s.get! (pos+k)).toNat=byt (s.data.toList.drop pos) k:=by
  unfold byt
  rw [List.getD_eq_getElem?_getD,List.getElem?_drop]
  by_cases h : pos+k<s.size
  · have h' : pos+k<s.data.size:=h
    show (s.data[pos+k]!).toNat=_
    rw [getElem!_pos s.data (pos+k) h']
    simp
    rw [Array.getElem?_eq_getElem h']
    rfl
  · have h' : ¬ pos+k<s.data.size:=h
    show (s.data[pos+k]!).toNat=_
    rw [getElem!_neg s.data (pos+k) h']
    simp
    rw [Array.getElem?_eq_none (by omega)]
    rfl
theorem decode_first (s : ByteArray) (pos : Nat) : Utf8.decode s pos=if (first (s.data.toList.drop pos)).2=0 then (65533,1) else first (s.data.toList.drop pos):=by
  have hlen : ∀ k,pos+k<s.size↔k<(s.data.toList.drop pos).length:=by
    intro k
    rw [List.length_drop]
    have : s.data.toList.length=s.size:=by simp
    omega
  generalize hl : s.data.toList.drop pos=l at *
  have hb : ∀ k,(s.get! (pos+k)).toNat=byt l k:=by intro k;rw [← hl];exact get_byt s pos k
  have h0:=byt_lt l 0
  have hcon : ∀ k,(decide (pos+k<s.size) && (byt l k / 64 == 2))=decide (con l k):=by
    intro k
    have hk:=byt_lt l k
    rw [Bool.eq_iff_iff,Bool.and_eq_true,decide_eq_true_eq,decide_eq_true_eq,beq_iff_eq,hlen k]
    unfold con
    constructor
    · intro ⟨a,b⟩
      exact ⟨a,by omega,by omega⟩
    · intro ⟨a,b,c⟩
      exact ⟨a,by omega⟩
  unfold Utf8.decode
  simp only [hb,hcon]
  unfold first
  by_cases c1 : byt l 0<128
  · rw [if_pos c1,if_pos c1];rfl
  · rw [if_neg c1,if_neg c1]
    by_cases c2 : 192≤byt l 0∧byt l 0<224
    · have e6 : (byt l 0 / 32 == 6)=true:=by rw [beq_iff_eq];omega
      have e14 : (byt l 0 / 16 == 14)=false:=by rw [beq_eq_false_iff_ne];omega
      have e30 : (byt l 0 / 8 == 30)=false:=by rw [beq_eq_false_iff_ne];omega
      rw [if_pos c2]
      simp only [e6,e14,e30,Bool.true_and,Bool.false_and]
      by_cases d1 : con l 1
      · obtain ⟨_,h1,h2⟩:=d1
        have d1 : con l 1:=⟨by assumption,h1,h2⟩
        rw [show byt l 0 % 32=byt l 0 - 192 by omega,show byt l 1 % 64=byt l 1 - 128 by omega]
        simp only [d1,decide_true,if_true]
        have hm : (byt l 0 - 192)*64+(byt l 1 - 128)≤2047:=by omega
        generalize (byt l 0 - 192)*64+(byt l 1 - 128)=n at *
        by_cases hn : n<128
        · have hfit : fit n 128 2=(0,0):=by unfold fit;rw [if_pos (.inl hn)]
          rw [hfit,if_neg (by omega)];rfl
        · have hfit : fit n 128 2=(n,2):=by unfold fit;rw [if_neg (by omega)]
          rw [hfit,if_pos (by omega)];rfl
      · simp [d1,Utf8.runeError]
    · rw [if_neg c2]
      have e6 : (byt l 0 / 32 == 6)=false:=by rw [beq_eq_false_iff_ne];omega
      by_cases c3 : 224≤byt l 0∧byt l 0<240
      · have e14 : (byt l 0 / 16 == 14)=true:=by rw [beq_iff_eq];omega
        have e30 : (byt l 0 / 8 == 30)=false:=by rw [beq_eq_false_iff_ne];omega
        rw [if_pos c3]
        simp only [e6,e14,e30,Bool.true_and,Bool.false_and]
        by_cases d : con l 1∧con l 2
        · obtain ⟨⟨_,h1,h2⟩,⟨_,h3,h4⟩⟩:=id d
          rw [show byt l 0 % 16=byt l 0 - 224 by omega,show byt l 1 % 64=byt l 1 - 128 by omega,show byt l 2 % 64=byt l 2 - 128 by omega,
            show (byt l 0 - 224)*4096+(byt l 1 - 128)*64+(byt l 2 - 128)=((byt l 0 - 224)*64+(byt l 1 - 128))*64+(byt l 2 - 128) by omega]
          have hm : ((byt l 0 - 224)*64+(byt l 1 - 128))*64+(byt l 2 - 128)≤65535:=by omega
          simp only [d.1,d.2,decide_true,Bool.and_self,if_true,and_self,Bool.false_eq_true,if_false]
          unfold fit
          generalize ((byt l 0 - 224)*64+(byt l 1 - 128))*64+(byt l 2 - 128)=n at *
          have hv : Utf8.valid (n : Int)=decide (n<55296∨57344≤n):=by
            unfold Utf8.valid
            rw [Bool.eq_iff_iff]
            simp
            omega
          rw [hv]
          by_cases hn : n<2048∨1114111<n∨(55296≤n∧n≤57343)
          · rw [if_neg (by simp;omega),if_pos hn];rfl
          · rw [if_pos (by simp;omega),if_neg hn];rfl
        · rw [if_neg d]
          have : (decide (con l 1) && decide (con l 2))=false:=by rw [Bool.eq_false_iff];simpa using d
          simp [this,Utf8.runeError]
      · rw [if_neg c3]
        have e14 : (byt l 0 / 16 == 14)=false:=by rw [beq_eq_false_iff_ne];omega
        by_cases c4 : 240≤byt l 0∧byt l 0<248
        · have e30 : (byt l 0 / 8 == 30)=true:=by rw [beq_iff_eq];omega
          rw [if_pos c4]
          simp only [e6,e14,e30,Bool.true_and,Bool.false_and]
          by_cases d : con l 1∧con l 2∧con l 3
          · obtain ⟨⟨_,h1,h2⟩,⟨_,h3,h4⟩,⟨_,h5,h6⟩⟩:=id d
            rw [show byt l 0 % 8=byt l 0 - 240 by omega,show byt l 1 % 64=byt l 1 - 128 by omega,show byt l 2 % 64=byt l 2 - 128 by omega,show byt l 3 % 64=byt l 3 - 128 by omega,
              show (byt l 0 - 240)*262144+(byt l 1 - 128)*4096+(byt l 2 - 128)*64+(byt l 3 - 128)=(((byt l 0 - 240)*64+(byt l 1 - 128))*64+(byt l 2 - 128))*64+(byt l 3 - 128) by omega]
            simp only [d.1,d.2.1,d.2.2,decide_true,Bool.and_self,if_true,and_self,Bool.false_eq_true,if_false]
            unfold fit
            generalize (((byt l 0 - 240)*64+(byt l 1 - 128))*64+(byt l 2 - 128))*64+(byt l 3 - 128)=n at *
            have hv : Utf8.valid (n : Int)=decide (n<55296∨(57344≤n∧n≤1114111)):=by
              unfold Utf8.valid
              rw [Bool.eq_iff_iff]
              simp
              omega
            rw [hv]
            by_cases hn : n<65536∨1114111<n∨(55296≤n∧n≤57343)
            · rw [if_neg (by simp;omega),if_pos hn];rfl
            · rw [if_pos (by simp;omega),if_neg hn];rfl
          · rw [if_neg d]
            have : (decide (con l 1) && decide (con l 2) && decide (con l 3))=false:=by rw [Bool.eq_false_iff];simpa [and_assoc] using d
            simp [this,Utf8.runeError]
        · rw [if_neg c4]
          have e30 : (byt l 0 / 8 == 30)=false:=by rw [beq_eq_false_iff_ne];omega
          simp [e6,e14,e30,Utf8.runeError]
theorem con_iff (l : List UInt8) (k : Nat) : con l k↔k<l.length∧128≤byt l k∧byt l k<192:=Iff.rfl
theorem first_bad (l : List UInt8) : (first l).1=65533∧(first l).2≠0↔3≤l.length∧byt l 0=239∧byt l 1=191∧byt l 2=189:=by
  have b0:=byt_lt l 0
  have b1:=byt_lt l 1
  have b2:=byt_lt l 2
  have b3:=byt_lt l 3
  unfold first fit
  repeat' split
  all_goals (try simp only [con_iff] at *)
  all_goals (try simp only [ne_eq,not_true_eq_false,and_false,false_iff,Nat.reduceEqDiff,not_false_eq_true,and_true])
  all_goals omega
theorem first_big (l : List UInt8) : (first l).2≠0→(first l).1≤1114111:=by
  have b0:=byt_lt l 0
  unfold first fit
  repeat' split
  all_goals (try simp only [ne_eq,not_true_eq_false,false_imp_iff])
  all_goals omega
theorem sg_of (l : List UInt8) : sg l=if (first l).2=0 then -(byt l 0 : Int) - 1 else ((first l).1 : Int):=rfl
end PSign
namespace PHex
def dig (d : Nat) : UInt8:=if d<10 then UInt8.ofNat (48+d) else UInt8.ofNat (87+d)
def hex (n : Nat) : List UInt8:=if n<16 then [dig n] else hex (n / 16)++[dig (n % 16)]
termination_by n
decreasing_by omega
theorem hex_low {n : Nat} (h : n<16) : hex n=[dig n]:=by rw [hex,if_pos h]
theorem hex_high {n : Nat} (h : 16≤n) : hex n=hex (n / 16)++[dig (n % 16)]:=by rw [hex,if_neg (by omega)]
theorem hex_len : ∀ (k n : Nat),n<16 ^ (k+1)→(hex n).length≤k+1
  | 0,n,h=>by rw [hex_low (by simpa using h)];simp
  | k+1,n,h=>by
    by_cases h16 : n<16
    · rw [hex_low h16];simp
    · rw [hex_high (by omega),List.length_append]
      have : n / 16<16 ^ (k+1):=by rw [Nat.pow_succ] at h;omega
      have:=hex_len k (n / 16) this
      simp
      omega
theorem hex_pos (n : Nat) : 1≤(hex n).length:=by
  by_cases h : n<16
  · rw [hex_low h];simp
  · rw [hex_high (by omega),List.length_append];simp
theorem hex_len64 {n : Nat} (h : n<18446744073709551616) : (hex n).length≤16:=hex_len 15 n (by simpa using h)
def val (c : UInt8) : Nat:=if 48≤c.toNat∧c.toNat≤57 then c.toNat - 48 else if 97≤c.toNat∧c.toNat≤102 then c.toNat - 87 else if 65≤c.toNat∧c.toNat≤70 then c.toNat - 55 else 16
theorem val_dig : ∀ d,d<16→val (dig d)=d:=by decide
theorem dig_range : ∀ d,d<16→(48≤(dig d).toNat∧(dig d).toNat≤57)∨(97≤(dig d).toNat∧(dig d).toNat≤102):=by decide
theorem hex_mem {c : UInt8} : ∀ n,c∈hex n→∃ d,d<16∧c=dig d:=by
  intro n
  induction n using Nat.strongRecOn with
  | _ n ih =>
    intro h
    by_cases h16 : n<16
    · rw [hex_low h16] at h
      exact ⟨n,h16,by simpa using h⟩
    · rw [hex_high (by omega)] at h
      rcases List.mem_append.1 h with h|h
      · exact ih (n / 16) (by omega) h
      · exact ⟨n % 16,by omega,by simpa using h⟩
def num (l : List UInt8) : Nat:=l.foldl (fun a c=>a*16+val c) 0
theorem num_snoc (l : List UInt8) (c : UInt8) : num (l++[c])=num l*16+val c:=by unfold num;rw [List.foldl_append];rfl
theorem num_hex (n : Nat) : num (hex n)=n:=by
  induction n using Nat.strongRecOn with
  | _ n ih =>
    by_cases h : n<16
    · rw [hex_low h]
      have:=val_dig n h
      show 0*16+val (dig n)=n
      omega
    · rw [hex_high (by omega),num_snoc,ih (n / 16) (by omega),val_dig _ (by omega)]
      omega
end PHex
namespace PQuote
open PSign PHex
def told (n : Int) : List UInt8 :=
  if n<0 then [92,120]++hex (-1 - n).toNat
  else if n<32∨126<n then [92,117,123]++hex n.toNat++[125]
  else if n=34∨n=92 then [92,UInt8.ofNat n.toNat]
  else [UInt8.ofNat n.toNat]
def toldAll (l : List Int) : List UInt8:=l.flatMap told
def quote (l : List UInt8) : List UInt8:=34::toldAll (signs l)++[34]
theorem sg_range (l : List UInt8) : -256≤sg l∧sg l≤1114111:=by
  have h1:=first_big l
  have h2:=byt_lt l 0
  rw [sg_of]
  split
  · omega
  · rename_i h
    have:=h1 h
    omega
theorem told_len (n : Int) (h1 : -256≤n) (h2 : n≤1114111) : (told n).length≤10:=by
  unfold told
  split
  · have:=hex_len 1 (-1 - n).toNat (by omega)
    simp
    omega
  · split
    · have:=hex_len 5 n.toNat (by omega)
      simp
      omega
    · split <;> simp
theorem toldAll_len (l : List Int) (h : ∀ n∈l,-256≤n∧n≤1114111) : (toldAll l).length≤10*l.length:=by
  induction l with
  | nil=>simp [toldAll]
  | cons n l ih =>
    have h1:=told_len n (h n (by simp)).1 (h n (by simp)).2
    have h2:=ih (fun x hx=>h x (by simp [hx]))
    unfold toldAll at h2 ⊢
    rw [List.flatMap_cons,List.length_append,List.length_cons]
    omega
theorem toldAll_snoc (l : List Int) (n : Int) : toldAll (l++[n])=toldAll l++told n:=by
  unfold toldAll
  rw [List.flatMap_append]
  simp
theorem signs_range (l : List UInt8) : ∀ n∈signs l,-256≤n∧n≤1114111:=by
  have h : ∀ k (l : List UInt8),l.length≤k→∀ n∈signs l,-256≤n∧n≤1114111:=by
    intro k
    induction k with
    | zero=>intro l hl;have : l=[]:=List.eq_nil_of_length_eq_zero (by omega);subst this;rw [signs_nil];simp
    | succ k ih =>
      intro l hl
      by_cases hn : l=[]
      · subst hn;rw [signs_nil];simp
      · have h1:=stp_pos l
        rw [signs_cons l hn]
        intro n hm
        rcases List.mem_cons.1 hm with rfl|hm
        · exact sg_range l
        · exact ih (l.drop (stp l)) (by rw [List.length_drop];omega) n hm
  exact h _ l (Nat.le_refl _)
end PQuote
namespace Go.Proofs.YtmimfkhkilijcaaGreatDoor
open Go.ChangeShapes Go.WideShapes Go.ChangeAt Go.RowKit
open PHex
structure Env (w : World) : Prop where
  big : 9≤w.heap.size
  syn : ∃ v,w.cell? ⟨5,0,none⟩=some v∧(v = .nilIface∨∃ te pe,v = .iface te pe)
  rng : ∃ v,w.cell? ⟨6,0,none⟩=some v∧(v = .nilIface∨∃ te pe,v = .iface te pe)
  four : w.cell? ⟨8,15,none⟩=some (.int .u8 4)
theorem Env.below {B : Nat} {w w' : World} (h : Env w) (hb : Below B w w') (hB : 9≤B) : Env w':=by
  have hc : ∀ k o,k<9→w'.cell? ⟨k,o,none⟩=w.cell? ⟨k,o,none⟩:=fun k o hk=>hb.cell (p:=⟨k,o,none⟩) (Nat.lt_of_lt_of_le hk hB)
  refine ⟨Nat.le_trans h.big hb.size,?_,?_,?_⟩
  · rw [hc 5 0 (by omega)];exact h.syn
  · rw [hc 6 0 (by omega)];exact h.rng
  · rw [hc 8 15 (by omega)];exact h.four
theorem Env.on {w w' : World} (h : Env w) (hb : Below w.heap.size w w') : Env w':=h.below hb h.big
theorem tz64 (w : World) (h : Env w) : Calls Tryz.prog 276 #[.int .u64 16] w fun e w'=>e = .returned (.int .i64 4)∧w=w':=by
  have h4:=h.four
  have hn : IntKind.u64.wrap (bits BinOp.and IntKind.u64 16 (IntKind.u64.wrap (-16))*285870213051353865) / 288230376151711744=15:=by decide
  go_enter Tryz.func276,Tryz.ntmps276
  go_wp2
  go_ret
  exact ⟨rfl,rfl⟩
theorem and15_u64 (x : Nat) (hx : x<18446744073709551616) : bits .and .u64 (x : Int) 15=((x % 16 : Nat) : Int):=by
  show IntKind.u64.wrap ((BitVec.ofInt 64 x &&& BitVec.ofInt 64 15).toNat : Int)=_
  rw [BitVec.ofInt_natCast,BitVec.toNat_and,BitVec.toNat_ofNat,Nat.mod_eq_of_lt hx,show (BitVec.ofInt 64 15).toNat=2 ^ 4 - 1 from rfl,Nat.and_two_pow_sub_one_eq_mod,IntKind.wrap_u64]
  omega
abbrev digitText : ByteArray:=⟨#[48,49,50,51,52,53,54,55,56,57,97,98,99,100,101,102,103,104,105,106,107,108,109,110,111,112,113,114,115,116,117,118,119,120,121,122]⟩
theorem digit_at : ∀ d,d<16→∀ h : d<digitText.size,digitText[d]=dig d:=by decide
theorem buf_made (w : World) : (zeroValue 335).run Tryz.prog w = .ok (.agg (Array.replicate 65 (.int .u8 0))) w:=by kernel_rfl
theorem Own.fresh (w : World) (n : Nat) (v : Value) (e : TypeId) : Own (w.alloc (.cells (Array.replicate n v) e)) w.heap.size 0 n (fun _=>v):=by
  refine ⟨by simp,fun j hj=>?_,fun j hj=>?_⟩
  · rw [cell_of_row _ w.heap.size (0+j) _ e (0,0) (heap_alloc_new w _)]
    simp [hj]
  · have e0:=heap_alloc_new w (.cells (Array.replicate n v) e (0,0))
    simp only [World.frozen?,e0]
    simp
theorem fmt_bits (n : Nat) (w : World) (hn : n<18446744073709551616) (h : Env w) :
    Calls Tryz.prog 236 #[.slice none 0 0,.int .u64 n,.int .i64 16,.bool false,.bool false] w fun e w'=>e = .returned (.tuple #[.slice none 0 0,.string (bstr (hex n))])∧Below w.heap.size w w':=by
  have hal:=buf_made w
  have hown:=Own.fresh w 65 (.int .u8 0) 335
  have hbel:=(Below.refl w.heap.size w).alloc (Nat.le_refl _) (.cells (Array.replicate 65 (.int .u8 0)) 335)
  have HTZ : Hid (∀ w,Env w→Calls Tryz.prog 276 #[.int .u64 16] w fun e w'=>e = .returned (.int .i64 4)∧w=w'):=tz64
  have henv:=h.on hbel
  have h16 : bits .and .i64 16 15=0:=by decide
  clear h
  have HENV:=Lib.hid henv
  clear henv
  go_enter Tryz.func236,Tryz.ntmps236
  go_wp2_with (first|(go_at_call 276;refine (HTZ.out _ HENV.out).mono ?_;rintro e w' ⟨rfl,rfl⟩)|go_in)
  generalize hw1 : w.alloc (.cells (Array.replicate 65 (.int .u8 0)) 335)=w1 at *
  clear hal hw1 HTZ h16 HENV
  have hlen:=hex_len64 hn
  go_loopw [1,13] (fun u i wr=>∃ (x k : Nat) (f : Nat→Value) (l : List UInt8),u = .int .u64 x∧i = .int .i64 k∧x<18446744073709551616∧k+l.length=65∧Hid (hex n=hex x++l)∧Own wr w.heap.size 0 65 f∧Hid (∀ j (h : j<l.length),f (k+j) = .int .u8 (l[j].toNat : Int))∧Below w.heap.size w wr) (fun u _ _=>(intOf u).toNat)
  case atStart=>exact ⟨n,65,_,[],rfl,rfl,hn,rfl,(by show _=_;simp),hown,(fun j h=>by simp at h),hbel⟩
  case round =>
    clear hown hbel
    obtain ⟨x,k,f,l,rfl,rfl,hx,hk,HX,ho,HF,hb⟩:=hrel
    have hl16 : (hex x).length+l.length≤16:=by
      have:=congrArg List.length HX.out
      rw [List.length_append] at this
      omega
    have hxp:=hex_pos x
    obtain ⟨k',rfl⟩ : ∃ k',k=k'+1:=⟨k - 1,by omega⟩
    have hk1 : ((k'+1 : Nat) : Int) - 1=(k' : Int):=by omega
    have hk2 : ((k' : Int)+1) - 1=(k' : Int):=by omega
    have hc:=ho.cell k' (by omega)
    have hf:=ho.free k' (by omega)
    have hlt:=ho.lt
    rw [Nat.zero_add] at hc hf
    have hand:=and15_u64 x hx
    by_cases h16 : 16≤x
    · have hm : x % 16<digitText.size:=by show _<36;omega
      have hd:=digit_at (x % 16) (by omega) hm
      have hset:=ho.set k' (by omega) (.int .u8 (digitText[x % 16].toNat : Int))
      rw [Nat.zero_add] at hset
      have HD:=Lib.hid hd
      have HSET:=Lib.hid hset
      clear hset hd
      have hx2 : Hid (hex n=hex (x / 16)++(digitText[x % 16]'hm::l)):=by
        show _=_
        rw [HX.out,hex_high h16,HD.out]
        simp
      go_wp2
      go_roundw
      case rel =>
        have hfin : ∀ j (h : j<(digitText[x % 16]'hm::l).length),(fun i=>if i=k' then Value.int .u8 (digitText[x % 16].toNat : Int) else f i) (k'+j) = .int .u8 ((digitText[x % 16]'hm::l)[j].toNat : Int):=by
          intro j h
          by_cases e : j=0
          · subst e;simp
          · obtain ⟨j',rfl⟩ : ∃ j',j=j'+1:=⟨j - 1,by omega⟩
            have h' : j'<l.length:=by simpa using h
            have:=HF.out j' h'
            simp only
            rw [if_neg (by omega),show k'+(j'+1)=k'+1+j' by omega,this]
            simp
        have hb2:=hb.setCell (p:=⟨w.heap.size,k',none⟩) (Nat.le_refl _) (.int .u8 (digitText[x % 16].toNat : Int))
        have hkl : k'+(digitText[x % 16]'hm::l).length=65:=by simp;omega
        first
          | exact ⟨x / 16,k',_,_,by go_num,by go_num,by omega,hkl,hx2,HSET.out,hfin,hb2⟩
          | ((repeat apply Exists.intro);exact ⟨⟨x / 16,k',_,_,rfl,rfl,by omega,hkl,hx2,HSET.out,hfin,hb2⟩,rfl⟩)
      case measure=>simp [intOf];omega
    · have hx16 : x<16:=by omega
      have hm : x<digitText.size:=by show _<36;omega
      have hd:=digit_at x hx16 hm
      have hset:=ho.set k' (by omega) (.int .u8 (digitText[x].toNat : Int))
      rw [Nat.zero_add] at hset
      have hxl : hex n=digitText[x]'hm::l:=by rw [HX.out,hex_low hx16,hd];rfl
      have hall : ∀ j (h : j<(hex n).length),(fun i=>if i=k' then Value.int .u8 (digitText[x].toNat : Int) else f i) (k'+j) = .int .u8 ((hex n)[j].toNat : Int):=by
        intro j h
        have hgoal : ∀ (L : List UInt8) (hL : L=digitText[x]'hm::l) (h : j<L.length),(fun i=>if i=k' then Value.int .u8 (digitText[x].toNat : Int) else f i) (k'+j) = .int .u8 (L[j].toNat : Int):=by
         intro L hL h
         subst hL
         by_cases e : j=0
         · subst e;simp
         · obtain ⟨j',rfl⟩ : ∃ j',j=j'+1:=⟨j - 1,by omega⟩
           have h' : j'<l.length:=by simpa using h
           have:=HF.out j' h'
           simp only
           rw [if_neg (by omega),show k'+(j'+1)=k'+1+j' by omega,this]
           simp
        exact hgoal (hex n) hxl h
      have hlk : 65 - k'=(hex n).length:=by rw [hxl];simp;omega
      have hal : ((Tryz.prog.arrayLen 335 : Nat) : Int)=65:=by rw [show Tryz.prog.arrayLen 335=65 by kernel_rfl];rfl
      have hsl : ∀ W,(Instr.sliceAt 335 (.pointer (some ⟨w.heap.size,0,none⟩)) (some (.int .i64 (k' : Int))) none none).run Tryz.prog W = .ok (.slice (some ⟨w.heap.size,k',none⟩) (hex n).length (hex n).length) W:=fun W=>by
        rw [run_sliceAt_array_l W 335 ⟨w.heap.size,0,none⟩ (by kernel_rfl) .i64 (k' : Int) (by omega) (by rw [hal];omega)]
        go_simp
        omega
      have kc:=run_convert_bytes_back (P:=Tryz.prog) (wr.setCell ⟨w.heap.size,k',none⟩ (.int .u8 (digitText[x].toNat : Int))) 79 9 5 ⟨w.heap.size,k',none⟩ (hex n).length (hex n) Tryz.underlying79 Tryz.underlying5 Tryz.underlying9 (fun j hj=>by
        rw [Addr.add_lit]
        have h1:=hset.cell (k'+j) (by omega)
        rw [Nat.zero_add] at h1
        rw [h1]
        exact congrArg some (hall j hj))
      have hb2:=hb.setCell (p:=⟨w.heap.size,k',none⟩) (Nat.le_refl _) (.int .u8 (digitText[x].toNat : Int))
      clear hd hlk hal hxl hall hset
      go_wp2
      go_ret2
      exact ⟨rfl,hb2⟩
theorem fmt_int (n : Nat) (w : World) (hn : n<9223372036854775808) (h : Env w) :
    Calls Tryz.prog 189 #[.int .i64 n,.int .i64 16] w fun e w'=>e = .returned (.string (bstr (hex n)))∧Below w.heap.size w w':=by
  have hf:=fmt_bits n w (by omega) h
  have HF:=Lib.hid hf
  clear hf
  have hn0 : ¬ ((n : Int)<0):=by omega
  have hd : decide ((n : Int)<0)=false:=by simp
  go_enter Tryz.func189,Tryz.ntmps189
  go_wp2_with (first|(go_at_call 236;refine HF.out.mono ?_;rintro e w1 ⟨rfl,hb⟩))
  go_ret
  exact ⟨rfl,hb⟩
theorem q_digits (n : Nat) (w : World) (hn : n<9223372036854775808) (h : Env w) :
    Calls Tryz.prog 132 #[.int .i64 n] w fun e w'=>e = .returned (.string (bstr (hex n)))∧Below w.heap.size w w':=by
  have hf:=fmt_int n w hn h
  have HF:=Lib.hid hf
  clear hf
  go_enter Tryz.func132,Tryz.ntmps132
  go_wp2_with (first|(go_at_call 189;refine HF.out.mono ?_;rintro e w1 ⟨rfl,hb⟩)|go_in)
  go_ret
  exact ⟨rfl,hb⟩
end Go.Proofs.YtmimfkhkilijcaaGreatDoor
namespace Go.Proofs.YtmimfkhkilijcaaGreatDoor
open Go.ChangeShapes Go.WideShapes Go.ChangeAt Go.RowKit
open PSign
theorem byt_get (t : ByteArray) (k : Nat) (h : k<t.size) : (t[k]'h).toNat=byt t.data.toList k:=by
  have h' : k<t.data.size:=h
  unfold byt
  rw [List.getD_eq_getElem?_getD]
  simp
  rw [Array.getElem?_eq_getElem h']
  rfl
theorem prefix_bad (l : List UInt8) : Lib.hasPrefix l [239,191,189]=decide (3≤l.length∧byt l 0=239∧byt l 1=191∧byt l 2=189):=by
  match l with
  | []=>rfl
  | [a]=>simp [Lib.hasPrefix,List.isPrefixOf]
  | [a,b]=>simp [Lib.hasPrefix,List.isPrefixOf]
  | a::b::c::r =>
    have h0 : byt (a::b::c::r) 0=a.toNat:=rfl
    have h1 : byt (a::b::c::r) 1=b.toNat:=rfl
    have h2 : byt (a::b::c::r) 2=c.toNat:=rfl
    have n0 : (239 : UInt8).toNat=239:=rfl
    have n1 : (191 : UInt8).toNat=191:=rfl
    have n2 : (189 : UInt8).toNat=189:=rfl
    rw [Bool.eq_iff_iff,decide_eq_true_eq,h0,h1,h2]
    simp only [Lib.hasPrefix,List.isPrefixOf,Bool.and_true,Bool.and_eq_true,beq_iff_eq,List.length_cons,← UInt8.toNat_inj,n0,n1,n2]
    constructor
    · intro h
      omega
    · intro h
      omega
theorem q_number (t : ByteArray) (z : Int) (w : World) (hne : t.data.toList≠[]) (hz : z=if (first t.data.toList).2=0 then 65533 else ((first t.data.toList).1 : Int)) :
    Calls Tryz.prog 83 #[.string t,.int .i32 z] w fun e w'=>e = .returned (.int .i64 (sg t.data.toList))∧w=w':=by
  have hp:=Tryz.strings_HasPrefix t ⟨#[239,191,189]⟩
  have hq : Lib.hasPrefix t.data.toList (ByteArray.mk #[239,191,189]).data.toList=decide ((first t.data.toList).1=65533∧(first t.data.toList).2≠0):=(prefix_bad _).trans (decide_eq_decide.2 (first_bad _).symm)
  rw [hq] at hp
  clear hq
  have hsz : 0<t.size:=by
    have : t.data.toList.length=t.size:=by simp
    have:=List.length_pos_iff.2 hne
    omega
  have hb0:=byt_get t 0 hsz
  have hsg:=sg_of t.data.toList
  have hf2 : (first t.data.toList).2≠0→(first t.data.toList).1≤1114111:=first_big _
  have hlt:=byt_lt t.data.toList 0
  generalize byt t.data.toList 0=b at *
  generalize (first t.data.toList)=f at *
  obtain ⟨f1,f2⟩:=f
  simp only at *
  by_cases h1 : f2=0
  · rw [if_pos h1] at hz hsg
    have hd : decide (f1=65533∧f2≠0)=false:=by simp [h1]
    rw [hd] at hp
    have HP:=Lib.hid hp
    have HSG:=Lib.hid hsg
    subst hz
    clear hp hd h1 hf2 hsg
    go_enter Tryz.func83,Tryz.ntmps83
    go_wp2_with (first|(go_at_call 27;refine (HP.out _).mono ?_;rintro e w1 ⟨rfl,rfl⟩))
    go_ret
    exact ⟨ret_int (by rw [HSG.out];omega),rfl⟩
  · rw [if_neg h1] at hz hsg
    have hf3:=hf2 h1
    have HSG:=Lib.hid hsg
    by_cases h2 : f1=65533
    · have hd : decide (f1=65533∧f2≠0)=true:=by simp [h1,h2]
      rw [hd] at hp
      have HP:=Lib.hid hp
      subst h2
      subst hz
      clear hp hd hf2 hsg h1
      go_enter Tryz.func83,Tryz.ntmps83
      go_wp2_with (first|(go_at_call 27;refine (HP.out _).mono ?_;rintro e w1 ⟨rfl,rfl⟩))
      go_ret
      exact ⟨ret_int (by rw [HSG.out];rfl),rfl⟩
    · have hne2 : ((f1 : Int) == 65533)=false:=by simp;omega
      subst hz
      clear hp hf2 hsg h1
      go_enter Tryz.func83,Tryz.ntmps83
      go_wp2
      go_ret
      exact ⟨ret_int (by rw [HSG.out]),rfl⟩
theorem lt_of_it {w : World} {g : Nat} {o : Obj} (h : w.heap[g]? = some o) : g<w.heap.size:=(Array.getElem?_eq_some_iff.1 h).1
theorem iterPos_it {w : World} {g pos : Nat} {s : ByteArray} (h : w.heap[g]? = some (.stringIter s pos)) : w.iterPos g=pos:=by
  simp [World.iterPos,h]
theorem ext_drop' (s : ByteArray) (n : Nat) : (s.extract n s.size).data.toList=s.data.toList.drop n:=by
  rw [Lib.extract_data]
  have : s.data.toList.length=s.size:=by simp
  rw [List.take_of_length_le]
  rw [List.length_drop]
  omega
theorem drop_ne {s : ByteArray} {pos : Nat} (h : pos<s.size) : s.data.toList.drop pos≠[]:=by
  intro e
  have:=congrArg List.length e
  rw [List.length_drop] at this
  simp at this
  have : s.data.size=s.size:=rfl
  omega
theorem sign_of_decode (s : ByteArray) (pos : Nat) : ((Utf8.decode s pos).1 : Int)=if (first (s.data.toList.drop pos)).2=0 then 65533 else ((first (s.data.toList.drop pos)).1 : Int):=by
  rw [decode_first]
  split <;> simp_all
theorem step_of_decode (s : ByteArray) (pos : Nat) : (Utf8.decode s pos).2=stp (s.data.toList.drop pos):=by
  rw [decode_first]
  unfold stp
  split <;> simp_all
theorem q_number_at (s : ByteArray) (pos : Nat) (w : World) (h : pos<s.size) :
    Calls Tryz.prog 83 #[.string (s.extract pos s.size),.int .i32 ((Utf8.decode s pos).1 : Int)] w fun e w'=>e = .returned (.int .i64 (sg (s.data.toList.drop pos)))∧w=w':=by
  have h1:=q_number (s.extract pos s.size) ((Utf8.decode s pos).1 : Int) w (by rw [ext_drop'];exact drop_ne h) (by rw [ext_drop'];exact sign_of_decode s pos)
  rw [ext_drop'] at h1
  exact h1
theorem signs_at (s : ByteArray) (pos : Nat) (h : pos<s.size) : signs (s.data.toList.drop pos)=sg (s.data.toList.drop pos)::signs (s.data.toList.drop (pos+stp (s.data.toList.drop pos))):=by
  rw [signs_cons _ (drop_ne h),List.drop_drop]
theorem signs_end (s : ByteArray) (pos : Nat) (h : ¬ pos<s.size) : signs (s.data.toList.drop pos)=[]:=by
  rw [List.drop_eq_nil_of_le (by simp;exact Nat.le_of_not_lt h),signs_nil]
theorem stp_at (s : ByteArray) (pos : Nat) (h : pos<s.size) : pos+stp (s.data.toList.drop pos)≤s.size:=by
  have:=stp_le _ (drop_ne h)
  rw [List.length_drop] at this
  have h2 : s.data.toList.length=s.size:=by simp
  omega
theorem signs_len (l : List UInt8) : (signs l).length≤l.length:=by
  have h : ∀ n (l : List UInt8),l.length≤n→(signs l).length≤l.length:=by
    intro n
    induction n with
    | zero=>intro l hl;have : l=[]:=List.eq_nil_of_length_eq_zero (by omega);subst this;rw [signs_nil];simp
    | succ n ih =>
      intro l hl
      by_cases hn : l=[]
      · subst hn;rw [signs_nil];simp
      · have h1:=stp_pos l
        have h2:=stp_le l hn
        have h3:=ih (l.drop (stp l)) (by rw [List.length_drop];omega)
        rw [List.length_drop] at h3
        rw [signs_cons l hn]
        simp
        omega
  exact h _ l (Nat.le_refl _)
theorem iv_append (a b : List Int) : iv (a++b)=iv a++iv b:=List.map_append
def hasn (l : List Int) (n : Int) : Bool:=decide (0≤n∧n∈l)
theorem has_at (s : ByteArray) (pos : Nat) (n : Int) (h : pos<s.size) (hn : 0≤n) : hasn (signs (s.data.toList.drop pos)) n=(decide (n=sg (s.data.toList.drop pos)) || hasn (signs (s.data.toList.drop (pos+stp (s.data.toList.drop pos)))) n):=by
  rw [signs_at s pos h]
  unfold hasn
  rw [Bool.eq_iff_iff]
  simp [hn]
theorem q_has (s : ByteArray) (n : Int) (w : World) (hn1 : -9223372036854775808≤n) (hn2 : n≤9223372036854775807) :
    Calls Tryz.prog 307 #[.string s,.int .i64 n] w fun e w'=>e = .returned (.bool (hasn (signs s.data.toList) n))∧Below w.heap.size w w':=by
  by_cases h0 : n<0
  · have hf : hasn (signs s.data.toList) n=false:=by unfold hasn;rw [decide_eq_false_iff_not];omega
    rw [hf]
    clear hf
    go_enter Tryz.func307,Tryz.ntmps307
    go_wp2
    go_ret
    exact ⟨rfl,Below.refl _ _⟩
  · have hn0 : 0≤n:=by omega
    go_enter Tryz.func307,Tryz.ntmps307
    go_wp2
    go_loopw [5,6] (fun i r wr=>∃ pos : Nat,wr.heap[w.heap.size]? = some (.stringIter s pos)∧pos≤s.size∧Hid (hasn (signs s.data.toList) n=hasn (signs (s.data.toList.drop pos)) n)∧Below w.heap.size w wr) (fun _ _ wr=>s.size - wr.iterPos w.heap.size)
    case atStart=>exact ⟨0,World.iter_heap w s 0,Nat.zero_le _,rfl,(Below.refl _ _).alloc (Nat.le_refl _) _⟩
    case round =>
      obtain ⟨pos,hit,hp,HA,hb⟩:=hrel
      have hpos0:=iterPos_it hit
      by_cases hlt : pos<s.size
      · have hnx : ∀ ty,(Instr.next (.pointer (some ⟨w.heap.size,0,none⟩)) true ty).run Tryz.prog wr=_:=fun ty=>Lib.run_next_any_at wr w.heap.size s pos ty hit hlt
        have hit2:=Lib.iterAt_heap wr w.heap.size s pos (pos+(Utf8.decode s pos).2) hit
        have hb2:=Lib.below_iterAt hb (k:=w.heap.size) (Nat.le_refl _) s (pos+(Utf8.decode s pos).2)
        have hnum:=fun w'=>q_number_at s pos w' hlt
        have hha:=has_at s pos n hlt hn0
        have hst:=stp_at s pos hlt
        have hst1:=stp_pos (s.data.toList.drop pos)
        rw [step_of_decode] at hnx hit2 hb2
        rw [← HA.out] at hha
        have HN:=Lib.hid hnum
        have HH:=Lib.hid hha
        clear hnum hit HA hha
        generalize sg (s.data.toList.drop pos)=z at *
        generalize stp (s.data.toList.drop pos)=st at *
        generalize hW : wr.iterAt w.heap.size s (pos+st)=W1 at *
        clear hW
        by_cases hz : z=n
        · have hzz : (z == n)=true:=by simpa using hz
          have hres : hasn (signs s.data.toList) n=true:=by rw [HH.out,hz];simp
          have HR:=Lib.hid hres
          clear hres
          go_wp2_with (first|(go_at_call 83;refine (HN.out _).mono ?_;rintro e w1 ⟨rfl,rfl⟩))
          go_ret
          exact ⟨by rw [HR.out];rfl,hb2⟩
        · have hzz : (z == n)=false:=by simpa using hz
          have hres : Hid (hasn (signs s.data.toList) n=hasn (signs (s.data.toList.drop (pos+st))) n):=by
            show _=_
            rw [HH.out,decide_eq_false (fun e=>hz e.symm),Bool.false_or]
          go_wp2_with (first|(go_at_call 83;refine (HN.out _).mono ?_;rintro e w1 ⟨rfl,rfl⟩))
          go_roundw
          case rel=>exact ⟨pos+st,hit2,hst,hres.out,hb2⟩
          case measure=>rw [iterPos_it hit2,hpos0];omega
      · have hnx : ∀ ty,(Instr.next (.pointer (some ⟨w.heap.size,0,none⟩)) true ty).run Tryz.prog wr=_:=fun ty=>Lib.run_next_end_at wr w.heap.size s pos ty hit hlt
        have he:=signs_end s pos hlt
        have hall:=HA.out
        rw [he] at hall
        have HALL:=Lib.hid hall
        clear hall he HA
        go_wp2
        go_ret
        exact ⟨by rw [HALL.out];simp [hasn],hb⟩
end Go.Proofs.YtmimfkhkilijcaaGreatDoor
