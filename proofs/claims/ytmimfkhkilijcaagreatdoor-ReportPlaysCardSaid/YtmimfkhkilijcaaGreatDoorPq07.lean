/- KQuB: what is reached of them. -/
import Derived.Test.YtmimfkhkilijcaaGreatDoorPq03
import Derived.Test.YtmimfkhkilijcaaGreatDoorPq06
import Derived.Deep.OwnRows
set_option linter.unusedVariables false
set_option linter.unusedSimpArgs false
set_option maxRecDepth 100000
set_option maxHeartbeats 8000000
namespace Go.Proofs.YtmimfkhkilijcaaGreatDoor
open Go.ChangeShapes Go.WideShapes Go.ChangeAt Go.RowKit
open PSign PHex PQuote
theorem enc_low : ∀ n : Nat,n<128→Utf8.encode (n : Int)=bstr [UInt8.ofNat n]:=by
  intro n h
  have hv : Utf8.valid (n : Int)=true:=by unfold Utf8.valid;simp;omega
  unfold Utf8.encode
  simp only [hv,if_true,Int.toNat_natCast]
  rw [if_pos (by omega)]
theorem bcat (l m : List UInt8) : bstr l++bstr m=bstr (l++m):=by
  apply ByteArray.ext
  simp
theorem q_told (n : Int) (w : World) (h1 : -256≤n) (h2 : n≤1114111) (he : Env w) :
    Calls Tryz.prog 82 #[.int .i64 n] w fun e w'=>e = .returned (.string (bstr (told n)))∧Below w.heap.size w w':=by
  by_cases hneg : n<0
  · have ht : told n=[92,120]++hex (-1 - n).toNat:=by unfold told;rw [if_pos hneg]
    have hlen:=hex_len 1 (-1 - n).toNat (by omega)
    have hd:=q_digits (-1 - n).toNat w (by omega) he
    have hz : (((-1 - n).toNat : Nat) : Int) = -1 - n:=by omega
    rw [hz] at hd
    rw [ht]
    have HD:=Lib.hid hd
    have hcat : ∀ l : List UInt8,(⟨#[92,120]⟩ : ByteArray)++bstr l=bstr ([92,120]++l):=fun l=>bcat [92,120] l
    have HC:=Lib.hid hcat
    clear hd ht hz hcat
    generalize hex (-1 - n).toNat=x at *
    go_enter Tryz.func82,Tryz.ntmps82
    go_wp2_with (first|(go_at_call 132;refine HD.out.mono ?_;rintro e w1 ⟨rfl,hb⟩))
    go_ret
    exact ⟨by rw [HC.out];rfl,hb⟩
  · obtain ⟨m,rfl⟩:=Int.eq_ofNat_of_zero_le (by omega : 0≤n)
    by_cases hout : (m : Int)<32∨126<(m : Int)
    · have ht : told (m : Int)=[92,117,123]++hex m++[125]:=by unfold told;rw [if_neg hneg,if_pos hout];rfl
      have hlen:=hex_len 5 m (by omega)
      have hd:=q_digits m w (by omega) he
      rw [ht]
      have HD:=Lib.hid hd
      have hcat : ∀ l : List UInt8,(⟨#[92,117,123]⟩ : ByteArray)++bstr l++(⟨#[125]⟩ : ByteArray)=bstr ([92,117,123]++l++[125]):=fun l=>by
        have e1:=bcat [92,117,123] l
        have e2:=bcat ([92,117,123]++l) [125]
        exact (congrArg (· ++ (⟨#[125]⟩ : ByteArray)) e1).trans e2
      have HC:=Lib.hid hcat
      clear hd ht hcat
      generalize hex m=x at *
      by_cases h32 : (m : Int)<32
      all_goals
        go_enter Tryz.func82,Tryz.ntmps82
        go_wp2_with (first|(go_at_call 132;refine HD.out.mono ?_;rintro e w1 ⟨rfl,hb⟩))
        go_ret
        exact ⟨by rw [HC.out];rfl,hb⟩
    · have hm1 : 32≤m:=by omega
      have hm2 : m≤126:=by omega
      have henc:=enc_low m (by omega)
      have hb : ∀ c,c≤126→m≠c→([UInt8.ofNat m] == [UInt8.ofNat c])=false:=by
        intro c hc hne
        have : UInt8.ofNat m≠UInt8.ofNat c:=by
          intro e
          have:=congrArg UInt8.toNat e
          simp at this
          omega
        simpa using this
      by_cases h34 : m=34
      · subst h34
        have e34 : Utf8.encode 34=⟨#[34]⟩:=by decide
        clear hneg hout h1 h2 hb henc hm1 hm2
        have ht : told ((34 : Nat) : Int)=[92,34]:=by decide
        have HT:=Lib.hid ht
        clear ht
        go_enter Tryz.func82,Tryz.ntmps82
        go_wp2
        go_ret
        exact ⟨by rw [HT.out];rfl,Below.refl _ _⟩
      · by_cases h92 : m=92
        · subst h92
          have e92 : Utf8.encode 92=⟨#[92]⟩:=by decide
          clear hneg hout h1 h2 hb h34 henc hm1 hm2
          have ht : told ((92 : Nat) : Int)=[92,92]:=by decide
          have HT:=Lib.hid ht
          clear ht
          go_enter Tryz.func82,Tryz.ntmps82
          go_wp2
          go_ret
          exact ⟨by rw [HT.out];rfl,Below.refl _ _⟩
        · have ht : told (m : Int)=[UInt8.ofNat m]:=by
            unfold told
            rw [if_neg hneg,if_neg hout,if_neg (by omega)]
            rfl
          have b1:=hb 34 (by omega) h34
          have b2:=hb 92 (by omega) h92
          have b1' : ([UInt8.ofNat m] == [34])=false:=b1
          have b2' : ([UInt8.ofNat m] == [92])=false:=b2
          have HT:=Lib.hid ht
          clear ht hneg hout h34 h92 hb b1 b2 h1 h2
          generalize UInt8.ofNat m=c at *
          have henc' : Utf8.encode (m : Int)=⟨#[c]⟩:=henc
          have k1 : ((m : Int)<0)=False:=eq_false (by omega)
          have k2 : ((m : Int)<32)=False:=eq_false (by omega)
          have k3 : (126<(m : Int))=False:=eq_false (by omega)
          have k4 : IntKind.i32.wrap (m : Int)=(m : Int):=by rw [IntKind.wrap_i32];omega
          generalize (m : Int)=z at *
          have k5 : (c == 34)=false:=by simpa using b1'
          have k6 : (c == 92)=false:=by simpa using b2'
          clear henc b1' b2' hm1 hm2 he
          go_enter Tryz.func82,Tryz.ntmps82
          go_wp2
          go_ret
          exact ⟨by rw [HT.out];rfl,Below.refl _ _⟩
theorem bld_made (w : World) : (zeroValue 81).run Tryz.prog w = .ok (.agg #[.pointer none,.slice none 0 0]) w:=by kernel_rfl
theorem bstr_len (l : List UInt8) : (bstr l).size=l.length:=by simp [ByteArray.size]
theorem bstr_list (l : List UInt8) : (bstr l).data.toList=l:=rfl
theorem BldOn.it {B b g pos : Nat} {l : List UInt8} {s : ByteArray} {w w' : World} (h : BldOn B b l w w') (hk : w.heap[g]? = some (.stringIter s pos)) (hg : g≠b) : w'.heap[g]? = some (.stringIter s pos):=h.2.2.iter hk hg
theorem bld_below {B b B' : Nat} {l : List UInt8} {w w' : World} (h : Bld B b l w) (hb : Below w.heap.size w w') : Bld B b l w':=by
  have keep : ∀ k o,w.heap[k]? = some o→w'.heap[k]? = some o:=fun k o hk=>by rw [hb.block k (Array.getElem?_eq_some_iff.1 hk).1];exact hk
  have at_ : ∀ p,Lib.BuilderAtF 81 5 B b p (Lib.byteCells l) w→Lib.BuilderAtF 81 5 B b p (Lib.byteCells l) w':=by
    intro p ⟨hB,v,hbk,hown,hne⟩
    refine ⟨hB,v,keep _ _ hbk,⟨hown.1,?_⟩,hne⟩
    rcases hown.2 with h0|⟨g,cap,cur,fz,h1,h2,h3,h4⟩
    · exact .inl h0
    · exact .inr ⟨g,cap,cur,fz,h1,h2,keep _ _ h3,h4⟩
  exact h.elim (fun x=>.inl (at_ _ x)) (fun x=>.inr (at_ _ x))
theorem acc_len {s : ByteArray} {acc rest : List Int} (h : signs s.data.toList=acc++rest) (hs : s.size≤4096) : (34::toldAll acc).length≤40961:=by
  have h1:=signs_len s.data.toList
  have h2 : s.data.toList.length=s.size:=by simp
  have h3:=toldAll_len acc (fun n hn=>signs_range s.data.toList n (by rw [h];exact List.mem_append_left _ hn))
  rw [h,List.length_append] at h1
  simp
  omega
theorem q_quote (s : ByteArray) (w : World) (hs : s.size≤4096) (he : Env w) :
    Calls Tryz.prog 38 #[.string s] w fun e w'=>e = .returned (.string (bstr (quote s.data.toList)))∧Below w.heap.size w w':=by
  have hbm:=bld_made w
  have hz:=b_zero w
  have hb0 : Below w.heap.size w (w.alloc (.cells #[.pointer none,.slice none 0 0] 81)):=(Below.refl _ _).alloc (Nat.le_refl _) _
  have hsz1 : (w.alloc (.cells #[.pointer none,.slice none 0 0] 81)).heap.size=w.heap.size+1:=by simp
  have HSZ:=Lib.hid hsz1
  have HZ:=Lib.hid hz
  have HB0:=Lib.hid hb0
  clear hsz1 hz hb0
  have hw1:=fun w' (h : Bld w.heap.size w.heap.size [] w') (hB : w.heap.size≤w'.heap.size)=>b_write w.heap.size w.heap.size [] ⟨#[34]⟩ w' h (by decide) hB
  have HW1:=Lib.hid hw1
  clear hw1
  go_enter Tryz.func38,Tryz.ntmps38
  go_wp2_with (first|(go_at_call 36;refine (HW1.out _ HZ.out HB0.out.size).mono ?_;rintro e w1 ⟨rfl,hon⟩))
  clear hbm HW1
  have hb1 : Below w.heap.size w w1:=HB0.out.trans hon.2.1
  have hbld1 : Bld w.heap.size w.heap.size [34] w1:=hon.1
  have hlt1 : w.heap.size<w1.heap.size:=by have:=hon.2.1.size;rw [HSZ.out] at this;omega
  clear HZ HB0 HSZ hon
  go_loopw [4,5] (fun i r wr=>∃ (pos : Nat) (acc : List Int),wr.heap[w1.heap.size]? = some (.stringIter s pos)∧pos≤s.size∧Hid (signs s.data.toList=acc++signs (s.data.toList.drop pos))∧Bld w.heap.size w.heap.size (34::toldAll acc) wr∧Below w.heap.size w wr) (fun _ _ wr=>s.size - wr.iterPos w1.heap.size)
  case atStart=>exact ⟨0,[],World.iter_heap w1 s 0,Nat.zero_le _,rfl,hbld1.alloc _,hb1.alloc (by omega) _⟩
  case round =>
    obtain ⟨pos,acc,hit,hp,HA,hbl,hb⟩:=hrel
    have hpos0:=iterPos_it hit
    have hal:=acc_len HA.out hs
    by_cases hlt : pos<s.size
    · have hnx : ∀ ty,(Instr.next (.pointer (some ⟨w1.heap.size,0,none⟩)) true ty).run Tryz.prog wr=_:=fun ty=>Lib.run_next_any_at wr w1.heap.size s pos ty hit hlt
      have hit2:=Lib.iterAt_heap wr w1.heap.size s pos (pos+(Utf8.decode s pos).2) hit
      have hb2:=Lib.below_iterAt hb (k:=w1.heap.size) (by omega) s (pos+(Utf8.decode s pos).2)
      have hbl2 : Bld w.heap.size w.heap.size (34::toldAll acc) (wr.iterAt w1.heap.size s (pos+(Utf8.decode s pos).2)):=Lib.IsBuilderF.iterAt hbl hit _
      have hnum:=fun w'=>q_number_at s pos w' hlt
      have hsg:=signs_at s pos hlt
      have hst:=stp_at s pos hlt
      have hst1:=stp_pos (s.data.toList.drop pos)
      have hrg:=sg_range (s.data.toList.drop pos)
      rw [step_of_decode] at hnx hit2 hb2 hbl2
      have HN:=Lib.hid hnum
      have HA2 : Hid (signs s.data.toList=(acc++[sg (s.data.toList.drop pos)])++signs (s.data.toList.drop (pos+stp (s.data.toList.drop pos)))):=by
        show _=_
        rw [HA.out,hsg,List.append_assoc]
        rfl
      clear hnum hsg hit hbl HA
      generalize sg (s.data.toList.drop pos)=z at *
      generalize stp (s.data.toList.drop pos)=st at *
      generalize hW : wr.iterAt w1.heap.size s (pos+st)=W1 at *
      have hltW:=lt_of_it hit2
      clear hW
      have he2 : Env W1:=he.on hb2
      have htold:=q_told z W1 hrg.1 hrg.2 he2
      have htl:=told_len z hrg.1 hrg.2
      have hsn:=toldAll_snoc acc z
      have HT:=Lib.hid htold
      have HSN:=Lib.hid hsn
      have hwr:=fun w' (h : Bld w.heap.size w.heap.size (34::toldAll acc) w') (hB : w.heap.size≤w'.heap.size)=>b_write w.heap.size w.heap.size (34::toldAll acc) (bstr (told z)) w' h (by rw [bstr_len];omega) hB
      have HWR:=Lib.hid hwr
      clear htold hsn hwr
      go_wp2_with (first|(go_at_call 83;refine (HN.out _).mono ?_;rintro e x1 ⟨rfl,rfl⟩)|(go_at_call 82;refine HT.out.mono ?_;rintro e w3 ⟨rfl,hb3⟩)|(go_at_call 36;refine (HWR.out _ (bld_below (B':=0) hbl2 hb3) (Nat.le_trans hb2.size hb3.size)).mono ?_;rintro e w4 ⟨rfl,hon4⟩))
      have hit3 : w3.heap[w1.heap.size]? = some (.stringIter s (pos+st)):=by rw [hb3.block _ hltW];exact hit2
      have hit4:=hon4.it hit3 (by omega)
      have hb4 : Below w.heap.size w w4:=(on_below hb2 hb3).trans hon4.2.1
      go_roundw
      case rel=>exact ⟨pos+st,acc++[z],hit4,hst,HA2.out,(by have:=hon4.1;rw [List.cons_append,← HSN.out] at this;exact this),hb4⟩
      case measure=>rw [iterPos_it hit4,hpos0];omega
    · have hnx : ∀ ty,(Instr.next (.pointer (some ⟨w1.heap.size,0,none⟩)) true ty).run Tryz.prog wr=_:=fun ty=>Lib.run_next_end_at wr w1.heap.size s pos ty hit hlt
      have hend:=signs_end s pos hlt
      have hall:=HA.out
      rw [hend,List.append_nil] at hall
      have hq : quote s.data.toList=(34::toldAll acc)++[34]:=by unfold quote;rw [hall]
      have HQ:=Lib.hid hq
      have hwr:=b_write w.heap.size w.heap.size (34::toldAll acc) ⟨#[34]⟩ wr hbl (by show _+1≤_;omega) hb.size
      have HWR:=Lib.hid hwr
      clear hall hend HA hq hwr
      go_wp2_with (first|(go_at_call 36;refine HWR.out.mono ?_;rintro e w4 ⟨rfl,hon4⟩;have hb4:=hb.trans hon4.2.1)|(go_at_call 40;refine (b_text _ _ _ _ hon4.1 hb4.size).mono ?_;rintro e w5 ⟨rfl,hb5⟩))
      go_ret
      exact ⟨by rw [HQ.out];rfl,hb4.trans hb5⟩
theorem ref_more (t : ByteArray) (k : Nat) (w : World) (hs : t.size≤4096) (hk : k≤4) :
    Calls Tryz.prog 195 #[.string t,.int .i64 k] w fun e w'=>e = .returned (.int .i64 (if con t.data.toList k then ((byt t.data.toList k : Int) - 128) else -1))∧w=w':=by
  have hlen : t.data.toList.length=t.size:=by simp
  by_cases hlt : k<t.size
  · have hb:=byt_get t k hlt
    have hb2:=byt_lt t.data.toList k
    have hc : con t.data.toList k↔128≤byt t.data.toList k∧byt t.data.toList k<192:=by rw [con_iff,hlen];simp [hlt]
    generalize byt t.data.toList k=b at *
    by_cases h1 : b<128
    · have hr : (if con t.data.toList k then ((b : Int) - 128) else -1) = -1:=if_neg (by rw [hc];omega)
      rw [hr]
      have h1' : (b : Int)<128:=by omega
      clear hc hr h1 hb2 hs hk
      go_enter Tryz.func195,Tryz.ntmps195
      go_wp2
      go_ret
      exact ⟨rfl,rfl⟩
    · by_cases h2 : b<192
      · have hr : (if con t.data.toList k then ((b : Int) - 128) else -1)=(b : Int) - 128:=if_pos (by rw [hc];omega)
        rw [hr]
        have h1' : ¬ (b : Int)<128:=by omega
        have h2' : (b : Int)<192:=by omega
        have h3' : (128 : Int)≤(b : Int):=by omega
        have h4' : IntKind.i64.wrap ((b : Int) - 128)=(b : Int) - 128:=by rw [IntKind.wrap_i64];omega
        clear hc hr h1 h2 hb2 hs hk
        go_enter Tryz.func195,Tryz.ntmps195
        go_wp2
        go_ret
        exact ⟨rfl,rfl⟩
      · have hr : (if con t.data.toList k then ((b : Int) - 128) else -1) = -1:=if_neg (by rw [hc];omega)
        rw [hr]
        have h1' : ¬ (b : Int)<128:=by omega
        have h2' : ¬ (b : Int)<192:=by omega
        clear hc hr h1 h2 hb2 hs hk
        go_enter Tryz.func195,Tryz.ntmps195
        go_wp2
        go_ret
        exact ⟨rfl,rfl⟩
  · have hr : (if con t.data.toList k then ((byt t.data.toList k : Int) - 128) else -1) = -1:=if_neg (by rw [con_iff,hlen];omega)
    rw [hr]
    clear hr hlen
    go_enter Tryz.func195,Tryz.ntmps195
    go_wp2
    go_ret
    exact ⟨rfl,rfl⟩
def accn (l : List UInt8) (n0 : Nat) : Nat→Nat
  | 0=>n0
  | k+1=>accn l n0 k*64+(byt l (k+1) - 128)
theorem fit_small {n least m : Nat} (h : n<least∨1114111<n∨(55296≤n∧n≤57343)) : fit n least m=(0,0):=by unfold fit;rw [if_pos h]
theorem fit_ok {n least m : Nat} (h : ¬ (n<least∨1114111<n∨(55296≤n∧n≤57343))) : fit n least m=(n,m):=by unfold fit;rw [if_neg h]
theorem first_2 (l : List UInt8) (h1 : 192≤byt l 0) (h2 : byt l 0<224) : first l=if con l 1 then fit (accn l (byt l 0 - 192) 1) 128 2 else (0,0):=by
  unfold first
  rw [if_neg (by omega),if_pos ⟨h1,h2⟩];rfl
theorem first_3 (l : List UInt8) (h1 : 224≤byt l 0) (h2 : byt l 0<240) : first l=if con l 1∧con l 2 then fit (accn l (byt l 0 - 224) 2) 2048 3 else (0,0):=by
  unfold first
  rw [if_neg (by omega),if_neg (by omega),if_pos ⟨h1,h2⟩];rfl
theorem first_4 (l : List UInt8) (h1 : 240≤byt l 0) (h2 : byt l 0<248) : first l=if con l 1∧con l 2∧con l 3 then fit (accn l (byt l 0 - 240) 3) 65536 4 else (0,0):=by
  unfold first
  rw [if_neg (by omega),if_neg (by omega),if_neg (by omega),if_pos ⟨h1,h2⟩];rfl
theorem ret_two {a b : Int} {f : Nat×Nat} (h1 : a=f.1) (h2 : b=f.2) : Ending.returned (.tuple #[.int .i64 a,.int .i64 b]) = .returned (.tuple #[.int .i64 (f.1 : Nat),.int .i64 (f.2 : Nat)]):=by rw [h1,h2]
theorem ref_first2 (t : ByteArray) (w : World) (hs : t.size≤4096) (hne : 0<t.size) (h1 : 192≤byt t.data.toList 0) (h2 : byt t.data.toList 0<224) :
    Calls Tryz.prog 137 #[.string t] w fun e w'=>e = .returned (.tuple #[.int .i64 ((first t.data.toList).1 : Nat),.int .i64 ((first t.data.toList).2 : Nat)])∧w=w':=by
  have hb:=byt_get t 0 hne
  have hF:=first_2 t.data.toList h1 h2
  have hmore:=fun k w hk=>ref_more t k w hs hk
  have HM:=Lib.hid hmore
  have HF:=Lib.hid hF
  have hn0 : accn t.data.toList (byt t.data.toList 0 - 192) 0=byt t.data.toList 0 - 192:=rfl
  have hacc : ∀ k,accn t.data.toList (byt t.data.toList 0 - 192) (k+1)=accn t.data.toList (byt t.data.toList 0 - 192) k*64+(byt t.data.toList (k+1) - 128):=fun k=>rfl
  have HACC:=Lib.hid hacc
  have HN0:=Lib.hid hn0
  clear hmore hF hacc hn0
  generalize t.data.toList=l at *
  generalize hc : byt l 0=c at *
  have HC:=Lib.hid hc
  clear hc
  have k1 : ((192 : Int)≤(c : Int)):=by omega
  have k2 : ((c : Int)<224):=by omega
  have k3 : (c : Int) - 192=((c - 192 : Nat) : Int):=by omega
  have hcb : c - 192≤31:=by omega
  clear h1 h2
  go_enter Tryz.func137,Tryz.ntmps137
  go_wp2
  go_loop [6,8] (fun n i=>∃ k x : Nat,k+1≤2∧i = .int .i64 ((k : Int)+1)∧n = .int .i64 x∧x<32*64 ^ k∧Hid (x=accn l (c - 192) k)∧Hid (∀ j,j<k→con l (j+1))) (fun _ i=>2 - (intOf i).toNat)
  case atStart=>exact ⟨0,c - 192,by omega,rfl,by go_num,by omega,HN0.out.symm,fun j hj=>by omega⟩
  case round =>
    obtain ⟨k,x,hk,rfl,rfl,hx,HX,HJ⟩:=hrel
    by_cases hlt : k+1<2
    · have hlI : (k : Int)+1<2:=by omega
      have hx64 : x<32*64 ^ 3:=Nat.lt_of_lt_of_le hx (Nat.mul_le_mul_left _ (Nat.pow_le_pow_right (by decide) (by omega)))
      have hx65 : x<8388608:=by omega
      have hbk:=byt_lt l (k+1)
      have hm:=fun w=>HM.out (k+1) w (by omega)
      by_cases hcon : con l (k+1)
      · have hci:=(con_iff l (k+1)).1 hcon
        have hm2 : ∀ w,Calls Tryz.prog 195 #[.string t,.int .i64 ((k : Int)+1)] w fun e w'=>e = .returned (.int .i64 ((byt l (k+1) - 128 : Nat) : Int))∧w=w':=by
          intro w
          have h:=hm w
          rw [if_pos hcon,show (byt l (k+1) : Int) - 128=((byt l (k+1) - 128 : Nat) : Int) by omega] at h
          exact h
        have HM2:=Lib.hid hm2
        have hd : byt l (k+1) - 128<64:=by omega
        have HD : Hid (accn l (c - 192) (k+1)=x*64+(byt l (k+1) - 128)):=by show _=_;rw [HACC.out,← HX.out]
        have hpow : x*64+(byt l (k+1) - 128)<32*64 ^ (k+1):=by rw [Nat.pow_succ];omega
        have HPOW:=Lib.hid hpow
        have HCON:=Lib.hid hcon
        clear hm hm2 hci hcon hpow hx hx64
        generalize byt l (k+1) - 128=d at *
        go_wp2_with (first|(go_at_call 195;refine (HM2.out _).mono ?_;rintro e w1 ⟨rfl,rfl⟩))
        go_round
        case rel=>exact ⟨k+1,x*64+d,by omega,by go_num,by go_num,HPOW.out,HD.out.symm,fun j hj=>by
          by_cases e : j=k
          · subst e;exact HCON.out
          · exact HJ.out j (by omega)⟩
        case measure=>simp [intOf];omega
      · have hm2 : ∀ w,Calls Tryz.prog 195 #[.string t,.int .i64 ((k : Int)+1)] w fun e w'=>e = .returned (.int .i64 (-1))∧w=w':=by
          intro w
          have h:=hm w
          rw [if_neg hcon] at h
          exact h
        have HM2:=Lib.hid hm2
        have hz : first l=(0,0):=by
          rw [HF.out,if_neg]
          intro h
          apply hcon
          obtain rfl : k=0:=by omega
          exact h
        have HZ:=Lib.hid hz
        clear hm hm2 hcon hz hx hx64
        go_wp2_with (first|(go_at_call 195;refine (HM2.out _).mono ?_;rintro e w1 ⟨rfl,rfl⟩))
        go_ret2
        exact ⟨ret_two (by rw [HZ.out];rfl) (by rw [HZ.out];rfl),rfl⟩
    · obtain rfl : k=1:=by omega
      have hz : first l=fit x 128 2:=by
        rw [HF.out,if_pos (by exact HJ.out 0 (by omega)),HX.out]
      have HZ:=Lib.hid hz
      clear hz
      have hx2 : x<8388608:=by omega
      clear hx
      by_cases hbad : x<128∨1114111<x∨(55296≤x∧x≤57343)
      · have HB:=Lib.hid (fit_small (m:=2) hbad)
        have hend : ∀ e : Ending,e = .returned (.tuple #[.int .i64 0,.int .i64 0])→e = .returned (.tuple #[.int .i64 ((first l).1 : Nat),.int .i64 ((first l).2 : Nat)]):=fun e he=>he.trans (ret_two (by rw [HZ.out,HB.out];rfl) (by rw [HZ.out,HB.out];rfl))
        have HEND:=Lib.hid hend
        clear hend
        rcases hbad with h|h|h
        · have h' : (x : Int)<128:=by omega
          clear h hx2
          go_wp2
          go_ret2
          exact ⟨HEND.out _ rfl,rfl⟩
        · have h' : (1114111 : Int)<x:=by omega
          have h'' : ¬ (x : Int)<128:=by omega
          clear h hx2
          go_wp2
          go_ret2
          exact ⟨HEND.out _ rfl,rfl⟩
        · by_cases hl : x<128
          · have h' : (x : Int)<128:=by omega
            clear h hx2 hl
            go_wp2
            go_ret2
            exact ⟨HEND.out _ rfl,rfl⟩
          · have h0 : ¬ (x : Int)<128:=by omega
            have h1 : ¬ (1114111 : Int)<x:=by omega
            have h2 : (55296 : Int)≤x:=by omega
            have h3 : (x : Int)≤57343:=by omega
            clear h hx2 hl
            go_wp2
            go_ret2
            exact ⟨HEND.out _ rfl,rfl⟩
      · have HB:=Lib.hid (fit_ok (m:=2) hbad)
        have h0 : ¬ (x : Int)<128:=by omega
        have h1 : ¬ (1114111 : Int)<x:=by omega
        by_cases h5 : 55296≤x
        · have h2 : (55296 : Int)≤x:=by omega
          have h3 : ¬ (x : Int)≤57343:=by omega
          clear hbad hx2 h5
          go_wp2
          go_ret2
          exact ⟨ret_two (by rw [HZ.out,HB.out]) (by rw [HZ.out,HB.out];rfl),rfl⟩
        · have h2 : ¬ (55296 : Int)≤x:=by omega
          clear hbad hx2 h5
          go_wp2
          go_ret2
          exact ⟨ret_two (by rw [HZ.out,HB.out]) (by rw [HZ.out,HB.out];rfl),rfl⟩
theorem ref_first3 (t : ByteArray) (w : World) (hs : t.size≤4096) (hne : 0<t.size) (h1 : 224≤byt t.data.toList 0) (h2 : byt t.data.toList 0<240) :
    Calls Tryz.prog 137 #[.string t] w fun e w'=>e = .returned (.tuple #[.int .i64 ((first t.data.toList).1 : Nat),.int .i64 ((first t.data.toList).2 : Nat)])∧w=w':=by
  have hb:=byt_get t 0 hne
  have hF:=first_3 t.data.toList h1 h2
  have hmore:=fun k w hk=>ref_more t k w hs hk
  have HM:=Lib.hid hmore
  have HF:=Lib.hid hF
  have hn0 : accn t.data.toList (byt t.data.toList 0 - 224) 0=byt t.data.toList 0 - 224:=rfl
  have hacc : ∀ k,accn t.data.toList (byt t.data.toList 0 - 224) (k+1)=accn t.data.toList (byt t.data.toList 0 - 224) k*64+(byt t.data.toList (k+1) - 128):=fun k=>rfl
  have HACC:=Lib.hid hacc
  have HN0:=Lib.hid hn0
  clear hmore hF hacc hn0
  generalize t.data.toList=l at *
  generalize hc : byt l 0=c at *
  have HC:=Lib.hid hc
  clear hc
  have k1 : ((224 : Int)≤(c : Int)):=by omega
  have k2 : ((c : Int)<240):=by omega
  have k3 : (c : Int) - 224=((c - 224 : Nat) : Int):=by omega
  have hcb : c - 224≤31:=by omega
  clear h1 h2
  go_enter Tryz.func137,Tryz.ntmps137
  go_wp2
  go_loop [6,8] (fun n i=>∃ k x : Nat,k+1≤3∧i = .int .i64 ((k : Int)+1)∧n = .int .i64 x∧x<32*64 ^ k∧Hid (x=accn l (c - 224) k)∧Hid (∀ j,j<k→con l (j+1))) (fun _ i=>3 - (intOf i).toNat)
  case atStart=>exact ⟨0,c - 224,by omega,rfl,by go_num,by omega,HN0.out.symm,fun j hj=>by omega⟩
  case round =>
    obtain ⟨k,x,hk,rfl,rfl,hx,HX,HJ⟩:=hrel
    by_cases hlt : k+1<3
    · have hlI : (k : Int)+1<3:=by omega
      have hx64 : x<32*64 ^ 3:=Nat.lt_of_lt_of_le hx (Nat.mul_le_mul_left _ (Nat.pow_le_pow_right (by decide) (by omega)))
      have hx65 : x<8388608:=by omega
      have hbk:=byt_lt l (k+1)
      have hm:=fun w=>HM.out (k+1) w (by omega)
      by_cases hcon : con l (k+1)
      · have hci:=(con_iff l (k+1)).1 hcon
        have hm2 : ∀ w,Calls Tryz.prog 195 #[.string t,.int .i64 ((k : Int)+1)] w fun e w'=>e = .returned (.int .i64 ((byt l (k+1) - 128 : Nat) : Int))∧w=w':=by
          intro w
          have h:=hm w
          rw [if_pos hcon,show (byt l (k+1) : Int) - 128=((byt l (k+1) - 128 : Nat) : Int) by omega] at h
          exact h
        have HM2:=Lib.hid hm2
        have hd : byt l (k+1) - 128<64:=by omega
        have HD : Hid (accn l (c - 224) (k+1)=x*64+(byt l (k+1) - 128)):=by show _=_;rw [HACC.out,← HX.out]
        have hpow : x*64+(byt l (k+1) - 128)<32*64 ^ (k+1):=by rw [Nat.pow_succ];omega
        have HPOW:=Lib.hid hpow
        have HCON:=Lib.hid hcon
        clear hm hm2 hci hcon hpow hx hx64
        generalize byt l (k+1) - 128=d at *
        go_wp2_with (first|(go_at_call 195;refine (HM2.out _).mono ?_;rintro e w1 ⟨rfl,rfl⟩))
        go_round
        case rel=>exact ⟨k+1,x*64+d,by omega,by go_num,by go_num,HPOW.out,HD.out.symm,fun j hj=>by
          by_cases e : j=k
          · subst e;exact HCON.out
          · exact HJ.out j (by omega)⟩
        case measure=>simp [intOf];omega
      · have hm2 : ∀ w,Calls Tryz.prog 195 #[.string t,.int .i64 ((k : Int)+1)] w fun e w'=>e = .returned (.int .i64 (-1))∧w=w':=by
          intro w
          have h:=hm w
          rw [if_neg hcon] at h
          exact h
        have HM2:=Lib.hid hm2
        have hz : first l=(0,0):=by
          rw [HF.out,if_neg]
          intro h
          apply hcon
          rcases (by omega : k=0∨k=1) with rfl|rfl
          · exact h.1
          · exact h.2
        have HZ:=Lib.hid hz
        clear hm hm2 hcon hz hx hx64
        go_wp2_with (first|(go_at_call 195;refine (HM2.out _).mono ?_;rintro e w1 ⟨rfl,rfl⟩))
        go_ret2
        exact ⟨ret_two (by rw [HZ.out];rfl) (by rw [HZ.out];rfl),rfl⟩
    · obtain rfl : k=2:=by omega
      have hz : first l=fit x 2048 3:=by
        rw [HF.out,if_pos (by exact ⟨HJ.out 0 (by omega),HJ.out 1 (by omega)⟩),HX.out]
      have HZ:=Lib.hid hz
      clear hz
      have hx2 : x<8388608:=by omega
      clear hx
      by_cases hbad : x<2048∨1114111<x∨(55296≤x∧x≤57343)
      · have HB:=Lib.hid (fit_small (m:=3) hbad)
        have hend : ∀ e : Ending,e = .returned (.tuple #[.int .i64 0,.int .i64 0])→e = .returned (.tuple #[.int .i64 ((first l).1 : Nat),.int .i64 ((first l).2 : Nat)]):=fun e he=>he.trans (ret_two (by rw [HZ.out,HB.out];rfl) (by rw [HZ.out,HB.out];rfl))
        have HEND:=Lib.hid hend
        clear hend
        rcases hbad with h|h|h
        · have h' : (x : Int)<2048:=by omega
          clear h hx2
          go_wp2
          go_ret2
          exact ⟨HEND.out _ rfl,rfl⟩
        · have h' : (1114111 : Int)<x:=by omega
          have h'' : ¬ (x : Int)<2048:=by omega
          clear h hx2
          go_wp2
          go_ret2
          exact ⟨HEND.out _ rfl,rfl⟩
        · by_cases hl : x<2048
          · have h' : (x : Int)<2048:=by omega
            clear h hx2 hl
            go_wp2
            go_ret2
            exact ⟨HEND.out _ rfl,rfl⟩
          · have h0 : ¬ (x : Int)<2048:=by omega
            have h1 : ¬ (1114111 : Int)<x:=by omega
            have h2 : (55296 : Int)≤x:=by omega
            have h3 : (x : Int)≤57343:=by omega
            clear h hx2 hl
            go_wp2
            go_ret2
            exact ⟨HEND.out _ rfl,rfl⟩
      · have HB:=Lib.hid (fit_ok (m:=3) hbad)
        have h0 : ¬ (x : Int)<2048:=by omega
        have h1 : ¬ (1114111 : Int)<x:=by omega
        by_cases h5 : 55296≤x
        · have h2 : (55296 : Int)≤x:=by omega
          have h3 : ¬ (x : Int)≤57343:=by omega
          clear hbad hx2 h5
          go_wp2
          go_ret2
          exact ⟨ret_two (by rw [HZ.out,HB.out]) (by rw [HZ.out,HB.out];rfl),rfl⟩
        · have h2 : ¬ (55296 : Int)≤x:=by omega
          clear hbad hx2 h5
          go_wp2
          go_ret2
          exact ⟨ret_two (by rw [HZ.out,HB.out]) (by rw [HZ.out,HB.out];rfl),rfl⟩
theorem ref_first4 (t : ByteArray) (w : World) (hs : t.size≤4096) (hne : 0<t.size) (h1 : 240≤byt t.data.toList 0) (h2 : byt t.data.toList 0<248) :
    Calls Tryz.prog 137 #[.string t] w fun e w'=>e = .returned (.tuple #[.int .i64 ((first t.data.toList).1 : Nat),.int .i64 ((first t.data.toList).2 : Nat)])∧w=w':=by
  have hb:=byt_get t 0 hne
  have hF:=first_4 t.data.toList h1 h2
  have hmore:=fun k w hk=>ref_more t k w hs hk
  have HM:=Lib.hid hmore
  have HF:=Lib.hid hF
  have hn0 : accn t.data.toList (byt t.data.toList 0 - 240) 0=byt t.data.toList 0 - 240:=rfl
  have hacc : ∀ k,accn t.data.toList (byt t.data.toList 0 - 240) (k+1)=accn t.data.toList (byt t.data.toList 0 - 240) k*64+(byt t.data.toList (k+1) - 128):=fun k=>rfl
  have HACC:=Lib.hid hacc
  have HN0:=Lib.hid hn0
  clear hmore hF hacc hn0
  generalize t.data.toList=l at *
  generalize hc : byt l 0=c at *
  have HC:=Lib.hid hc
  clear hc
  have k1 : ((240 : Int)≤(c : Int)):=by omega
  have k2 : ((c : Int)<248):=by omega
  have k3 : (c : Int) - 240=((c - 240 : Nat) : Int):=by omega
  have hcb : c - 240≤31:=by omega
  clear h1 h2
  go_enter Tryz.func137,Tryz.ntmps137
  go_wp2
  go_loop [6,8] (fun n i=>∃ k x : Nat,k+1≤4∧i = .int .i64 ((k : Int)+1)∧n = .int .i64 x∧x<32*64 ^ k∧Hid (x=accn l (c - 240) k)∧Hid (∀ j,j<k→con l (j+1))) (fun _ i=>4 - (intOf i).toNat)
  case atStart=>exact ⟨0,c - 240,by omega,rfl,by go_num,by omega,HN0.out.symm,fun j hj=>by omega⟩
  case round =>
    obtain ⟨k,x,hk,rfl,rfl,hx,HX,HJ⟩:=hrel
    by_cases hlt : k+1<4
    · have hlI : (k : Int)+1<4:=by omega
      have hx64 : x<32*64 ^ 3:=Nat.lt_of_lt_of_le hx (Nat.mul_le_mul_left _ (Nat.pow_le_pow_right (by decide) (by omega)))
      have hx65 : x<8388608:=by omega
      have hbk:=byt_lt l (k+1)
      have hm:=fun w=>HM.out (k+1) w (by omega)
      by_cases hcon : con l (k+1)
      · have hci:=(con_iff l (k+1)).1 hcon
        have hm2 : ∀ w,Calls Tryz.prog 195 #[.string t,.int .i64 ((k : Int)+1)] w fun e w'=>e = .returned (.int .i64 ((byt l (k+1) - 128 : Nat) : Int))∧w=w':=by
          intro w
          have h:=hm w
          rw [if_pos hcon,show (byt l (k+1) : Int) - 128=((byt l (k+1) - 128 : Nat) : Int) by omega] at h
          exact h
        have HM2:=Lib.hid hm2
        have hd : byt l (k+1) - 128<64:=by omega
        have HD : Hid (accn l (c - 240) (k+1)=x*64+(byt l (k+1) - 128)):=by show _=_;rw [HACC.out,← HX.out]
        have hpow : x*64+(byt l (k+1) - 128)<32*64 ^ (k+1):=by rw [Nat.pow_succ];omega
        have HPOW:=Lib.hid hpow
        have HCON:=Lib.hid hcon
        clear hm hm2 hci hcon hpow hx hx64
        generalize byt l (k+1) - 128=d at *
        go_wp2_with (first|(go_at_call 195;refine (HM2.out _).mono ?_;rintro e w1 ⟨rfl,rfl⟩))
        go_round
        case rel=>exact ⟨k+1,x*64+d,by omega,by go_num,by go_num,HPOW.out,HD.out.symm,fun j hj=>by
          by_cases e : j=k
          · subst e;exact HCON.out
          · exact HJ.out j (by omega)⟩
        case measure=>simp [intOf];omega
      · have hm2 : ∀ w,Calls Tryz.prog 195 #[.string t,.int .i64 ((k : Int)+1)] w fun e w'=>e = .returned (.int .i64 (-1))∧w=w':=by
          intro w
          have h:=hm w
          rw [if_neg hcon] at h
          exact h
        have HM2:=Lib.hid hm2
        have hz : first l=(0,0):=by
          rw [HF.out,if_neg]
          intro h
          apply hcon
          rcases (by omega : k=0∨k=1∨k=2) with rfl|rfl|rfl
          · exact h.1
          · exact h.2.1
          · exact h.2.2
        have HZ:=Lib.hid hz
        clear hm hm2 hcon hz hx hx64
        go_wp2_with (first|(go_at_call 195;refine (HM2.out _).mono ?_;rintro e w1 ⟨rfl,rfl⟩))
        go_ret2
        exact ⟨ret_two (by rw [HZ.out];rfl) (by rw [HZ.out];rfl),rfl⟩
    · obtain rfl : k=3:=by omega
      have hz : first l=fit x 65536 4:=by
        rw [HF.out,if_pos (by exact ⟨HJ.out 0 (by omega),HJ.out 1 (by omega),HJ.out 2 (by omega)⟩),HX.out]
      have HZ:=Lib.hid hz
      clear hz
      have hx2 : x<8388608:=by omega
      clear hx
      by_cases hbad : x<65536∨1114111<x∨(55296≤x∧x≤57343)
      · have HB:=Lib.hid (fit_small (m:=4) hbad)
        have hend : ∀ e : Ending,e = .returned (.tuple #[.int .i64 0,.int .i64 0])→e = .returned (.tuple #[.int .i64 ((first l).1 : Nat),.int .i64 ((first l).2 : Nat)]):=fun e he=>he.trans (ret_two (by rw [HZ.out,HB.out];rfl) (by rw [HZ.out,HB.out];rfl))
        have HEND:=Lib.hid hend
        clear hend
        rcases hbad with h|h|h
        · have h' : (x : Int)<65536:=by omega
          clear h hx2
          go_wp2
          go_ret2
          exact ⟨HEND.out _ rfl,rfl⟩
        · have h' : (1114111 : Int)<x:=by omega
          have h'' : ¬ (x : Int)<65536:=by omega
          clear h hx2
          go_wp2
          go_ret2
          exact ⟨HEND.out _ rfl,rfl⟩
        · by_cases hl : x<65536
          · have h' : (x : Int)<65536:=by omega
            clear h hx2 hl
            go_wp2
            go_ret2
            exact ⟨HEND.out _ rfl,rfl⟩
          · have h0 : ¬ (x : Int)<65536:=by omega
            have h1 : ¬ (1114111 : Int)<x:=by omega
            have h2 : (55296 : Int)≤x:=by omega
            have h3 : (x : Int)≤57343:=by omega
            clear h hx2 hl
            go_wp2
            go_ret2
            exact ⟨HEND.out _ rfl,rfl⟩
      · have HB:=Lib.hid (fit_ok (m:=4) hbad)
        have h0 : ¬ (x : Int)<65536:=by omega
        have h1 : ¬ (1114111 : Int)<x:=by omega
        by_cases h5 : 55296≤x
        · have h2 : (55296 : Int)≤x:=by omega
          have h3 : ¬ (x : Int)≤57343:=by omega
          clear hbad hx2 h5
          go_wp2
          go_ret2
          exact ⟨ret_two (by rw [HZ.out,HB.out]) (by rw [HZ.out,HB.out];rfl),rfl⟩
        · have h2 : ¬ (55296 : Int)≤x:=by omega
          clear hbad hx2 h5
          go_wp2
          go_ret2
          exact ⟨ret_two (by rw [HZ.out,HB.out]) (by rw [HZ.out,HB.out];rfl),rfl⟩
theorem ref_first (t : ByteArray) (w : World) (hs : t.size≤4096) (hne : 0<t.size) :
    Calls Tryz.prog 137 #[.string t] w fun e w'=>e = .returned (.tuple #[.int .i64 ((first t.data.toList).1 : Nat),.int .i64 ((first t.data.toList).2 : Nat)])∧w=w':=by
  by_cases c2 : 192≤byt t.data.toList 0∧byt t.data.toList 0<224
  · exact ref_first2 t w hs hne c2.1 c2.2
  by_cases c3 : 224≤byt t.data.toList 0∧byt t.data.toList 0<240
  · exact ref_first3 t w hs hne c3.1 c3.2
  by_cases c4 : 240≤byt t.data.toList 0∧byt t.data.toList 0<248
  · exact ref_first4 t w hs hne c4.1 c4.2
  have hb:=byt_get t 0 hne
  have hlt:=byt_lt t.data.toList 0
  by_cases c1 : byt t.data.toList 0<128
  · have hf : first t.data.toList=(byt t.data.toList 0,1):=by unfold first;rw [if_pos c1]
    rw [hf]
    clear hf
    generalize byt t.data.toList 0=c at *
    have h1 : (c : Int)<128:=by omega
    have h0 : (0 : Int)≤(c : Int):=by omega
    clear c1 c2 c3 c4 hs hlt
    go_enter Tryz.func137,Tryz.ntmps137
    go_wp2
    go_ret2
    exact ⟨rfl,rfl⟩
  · have hf : first t.data.toList=(0,0):=by unfold first;rw [if_neg c1,if_neg c2,if_neg c3,if_neg c4]
    rw [hf]
    clear hf
    generalize byt t.data.toList 0=c at *
    have h1 : ¬ (c : Int)<128:=by omega
    by_cases h192 : c<192
    · have k1 : ¬ (192 : Int)≤c:=by omega
      have k2 : ¬ (224 : Int)≤c:=by omega
      have k3 : ¬ (240 : Int)≤c:=by omega
      clear c1 c2 c3 c4 hs hlt h192
      go_enter Tryz.func137,Tryz.ntmps137
      go_wp2
      go_ret2
      exact ⟨rfl,rfl⟩
    · have k1 : (192 : Int)≤c:=by omega
      have k0 : (c : Int)<256:=by omega
      have k2 : ¬ (c : Int)<224:=by omega
      have k3 : (224 : Int)≤c:=by omega
      have k4 : ¬ (c : Int)<240:=by omega
      have k5 : (240 : Int)≤c:=by omega
      have k6 : ¬ (c : Int)<248:=by omega
      clear c1 c2 c3 c4 hs hlt h192
      go_enter Tryz.func137,Tryz.ntmps137
      go_wp2
      go_ret2
      exact ⟨rfl,rfl⟩
theorem ref_first_at (s : ByteArray) (pos : Nat) (w : World) (hs : s.size≤4096) (h : pos<s.size) :
    Calls Tryz.prog 137 #[.string (s.extract pos s.size)] w fun e w'=>e = .returned (.tuple #[.int .i64 ((first (s.data.toList.drop pos)).1 : Nat),.int .i64 ((first (s.data.toList.drop pos)).2 : Nat)])∧w=w':=by
  have h1:=ref_first (s.extract pos s.size) w (by simp;omega) (by simp;omega)
  rw [ext_drop'] at h1
  exact h1
theorem ref_signs (s : ByteArray) (w : World) (hs : s.size≤4096) :
    Calls Tryz.prog 91 #[.string s] w fun e w'=>∃ v,e = .returned v∧Sl w.heap.size w' 1 v (signs s.data.toList).length (iv (signs s.data.toList))∧Below w.heap.size w w':=by
  obtain ⟨i0,hi,hz0,hz1,hz2⟩:=info_parts info_int
  have hlen:=signs_len s.data.toList
  have hl2 : s.data.toList.length=s.size:=by simp
  rw [hl2] at hlen
  have HLEN:=Lib.hid hlen
  clear hlen hl2
  have h0 : Sl w.heap.size (w.alloc (.cells #[] 3)) 1 (.slice (some ⟨w.heap.size,0,none⟩) 0 0) 0 []:=by
    simpa using Sl.made (B:=w.heap.size) w #[] 3 1 0 0 (Nat.le_refl _) (Nat.le_refl _) (Nat.zero_le _) (by simp)
  have H0:=Lib.hid h0
  clear h0
  go_enter Tryz.func91,Tryz.ntmps91
  go_wp2
  go_loopw [3,4,5,6] (fun v i n m wr=>∃ (pos : Nat) (acc : List Int),i = .int .i64 pos∧pos≤s.size∧Hid (signs s.data.toList=acc++signs (s.data.toList.drop pos))∧Sl w.heap.size wr 1 v acc.length (iv acc)∧Below w.heap.size w wr) (fun _ i _ _ _=>s.size - (intOf i).toNat)
  case atStart=>exact ⟨0,[],rfl,Nat.zero_le _,rfl,H0.out,(Below.refl _ _).alloc (Nat.le_refl _) _⟩
  case round =>
    obtain ⟨pos,acc,rfl,hp,HA,hsl,hb⟩:=hrel
    by_cases hlt : pos<s.size
    · have hfirst:=fun w'=>ref_first_at s pos w' hs hlt
      have hsg:=signs_at s pos hlt
      have hst:=stp_at s pos hlt
      have hst1:=stp_pos (s.data.toList.drop pos)
      have hrg:=sg_range (s.data.toList.drop pos)
      have hb0:=byt_get s pos hlt
      have hbd : byt s.data.toList pos=byt (s.data.toList.drop pos) 0:=by
        unfold byt
        rw [List.getD_eq_getElem?_getD,List.getD_eq_getElem?_getD,List.getElem?_drop,Nat.add_zero]
      rw [hbd] at hb0
      have hal : acc.length<4096:=by
        have h1:=HLEN.out
        rw [HA.out,List.length_append,hsg] at h1
        simp at h1
        omega
      have HA2 : Hid (signs s.data.toList=(acc++[sg (s.data.toList.drop pos)])++signs (s.data.toList.drop (pos+stp (s.data.toList.drop pos)))):=by
        show _=_
        rw [HA.out,hsg,List.append_assoc]
        rfl
      have hsgo:=sg_of (s.data.toList.drop pos)
      have hstd : stp (s.data.toList.drop pos)=if (first (s.data.toList.drop pos)).2=0 then 1 else (first (s.data.toList.drop pos)).2:=rfl
      have HFI:=Lib.hid hfirst
      have hblt:=byt_lt (s.data.toList.drop pos) 0
      clear hsg HA hbd hfirst
      generalize sg (s.data.toList.drop pos)=z at *
      generalize stp (s.data.toList.drop pos)=st at *
      generalize first (s.data.toList.drop pos)=f at *
      generalize byt (s.data.toList.drop pos) 0=b at *
      obtain ⟨f1,f2⟩:=f
      simp only at hsgo hstd HFI
      have hBw:=hb.size
      by_cases hf : f2=0
      · rw [if_pos hf] at hsgo hstd
        subst hf hstd
        have hneg : -(b : Int) - 1=z:=hsgo.symm
        have hwn : IntKind.i64.wrap (-(b : Int)) = -(b : Int):=by rw [IntKind.wrap_i64];omega
        clear hsgo
        go_wp2_with (first|(go_at_call 137;refine (HFI.out _).mono ?_;rintro e w1 ⟨rfl,rfl⟩)|(at_builtin;refine wpList_append_sl _ rfl (.tmp 27) (.tmp 29) 106 106 rfl 3 i0 (.int .i64 0) 8 Tryz.underlying106 hi hz0 hz1 hz2 rfl rfl (hsl.alloc _) _ 1 _ rfl (src_one Tryz.underlying106 _ _ _ rfl) (by unfold maxLen;omega) (by omega) (by simp;omega) ?_;intro v1 w3 k1 k2 k3))
        have hb3 : Below w.heap.size w w3:=(hb.alloc hBw _).upd k2 (by simp;omega) (fun i _ e=>(hsl.lt _ e).1)
        go_roundw
        case rel=>exact ⟨pos+1,acc++[z],by go_num,hst,HA2.out,by rw [List.length_append,iv_append];exact k1,hb3⟩
        case measure=>simp [intOf];omega
      · rw [if_neg hf] at hsgo hstd
        subst hstd hsgo
        have hf' : ((st : Int) == 0)=false:=by simp;omega
        go_wp2_with (first|(go_at_call 137;refine (HFI.out _).mono ?_;rintro e w1 ⟨rfl,rfl⟩)|(at_builtin;refine wpList_append_sl _ rfl (.tmp 27) (.tmp 29) 106 106 rfl 3 i0 (.int .i64 0) 8 Tryz.underlying106 hi hz0 hz1 hz2 rfl rfl (hsl.alloc _) _ 1 _ rfl (src_one Tryz.underlying106 _ _ _ rfl) (by unfold maxLen;omega) (by omega) (by simp;omega) ?_;intro v1 w3 k1 k2 k3))
        have hb3 : Below w.heap.size w w3:=(hb.alloc hBw _).upd k2 (by simp;omega) (fun i _ e=>(hsl.lt _ e).1)
        go_roundw
        case rel=>exact ⟨pos+st,acc++[(f1 : Int)],by go_num,hst,HA2.out,by rw [List.length_append,iv_append];exact k1,hb3⟩
        case measure=>simp [intOf];omega
    · have he:=signs_end s pos hlt
      have hall:=HA.out
      rw [he,List.append_nil] at hall
      have HALL:=Lib.hid hall
      clear hall he HA
      go_wp2
      go_ret
      exact ⟨_,rfl,by rw [HALL.out];exact hsl,hb⟩
theorem Sl.ints {B : Nat} {w : World} {v : Value} {n : Nat} {l : List Int} (h : Sl B w 1 v n (iv l)) : n=l.length∧∃ a c,v = .slice a n c∧∀ (j : Nat) (hj : j<l.length),∃ b off,a=some ⟨b,off,none⟩∧b<w.heap.size∧w.cell? ⟨b,off+j,none⟩=some (.int .i64 l[j]):=by
  have hn : n=l.length:=by have:=h.1;simp [iv] at this;omega
  refine ⟨hn,?_⟩
  rcases h.2 with ⟨rfl,rfl⟩|⟨g,off,cap,rfl,_,hg,_,_,h3,_⟩
  · exact ⟨_,_,rfl,fun j hj=>by omega⟩
  · refine ⟨_,_,rfl,fun j hj=>⟨g,off,rfl,hg,?_⟩⟩
    rw [h3 j (by omega)]
    simp [iv,hj]
theorem PHex_dig : ∀ d,d<16→((dig d).toNat=48+d∧d≤9)∨((dig d).toNat=87+d∧10≤d):=by decide
theorem one_text_q (c : UInt8) (w : World) (N : Nat) (hN : w.heap.size=N) :
    (convert 79 9 (.slice (some ⟨N,0,none⟩) 1 1)).run Tryz.prog (w.alloc (.cells #[.int .u8 (c.toNat : Int)] 5)) = .ok (.string (bstr [c])) (w.alloc (.cells #[.int .u8 (c.toNat : Int)] 5)):=by
  subst hN
  have h:=Sl.made (B:=w.heap.size) w #[.int .u8 (c.toNat : Int)] 5 1 1 1 (Nat.le_refl _) (Nat.le_refl _) (by decide) (by simp)
  exact sl_string (n:=1) (l:=[c]) (by simpa [bv] using h) 79 9 5 Tryz.underlying79 Tryz.underlying5 Tryz.underlying9 (B:=w.heap.size)
theorem ref_hex (n : Nat) : ∀ (w : World),n<4294967296 →
    Calls Tryz.prog 92 #[.int .i64 n] w fun e w'=>e = .returned (.string (bstr (hex n)))∧Below w.heap.size w w':=by
  induction n using Nat.strongRecOn with
  | _ n ih =>
    intro w hn
    obtain ⟨d,hd⟩ : ∃ d,n % 16=d:=⟨_,rfl⟩
    have hd16 : d<16:=by omega
    have hdi : (n : Int).tmod 16=(d : Int):=by rw [Int.tmod_eq_emod_of_nonneg (by omega)];omega
    have hdi2 : (n : Int) % 16=(d : Int):=by omega
    have kc:=one_text_q (dig d) w w.heap.size rfl
    have hb0 : Below w.heap.size w (w.alloc (.cells #[.int .u8 ((dig d).toNat : Int)] 5)):=(Below.refl _ _).alloc (Nat.le_refl _) _
    have HB0:=Lib.hid hb0
    clear hb0
    obtain ⟨q,hqn⟩ : ∃ q,n / 16=q:=⟨_,rfl⟩
    have hq : (n : Int) / 16=(q : Int):=by omega
    have hdig : (d≤9∧((dig d).toNat : Int)=48+d)∨(10≤d∧((dig d).toNat : Int)=87+d):=by
      rcases PHex_dig d hd16 with h|h
      · exact .inl ⟨h.2,by omega⟩
      · exact .inr ⟨h.2,by omega⟩
    by_cases h16 : n<16
    · have hx : hex n=[dig d]:=by rw [hex_low h16];congr 2;omega
      rw [hx]
      have h16' : (n : Int)<16:=by omega
      clear hx ih hq h16 hn hd hqn
      generalize (dig d).toNat=c at *
      rcases hdig with ⟨h1,h2⟩|⟨h1,h2⟩
      · have e1 : 48+(d : Int)=(c : Int):=h2.symm
        have e3 : IntKind.u8.wrap (c : Int)=(c : Int):=by rw [IntKind.wrap_u8];omega
        have h9 : ¬ (9 : Int)<d:=by omega
        clear h2
        go_enter Tryz.func92,Tryz.ntmps92
        go_wp2
        go_ret
        exact ⟨rfl,HB0.out⟩
      · have e1 : 97+(d : Int) - 10=(c : Int):=by omega
        have e3 : IntKind.u8.wrap (c : Int)=(c : Int):=by rw [IntKind.wrap_u8];omega
        have h9 : (9 : Int)<d:=by omega
        clear h2
        go_enter Tryz.func92,Tryz.ntmps92
        go_wp2
        go_ret
        exact ⟨rfl,HB0.out⟩
    · have hcat : bstr (hex q)++bstr [dig d]=bstr (hex n):=by rw [bcat,hex_high (n:=n) (by omega),hd,hqn]
      have hlen:=hex_len 7 q (by omega)
      have HC:=Lib.hid hcat
      have hrec:=fun w=>ih q (by omega) w (by omega)
      have HREC:=Lib.hid hrec
      have h16' : ¬ (n : Int)<16:=by omega
      have hnI : (n : Int)<4294967296:=by omega
      have hn0 : (16 : Int)≤(n : Int):=by omega
      clear hcat hrec ih h16 hn hd hqn
      generalize hex q=r at *
      generalize (dig d).toNat=c at *
      rcases hdig with ⟨h1,h2⟩|⟨h1,h2⟩
      · have e1 : 48+(d : Int)=(c : Int):=h2.symm
        have e3 : IntKind.u8.wrap (c : Int)=(c : Int):=by rw [IntKind.wrap_u8];omega
        have h9 : ¬ (9 : Int)<d:=by omega
        clear h2
        go_enter Tryz.func92,Tryz.ntmps92
        go_wp2_with (first|(go_at_call 92;refine (HREC.out _).mono ?_;rintro e w2 ⟨rfl,hb2⟩))
        go_ret
        exact ⟨by rw [HC.out];rfl,on_below HB0.out hb2⟩
      · have e1 : 97+(d : Int) - 10=(c : Int):=by omega
        have e3 : IntKind.u8.wrap (c : Int)=(c : Int):=by rw [IntKind.wrap_u8];omega
        have h9 : (9 : Int)<d:=by omega
        clear h2
        go_enter Tryz.func92,Tryz.ntmps92
        go_wp2_with (first|(go_at_call 92;refine (HREC.out _).mono ?_;rintro e w2 ⟨rfl,hb2⟩))
        go_ret
        exact ⟨by rw [HC.out];rfl,on_below HB0.out hb2⟩
theorem ref_quote (s : ByteArray) (w : World) (hs : s.size≤4096) :
    Calls Tryz.prog 44 #[.string s] w fun e w'=>e = .returned (.string (bstr (quote s.data.toList)))∧Below w.heap.size w w':=by
  have hsig:=ref_signs s w hs
  have hlen:=signs_len s.data.toList
  have hl2 : s.data.toList.length=s.size:=by simp
  have hrg:=signs_range s.data.toList
  have hq : quote s.data.toList=(34::toldAll (signs s.data.toList))++[34]:=rfl
  rw [hq]
  rw [hl2] at hlen
  clear hq hl2
  have HSIG:=Lib.hid hsig
  clear hsig
  generalize signs s.data.toList=l at *
  have HRG:=Lib.hid hrg
  have HL:=Lib.hid (Nat.le_trans hlen hs)
  clear hrg hlen
  go_enter Tryz.func44,Tryz.ntmps44
  go_wp2_with (first|(go_at_call 91;refine HSIG.out.mono ?_;rintro e w1 ⟨v,rfl,hsl,hb1⟩))
  obtain ⟨-,a,c,rfl,hint⟩:=hsl.ints
  have HINT:=Lib.hid hint
  clear hsl HSIG hint
  go_wp2
  go_loopw [3,5,6] (fun o i n wr=>∃ k : Nat,k≤l.length∧i = .int .i64 k∧o = .string (bstr (34::toldAll (l.take k)))∧Below w1.heap.size w1 wr) (fun _ i _ _=>l.length - (intOf i).toNat)
  case atStart=>exact ⟨0,Nat.zero_le _,rfl,rfl,Below.refl _ _⟩
  case round =>
    obtain ⟨k,hk,rfl,rfl,hb⟩:=hrel
    by_cases hlt : k<l.length
    · obtain ⟨b,off,rfl,hbb,hc⟩:=HINT.out k hlt
      have hcx : wr.cell? ⟨b,off+k,none⟩=some (.int .i64 l[k]):=cell_on hb hc hbb
      have hz:=HRG.out l[k] (List.getElem_mem hlt)
      have hsn : toldAll (l.take (k+1))=toldAll (l.take k)++told l[k]:=by rw [List.take_succ_eq_append_getElem hlt,toldAll_snoc]
      have hal : (34::toldAll (l.take k)).length≤40961:=by
        have h1:=toldAll_len (l.take k) (fun n hn=>HRG.out n (List.mem_of_mem_take hn))
        have h2 : (l.take k).length≤k:=List.length_take_le _ _
        have h3:=HL.out
        simp only [List.length_cons]
        omega
      have HSN:=Lib.hid hsn
      have hk4 : k<4096:=by have:=HL.out;omega
      clear hc hsn
      generalize ho : 34::toldAll (l.take k)=o at *
      have HO:=Lib.hid ho
      clear ho
      generalize l[k]=z at *
      by_cases hneg : z<0
      · obtain ⟨m,hm⟩ : ∃ m : Nat,-z - 1=(m : Int):=⟨(-z - 1).toNat,by omega⟩
        have ht : told z=[92,120]++hex m:=by unfold told;rw [if_pos hneg,show (-1 - z).toNat=m by omega]
        have hlen:=hex_len 1 m (by omega)
        have hcat : bstr o++(⟨#[92,120]⟩ : ByteArray)++bstr (hex m)=bstr (o++told z):=by
          rw [ht,← List.append_assoc]
          exact (congrArg (· ++ bstr (hex m)) (bcat o [92,120])).trans (bcat _ _)
        have hhex:=fun w=>ref_hex m w (by omega)
        have HC:=Lib.hid hcat
        have HH:=Lib.hid hhex
        have hzw : IntKind.i64.wrap (-z) = -z:=by rw [IntKind.wrap_i64];omega
        clear ht hcat hhex
        generalize hex m=x at *
        go_wp2_with (first|(go_at_call 92;refine (HH.out _).mono ?_;rintro e w2 ⟨rfl,hb2⟩))
        have hb3 : Below w1.heap.size w1 w2:=on_below hb hb2
        go_roundw
        case rel=>exact ⟨k+1,by omega,by go_num,by rw [HC.out,HSN.out,← List.cons_append,HO.out],hb3⟩
        case measure=>simp [intOf];omega
      · by_cases h34 : z=34
        · subst h34
          have ht : told 34=[92,34]:=by decide
          have hcat : bstr o++(⟨#[92]⟩ : ByteArray)++bstr [34]=bstr (o++told 34):=by
            rw [ht]
            exact (congrArg (· ++ bstr [34]) (bcat o [92])).trans ((bcat _ _).trans (by simp))
          have kc : (convert 79 9 (.slice (some ⟨wr.heap.size,0,none⟩) 1 1)).run Tryz.prog (wr.alloc (.cells #[.int .u8 34] 5)) = .ok (.string (bstr [34])) (wr.alloc (.cells #[.int .u8 34] 5)):=one_text_q 34 wr wr.heap.size rfl
          have hb3 : Below w1.heap.size w1 (wr.alloc (.cells #[.int .u8 34] 5)):=hb.alloc hb.size _
          have HC:=Lib.hid hcat
          have HB3:=Lib.hid hb3
          clear ht hcat hb3 hneg hz
          go_wp2
          go_roundw
          case rel=>exact ⟨k+1,by omega,by go_num,by rw [HC.out,HSN.out,← List.cons_append,HO.out],HB3.out⟩
          case measure=>simp [intOf];omega
        by_cases h92 : z=92
        · subst h92
          have ht : told 92=[92,92]:=by decide
          have hcat : bstr o++(⟨#[92]⟩ : ByteArray)++bstr [92]=bstr (o++told 92):=by
            rw [ht]
            exact (congrArg (· ++ bstr [92]) (bcat o [92])).trans ((bcat _ _).trans (by simp))
          have kc : (convert 79 9 (.slice (some ⟨wr.heap.size,0,none⟩) 1 1)).run Tryz.prog (wr.alloc (.cells #[.int .u8 92] 5)) = .ok (.string (bstr [92])) (wr.alloc (.cells #[.int .u8 92] 5)):=one_text_q 92 wr wr.heap.size rfl
          have hb3 : Below w1.heap.size w1 (wr.alloc (.cells #[.int .u8 92] 5)):=hb.alloc hb.size _
          have HC:=Lib.hid hcat
          have HB3:=Lib.hid hb3
          clear ht hcat hb3 hneg hz
          go_wp2
          go_roundw
          case rel=>exact ⟨k+1,by omega,by go_num,by rw [HC.out,HSN.out,← List.cons_append,HO.out],HB3.out⟩
          case measure=>simp [intOf];omega
        obtain ⟨m,hm⟩ : ∃ m : Nat,z=(m : Int):=⟨z.toNat,by omega⟩
        subst hm
        have e34 : ((m : Int) == 34)=false:=by simpa using h34
        have e92 : ((m : Int) == 92)=false:=by simpa using h92
        by_cases hout : (m : Int)<32∨126<(m : Int)
        · have ht : told (m : Int)=[92,117,123]++hex m++[125]:=by unfold told;rw [if_neg hneg,if_pos hout];rfl
          have hlen:=hex_len 5 m (by omega)
          have hcat : bstr o++(⟨#[92,117,123]⟩ : ByteArray)++bstr (hex m)++(⟨#[125]⟩ : ByteArray)=bstr (o++told (m : Int)):=by
            rw [ht]
            have e1:=bcat o [92,117,123]
            have e2:=bcat (o++[92,117,123]) (hex m)
            have e3:=bcat (o++[92,117,123]++hex m) [125]
            have h1:=congrArg (fun x=>x++bstr (hex m)++(⟨#[125]⟩ : ByteArray)) e1
            have h2:=congrArg (fun x=>x++(⟨#[125]⟩ : ByteArray)) e2
            exact h1.trans (h2.trans (e3.trans (by simp)))
          have hhex:=fun w=>ref_hex m w (by omega)
          have HC:=Lib.hid hcat
          have HH:=Lib.hid hhex
          clear ht hcat hhex hneg hz h34 h92
          generalize hex m=x at *
          by_cases h32 : (m : Int)<32
          all_goals
            have h126 : (m : Int)<32∨(126 : Int)<(m : Int):=hout
            first|(have k1 : (126 : Int)<(m : Int):=by omega)|skip
            clear h126
            clear hout
            go_wp2_with (first|(go_at_call 92;refine (HH.out _).mono ?_;rintro e w2 ⟨rfl,hb2⟩))
            all_goals try (
              have hb3 : Below w1.heap.size w1 w2:=on_below hb hb2
              go_roundw
              case rel=>exact ⟨k+1,by omega,by go_num,by rw [HC.out,HSN.out,← List.cons_append,HO.out],hb3⟩
              case measure=>simp [intOf];omega)
        · have h32 : (32 : Int)≤(m : Int):=by omega
          have h126 : (m : Int)≤126:=by omega
          have hc8 : ((UInt8.ofNat m).toNat : Int)=(m : Int):=by simp;omega
          have ht : told (m : Int)=[UInt8.ofNat m]:=by unfold told;rw [if_neg hneg,if_neg hout,if_neg (by omega)];rfl
          have hcat : bstr o++bstr [UInt8.ofNat m]=bstr (o++told (m : Int)):=by rw [ht];exact bcat _ _
          have kc:=one_text_q (UInt8.ofNat m) wr wr.heap.size rfl
          rw [hc8] at kc
          have hb3 : Below w1.heap.size w1 (wr.alloc (.cells #[.int .u8 (m : Int)] 5)):=hb.alloc hb.size _
          have HC:=Lib.hid hcat
          have HB3:=Lib.hid hb3
          clear ht hcat hb3 hc8 hneg hz hout h34 h92
          generalize UInt8.ofNat m=u at *
          go_wp2
          go_roundw
          case rel=>exact ⟨k+1,by omega,by go_num,by rw [HC.out,HSN.out,← List.cons_append,HO.out],HB3.out⟩
          case measure=>simp [intOf];omega
    · obtain rfl : k=l.length:=by omega
      rw [List.take_length] at *
      have hal : (34::toldAll l).length≤40961:=by
        have h1:=toldAll_len l HRG.out
        have h3:=HL.out
        simp only [List.length_cons]
        omega
      have hcat : bstr (34::toldAll l)++(⟨#[34]⟩ : ByteArray)=bstr ((34::toldAll l)++[34]):=bcat _ [34]
      have HC:=Lib.hid hcat
      clear hcat
      generalize ho : 34::toldAll l=o at *
      have HO:=Lib.hid ho
      clear ho
      go_wp2
      go_ret
      exact ⟨by rw [← List.cons_append,HO.out];try (rw [HC.out]);try rfl,hb1.trans (hb.mono hb1.size)⟩
end Go.Proofs.YtmimfkhkilijcaaGreatDoor
