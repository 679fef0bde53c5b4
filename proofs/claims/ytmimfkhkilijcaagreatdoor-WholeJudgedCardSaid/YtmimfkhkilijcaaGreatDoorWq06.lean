/- QBuild; KQuB: what is reached of them. -/
import Derived.Test.YtmimfkhkilijcaaGreatDoorWq01
import Derived.Test.YtmimfkhkilijcaaGreatDoorWq02
import Derived.WalkKit
import Derived.ProofKit
import Derived.OpenShut
import Derived.Handy
import Derived.BigQuiet
import Derived.Deep.QuietTactic
import Derived.IntWalk
import Derived.Outline
import Derived.WalkLawsBesides
import Derived.Shelf.Strings.Builder1
import Derived.Shelf.Strings.BuilderK
import Derived.Test.YtmimfkhkilijcaaGreatDoorWq03
import Derived.Deep.OwnRows
set_option linter.unusedVariables false
set_option linter.unusedSimpArgs false
set_option maxRecDepth 100000
set_option maxHeartbeats 8000000
namespace Go.Proofs.YtmimfkhkilijcaaGreatDoor
open Go.ChangeShapes Go.WideShapes Go.ChangeAt Go.RowKit
def Bld (B b : Nat) (l : List UInt8) (w : World) : Prop:=Lib.IsBuilderF 81 5 B b (Lib.byteCells l) w
def BldOn (B b : Nat) (l : List UInt8) (w w' : World) : Prop:=Bld B b l w'∧Below B w w'∧Lib.OthersKept 5 (some b) w w'
theorem b_fresh (b : Nat) (w : World) (h0 : w.cell? ⟨b,0,none⟩=some (.pointer none)) (hsh : w.shape? b=some (81,2)) (hfz : w.frozen? ⟨b,0,none⟩=false) :
    Calls Tryz.prog 79 #[.pointer (some ⟨b,0,none⟩)] w fun e w'=>e = .returned (.tuple #[])∧w'=w.setCell ⟨b,0,none⟩ (.pointer (some ⟨b,0,none⟩)):=by
  have hx : (Tryz.prog.info? 81).map (·.size)=some 2:=by kernel_rfl
  obtain ⟨j,hj,hjs⟩:=Option.map_eq_some_iff.1 hx
  clear hx
  go_enter Tryz.func79,Tryz.ntmps79
  go_wp2
  rw [Lib.run_to_unsafe w ⟨b,0,none⟩ Tryz.underlying78 Tryz.underlying210 hj (by rw [hjs];decide) hsh (Nat.zero_lt_succ 1)]
  simp only [Result.andThen]
  rw [Oper.upon_value]
  go_wp2
  rw [run_callFunc_extern Tryz.func131 (by kernel_rfl) (by kernel_rfl) (by kernel_rfl) (e:=Extern.AbiNoEscape.same) (by kernel_rfl)]
  rw [Lib.run_noEscape]
  simp only [Result.andThen]
  rw [Oper.upon_value]
  go_wp2
  rw [Lib.run_from_unsafe w ⟨b,0,none⟩ Tryz.underlying210 Tryz.underlying78 hj hsh (by kernel_rfl)]
  simp only [Result.andThen]
  rw [Oper.upon_value]
  go_wp2
  go_end0
  exact ⟨rfl,rfl⟩
theorem b_used (b : Nat) (w : World) (h0 : w.cell? ⟨b,0,none⟩=some (.pointer (some ⟨b,0,none⟩))) :
    Calls Tryz.prog 79 #[.pointer (some ⟨b,0,none⟩)] w fun e w'=>e = .returned (.tuple #[])∧w'=w:=by
  have hx : (Tryz.prog.info? 81).map (·.size)=some 2:=by kernel_rfl
  obtain ⟨j,hj,_⟩:=Option.map_eq_some_iff.1 hx
  clear hx
  go_enter Tryz.func79,Tryz.ntmps79
  go_wp2
  rw [Lib.run_neq_ptr_same w _ Tryz.underlying78 hj]
  go_wp2
  go_end0
  exact ⟨rfl,rfl⟩
theorem b_check (B b : Nat) (bs : List Value) (w : World) (h : Lib.IsBuilderF 81 5 B b bs w) :
    Calls Tryz.prog 79 #[.pointer (some ⟨b,0,none⟩)] w fun e w'=>e = .returned (.tuple #[])∧(Lib.BuilderAtF 81 5 B b (.pointer (some ⟨b,0,none⟩)) bs w'∧Below B w w'∧Lib.OthersKept 5 (some b) w w'):=by
  rcases h with h|h
  · refine (b_fresh b w h.cell0 h.shape h.frozen0).mono ?_
    rintro e w' ⟨rfl,rfl⟩
    exact ⟨rfl,h.used _,(Below.refl B w).setCell (p:=⟨b,0,none⟩) h.1 _,(Lib.OthersKept.refl _ _ w).setCell ⟨b,0,none⟩ rfl _⟩
  · refine (b_used b w h.cell0).mono ?_
    rintro e w' ⟨rfl,rfl⟩
    exact ⟨rfl,h,Below.refl B _,Lib.OthersKept.refl _ _ _⟩
theorem byte_info : (Tryz.prog.info? 5).map (fun i=>(i.zero,i.size,i.bytes))=some (some (.int .u8 0),1,1):=by kernel_rfl
theorem b_write (B b : Nat) (l : List UInt8) (s : ByteArray) (w : World) (h : Bld B b l w) (hlen : l.length+s.size≤140737488355328) (hBw : B≤w.heap.size) :
    Calls Tryz.prog 36 #[.pointer (some ⟨b,0,none⟩),.string s] w fun e w'=>e = .returned (.tuple #[.int .i64 s.size,.nilIface])∧BldOn B b (l++s.data.toList) w w':=by
  obtain ⟨i0,hi,hz0,hz1,hz2⟩:=info_parts byte_info
  have hbl : (Lib.byteCells l).length=l.length:=by simp [Lib.byteCells]
  have hcat : Lib.byteCells l++Lib.strCells s=Lib.byteCells (l++s.data.toList):=by simp [Lib.byteCells,Lib.strCells]
  have HCAT:=Lib.hid hcat
  clear hcat
  have h' : Lib.IsBuilderF 81 5 B b (Lib.byteCells l) w:=h
  clear h
  have HL:=Lib.hid hbl
  clear hbl
  generalize Lib.byteCells l=bs at *
  go_enter Tryz.func36,Tryz.ntmps36
  go_wp2_with (go_at_call 79;refine (b_check B b bs _ h').mono ?_)
  rintro e w1 ⟨rfl,⟨hB,v,hbk,hown,hne⟩,hb1,hk1⟩
  have c0 : w1.cell? ⟨b,0,none⟩=some (.pointer (some ⟨b,0,none⟩)):=by rw [Lib.cell_of_heap hbk];rfl
  have c1 : w1.cell? ⟨b,1,none⟩=some v:=by rw [Lib.cell_of_heap hbk];rfl
  have hbs : B≤w1.heap.size:=Nat.le_trans hBw hb1.size
  have hll : bs.length+s.size≤140737488355328:=by rw [HL.out];exact hlen
  go_wp2_with (at_builtin;refine Lib.wpList_append_own_stringF _ rfl _ _ 79 9 rfl B 5 i0 Tryz.underlying79 Tryz.underlying9 hi hz0 hz1 hz2 _ _ _ rfl hown s rfl (by unfold maxLen;omega) hll hbs ?_)
  intro v' w2 hown' hgrow hnil
  have hlt : b<w1.heap.size:=(Array.getElem?_eq_some_iff.1 hbk).1
  have hb2 : w2.heap[b]? = some (.cells #[.pointer (some ⟨b,0,none⟩),v] 81 (0,0)):=by
    rw [hgrow.block b hlt (fun e=>hne e.symm)]
    exact hbk
  have d0 : w2.cell? ⟨b,0,none⟩=some (.pointer (some ⟨b,0,none⟩)):=by rw [Lib.cell_of_heap hb2];rfl
  have d1 : w2.cell? ⟨b,1,none⟩=some v:=by rw [Lib.cell_of_heap hb2];rfl
  have f1 : w2.frozen? ⟨b,1,none⟩=false:=Lib.frozen_of_heap hb2 1
  obtain ⟨ao,n',cap,rfl⟩ : ∃ ao n' cap,v' = .slice ao n' cap:=by
    rcases hown'.2 with ⟨hv,_⟩|⟨g,cap,cur,fz,hv,_⟩
    · exact ⟨_,_,_,hv⟩
    · exact ⟨_,_,_,hv⟩
  go_wp2
  go_ret2
  refine ⟨rfl,.inr ?_,(hb1.grown hgrow hbs (fun k hk=>(hown.lt k hk).1)).setCell (p:=⟨b,1,none⟩) hB _,(hk1.grown hgrow (Lib.ownsRowF_kind hown)).setCell ⟨b,1,none⟩ rfl _⟩
  rw [← HCAT.out]
  exact Lib.BuilderAtF.put (T:=81) (e:=5) hB hb2 (bs':=bs++Lib.strCells s) (by simpa [Lib.strCells_length] using hown') (by decide)
theorem b_zero (w : World) : Bld w.heap.size w.heap.size [] (w.alloc (.cells #[.pointer none,.slice none 0 0] 81)):=by
  refine .inl ⟨Nat.le_refl _,.slice none 0 0,heap_alloc_new w _,?_,by simp [Value.ownBlock]⟩
  exact ⟨by simp [Lib.byteCells],.inl ⟨rfl,rfl⟩⟩
theorem b_text (B b : Nat) (l : List UInt8) (w : World) (h : Bld B b l w) (hBw : B≤w.heap.size) :
    Calls Tryz.prog 40 #[.pointer (some ⟨b,0,none⟩)] w fun e w'=>e = .returned (.string (bstr l))∧Below B w w' :=
  (Tryz.Builder_String_any_f B b l w h hBw).mono fun e w' h=>⟨h.1,h.2.2⟩
theorem bld_on {B b : Nat} {l : List UInt8} {w w' : World} (h : Bld B b l w) (hb : Below w.heap.size w w') : Bld B b l w':=by
  have keep : ∀ k o,w.heap[k]? = some o→w'.heap[k]? = some o:=fun k o hk=>by rw [hb.block k (Array.getElem?_eq_some_iff.1 hk).1];exact hk
  have at_ : ∀ p,Lib.BuilderAtF 81 5 B b p (Lib.byteCells l) w→Lib.BuilderAtF 81 5 B b p (Lib.byteCells l) w':=by
    intro p ⟨hB,v,hbk,hown,hne⟩
    refine ⟨hB,v,keep _ _ hbk,⟨hown.1,?_⟩,hne⟩
    rcases hown.2 with h0|⟨g,cap,cur,fz,h1,h2,h3,h4⟩
    · exact .inl h0
    · exact .inr ⟨g,cap,cur,fz,h1,h2,keep _ _ h3,h4⟩
  exact h.elim (fun x=>.inl (at_ _ x)) (fun x=>.inr (at_ _ x))
open PSign PHex PQuote
theorem enc_low : ∀ n : Nat,n<128→Utf8.encode (n : Int)=bstr [UInt8.ofNat n]:=by
  intro n h
  have hv : Utf8.valid (n : Int)=true:=by unfold Utf8.valid;simp;omega
  unfold Utf8.encode
  simp only [hv,if_true,Int.toNat_natCast]
  rw [if_pos (by omega)]
theorem bcat (l m : List UInt8) : bstr l++bstr m=bstr (l++m):=by
  apply ByteArray.ext
  simp
theorem q_told (n : Int) (w : World) (h1 : -256≤n) (h2 : n≤1114111) (he : Env w) :
    Calls Tryz.prog 82 #[.int .i64 n] w fun e w'=>e = .returned (.string (bstr (told n)))∧Below w.heap.size w w':=by
  by_cases hneg : n<0
  · have ht : told n=[92,120]++hex (-1 - n).toNat:=by unfold told;rw [if_pos hneg]
    have hlen:=hex_len 1 (-1 - n).toNat (by omega)
    have hd:=q_digits (-1 - n).toNat w (by omega) he
    have hz : (((-1 - n).toNat : Nat) : Int) = -1 - n:=by omega
    rw [hz] at hd
    rw [ht]
    have HD:=Lib.hid hd
    have hcat : ∀ l : List UInt8,(⟨#[92,120]⟩ : ByteArray)++bstr l=bstr ([92,120]++l):=fun l=>bcat [92,120] l
    have HC:=Lib.hid hcat
    clear hd ht hz hcat
    generalize hex (-1 - n).toNat=x at *
    go_enter Tryz.func82,Tryz.ntmps82
    go_wp2_with (first|(go_at_call 132;refine HD.out.mono ?_;rintro e w1 ⟨rfl,hb⟩))
    go_ret
    exact ⟨by rw [HC.out];rfl,hb⟩
  · obtain ⟨m,rfl⟩:=Int.eq_ofNat_of_zero_le (by omega : 0≤n)
    by_cases hout : (m : Int)<32∨126<(m : Int)
    · have ht : told (m : Int)=[92,117,123]++hex m++[125]:=by unfold told;rw [if_neg hneg,if_pos hout];rfl
      have hlen:=hex_len 5 m (by omega)
      have hd:=q_digits m w (by omega) he
      rw [ht]
      have HD:=Lib.hid hd
      have hcat : ∀ l : List UInt8,(⟨#[92,117,123]⟩ : ByteArray)++bstr l++(⟨#[125]⟩ : ByteArray)=bstr ([92,117,123]++l++[125]):=fun l=>by
        have e1:=bcat [92,117,123] l
        have e2:=bcat ([92,117,123]++l) [125]
        exact (congrArg (· ++ (⟨#[125]⟩ : ByteArray)) e1).trans e2
      have HC:=Lib.hid hcat
      clear hd ht hcat
      generalize hex m=x at *
      by_cases h32 : (m : Int)<32
      all_goals
        go_enter Tryz.func82,Tryz.ntmps82
        go_wp2_with (first|(go_at_call 132;refine HD.out.mono ?_;rintro e w1 ⟨rfl,hb⟩))
        go_ret
        exact ⟨by rw [HC.out];rfl,hb⟩
    · have hm1 : 32≤m:=by omega
      have hm2 : m≤126:=by omega
      have henc:=enc_low m (by omega)
      have hb : ∀ c,c≤126→m≠c→([UInt8.ofNat m] == [UInt8.ofNat c])=false:=by
        intro c hc hne
        have : UInt8.ofNat m≠UInt8.ofNat c:=by
          intro e
          have:=congrArg UInt8.toNat e
          simp at this
          omega
        simpa using this
      by_cases h34 : m=34
      · subst h34
        have e34 : Utf8.encode 34=⟨#[34]⟩:=by decide
        clear hneg hout h1 h2 hb henc hm1 hm2
        have ht : told ((34 : Nat) : Int)=[92,34]:=by decide
        have HT:=Lib.hid ht
        clear ht
        go_enter Tryz.func82,Tryz.ntmps82
        go_wp2
        go_ret
        exact ⟨by rw [HT.out];rfl,Below.refl _ _⟩
      · by_cases h92 : m=92
        · subst h92
          have e92 : Utf8.encode 92=⟨#[92]⟩:=by decide
          clear hneg hout h1 h2 hb h34 henc hm1 hm2
          have ht : told ((92 : Nat) : Int)=[92,92]:=by decide
          have HT:=Lib.hid ht
          clear ht
          go_enter Tryz.func82,Tryz.ntmps82
          go_wp2
          go_ret
          exact ⟨by rw [HT.out];rfl,Below.refl _ _⟩
        · have ht : told (m : Int)=[UInt8.ofNat m]:=by
            unfold told
            rw [if_neg hneg,if_neg hout,if_neg (by omega)]
            rfl
          have b1:=hb 34 (by omega) h34
          have b2:=hb 92 (by omega) h92
          have b1' : ([UInt8.ofNat m] == [34])=false:=b1
          have b2' : ([UInt8.ofNat m] == [92])=false:=b2
          have HT:=Lib.hid ht
          clear ht hneg hout h34 h92 hb b1 b2 h1 h2
          generalize UInt8.ofNat m=c at *
          have henc' : Utf8.encode (m : Int)=⟨#[c]⟩:=henc
          have k1 : ((m : Int)<0)=False:=eq_false (by omega)
          have k2 : ((m : Int)<32)=False:=eq_false (by omega)
          have k3 : (126<(m : Int))=False:=eq_false (by omega)
          have k4 : IntKind.i32.wrap (m : Int)=(m : Int):=by rw [IntKind.wrap_i32];omega
          generalize (m : Int)=z at *
          have k5 : (c == 34)=false:=by simpa using b1'
          have k6 : (c == 92)=false:=by simpa using b2'
          clear henc b1' b2' hm1 hm2 he
          go_enter Tryz.func82,Tryz.ntmps82
          go_wp2
          go_ret
          exact ⟨by rw [HT.out];rfl,Below.refl _ _⟩
theorem bld_made (w : World) : (zeroValue 81).run Tryz.prog w = .ok (.agg #[.pointer none,.slice none 0 0]) w:=by kernel_rfl
theorem bstr_len (l : List UInt8) : (bstr l).size=l.length:=by simp [ByteArray.size]
theorem bstr_list (l : List UInt8) : (bstr l).data.toList=l:=rfl
theorem BldOn.it {B b g pos : Nat} {l : List UInt8} {s : ByteArray} {w w' : World} (h : BldOn B b l w w') (hk : w.heap[g]? = some (.stringIter s pos)) (hg : g≠b) : w'.heap[g]? = some (.stringIter s pos):=h.2.2.iter hk hg
theorem bld_below {B b B' : Nat} {l : List UInt8} {w w' : World} (h : Bld B b l w) (hb : Below w.heap.size w w') : Bld B b l w':=by
  have keep : ∀ k o,w.heap[k]? = some o→w'.heap[k]? = some o:=fun k o hk=>by rw [hb.block k (Array.getElem?_eq_some_iff.1 hk).1];exact hk
  have at_ : ∀ p,Lib.BuilderAtF 81 5 B b p (Lib.byteCells l) w→Lib.BuilderAtF 81 5 B b p (Lib.byteCells l) w':=by
    intro p ⟨hB,v,hbk,hown,hne⟩
    refine ⟨hB,v,keep _ _ hbk,⟨hown.1,?_⟩,hne⟩
    rcases hown.2 with h0|⟨g,cap,cur,fz,h1,h2,h3,h4⟩
    · exact .inl h0
    · exact .inr ⟨g,cap,cur,fz,h1,h2,keep _ _ h3,h4⟩
  exact h.elim (fun x=>.inl (at_ _ x)) (fun x=>.inr (at_ _ x))
theorem acc_len {s : ByteArray} {acc rest : List Int} (h : signs s.data.toList=acc++rest) (hs : s.size≤4096) : (34::toldAll acc).length≤40961:=by
  have h1:=signs_len s.data.toList
  have h2 : s.data.toList.length=s.size:=by simp
  have h3:=toldAll_len acc (fun n hn=>signs_range s.data.toList n (by rw [h];exact List.mem_append_left _ hn))
  rw [h,List.length_append] at h1
  simp
  omega
theorem q_quote (s : ByteArray) (w : World) (hs : s.size≤4096) (he : Env w) :
    Calls Tryz.prog 38 #[.string s] w fun e w'=>e = .returned (.string (bstr (quote s.data.toList)))∧Below w.heap.size w w':=by
  have hbm:=bld_made w
  have hz:=b_zero w
  have hb0 : Below w.heap.size w (w.alloc (.cells #[.pointer none,.slice none 0 0] 81)):=(Below.refl _ _).alloc (Nat.le_refl _) _
  have hsz1 : (w.alloc (.cells #[.pointer none,.slice none 0 0] 81)).heap.size=w.heap.size+1:=by simp
  have HSZ:=Lib.hid hsz1
  have HZ:=Lib.hid hz
  have HB0:=Lib.hid hb0
  clear hsz1 hz hb0
  have hw1:=fun w' (h : Bld w.heap.size w.heap.size [] w') (hB : w.heap.size≤w'.heap.size)=>b_write w.heap.size w.heap.size [] ⟨#[34]⟩ w' h (by decide) hB
  have HW1:=Lib.hid hw1
  clear hw1
  go_enter Tryz.func38,Tryz.ntmps38
  go_wp2_with (first|(go_at_call 36;refine (HW1.out _ HZ.out HB0.out.size).mono ?_;rintro e w1 ⟨rfl,hon⟩))
  clear hbm HW1
  have hb1 : Below w.heap.size w w1:=HB0.out.trans hon.2.1
  have hbld1 : Bld w.heap.size w.heap.size [34] w1:=hon.1
  have hlt1 : w.heap.size<w1.heap.size:=by have:=hon.2.1.size;rw [HSZ.out] at this;omega
  clear HZ HB0 HSZ hon
  go_loopw [4,5] (fun i r wr=>∃ (pos : Nat) (acc : List Int),wr.heap[w1.heap.size]? = some (.stringIter s pos)∧pos≤s.size∧Hid (signs s.data.toList=acc++signs (s.data.toList.drop pos))∧Bld w.heap.size w.heap.size (34::toldAll acc) wr∧Below w.heap.size w wr) (fun _ _ wr=>s.size - wr.iterPos w1.heap.size)
  case atStart=>exact ⟨0,[],World.iter_heap w1 s 0,Nat.zero_le _,rfl,hbld1.alloc _,hb1.alloc (by omega) _⟩
  case round =>
    obtain ⟨pos,acc,hit,hp,HA,hbl,hb⟩:=hrel
    have hpos0:=iterPos_it hit
    have hal:=acc_len HA.out hs
    by_cases hlt : pos<s.size
    · have hnx : ∀ ty,(Instr.next (.pointer (some ⟨w1.heap.size,0,none⟩)) true ty).run Tryz.prog wr=_:=fun ty=>Lib.run_next_any_at wr w1.heap.size s pos ty hit hlt
      have hit2:=Lib.iterAt_heap wr w1.heap.size s pos (pos+(Utf8.decode s pos).2) hit
      have hb2:=Lib.below_iterAt hb (k:=w1.heap.size) (by omega) s (pos+(Utf8.decode s pos).2)
      have hbl2 : Bld w.heap.size w.heap.size (34::toldAll acc) (wr.iterAt w1.heap.size s (pos+(Utf8.decode s pos).2)):=Lib.IsBuilderF.iterAt hbl hit _
      have hnum:=fun w'=>q_number_at s pos w' hlt
      have hsg:=signs_at s pos hlt
      have hst:=stp_at s pos hlt
      have hst1:=stp_pos (s.data.toList.drop pos)
      have hrg:=sg_range (s.data.toList.drop pos)
      rw [step_of_decode] at hnx hit2 hb2 hbl2
      have HN:=Lib.hid hnum
      have HA2 : Hid (signs s.data.toList=(acc++[sg (s.data.toList.drop pos)])++signs (s.data.toList.drop (pos+stp (s.data.toList.drop pos)))):=by
        show _=_
        rw [HA.out,hsg,List.append_assoc]
        rfl
      clear hnum hsg hit hbl HA
      generalize sg (s.data.toList.drop pos)=z at *
      generalize stp (s.data.toList.drop pos)=st at *
      generalize hW : wr.iterAt w1.heap.size s (pos+st)=W1 at *
      have hltW:=lt_of_it hit2
      clear hW
      have he2 : Env W1:=he.on hb2
      have htold:=q_told z W1 hrg.1 hrg.2 he2
      have htl:=told_len z hrg.1 hrg.2
      have hsn:=toldAll_snoc acc z
      have HT:=Lib.hid htold
      have HSN:=Lib.hid hsn
      have hwr:=fun w' (h : Bld w.heap.size w.heap.size (34::toldAll acc) w') (hB : w.heap.size≤w'.heap.size)=>b_write w.heap.size w.heap.size (34::toldAll acc) (bstr (told z)) w' h (by rw [bstr_len];omega) hB
      have HWR:=Lib.hid hwr
      clear htold hsn hwr
      go_wp2_with (first|(go_at_call 83;refine (HN.out _).mono ?_;rintro e x1 ⟨rfl,rfl⟩)|(go_at_call 82;refine HT.out.mono ?_;rintro e w3 ⟨rfl,hb3⟩)|(go_at_call 36;refine (HWR.out _ (bld_below (B':=0) hbl2 hb3) (Nat.le_trans hb2.size hb3.size)).mono ?_;rintro e w4 ⟨rfl,hon4⟩))
      have hit3 : w3.heap[w1.heap.size]? = some (.stringIter s (pos+st)):=by rw [hb3.block _ hltW];exact hit2
      have hit4:=hon4.it hit3 (by omega)
      have hb4 : Below w.heap.size w w4:=(on_below hb2 hb3).trans hon4.2.1
      go_roundw
      case rel=>exact ⟨pos+st,acc++[z],hit4,hst,HA2.out,(by have:=hon4.1;rw [List.cons_append,← HSN.out] at this;exact this),hb4⟩
      case measure=>rw [iterPos_it hit4,hpos0];omega
    · have hnx : ∀ ty,(Instr.next (.pointer (some ⟨w1.heap.size,0,none⟩)) true ty).run Tryz.prog wr=_:=fun ty=>Lib.run_next_end_at wr w1.heap.size s pos ty hit hlt
      have hend:=signs_end s pos hlt
      have hall:=HA.out
      rw [hend,List.append_nil] at hall
      have hq : quote s.data.toList=(34::toldAll acc)++[34]:=by unfold quote;rw [hall]
      have HQ:=Lib.hid hq
      have hwr:=b_write w.heap.size w.heap.size (34::toldAll acc) ⟨#[34]⟩ wr hbl (by show _+1≤_;omega) hb.size
      have HWR:=Lib.hid hwr
      clear hall hend HA hq hwr
      go_wp2_with (first|(go_at_call 36;refine HWR.out.mono ?_;rintro e w4 ⟨rfl,hon4⟩;have hb4:=hb.trans hon4.2.1)|(go_at_call 40;refine (b_text _ _ _ _ hon4.1 hb4.size).mono ?_;rintro e w5 ⟨rfl,hb5⟩))
      go_ret
      exact ⟨by rw [HQ.out];rfl,hb4.trans hb5⟩
theorem one_text_q (c : UInt8) (w : World) (N : Nat) (hN : w.heap.size=N) :
    (convert 79 9 (.slice (some ⟨N,0,none⟩) 1 1)).run Tryz.prog (w.alloc (.cells #[.int .u8 (c.toNat : Int)] 5)) = .ok (.string (bstr [c])) (w.alloc (.cells #[.int .u8 (c.toNat : Int)] 5)):=by
  subst hN
  have h:=Sl.made (B:=w.heap.size) w #[.int .u8 (c.toNat : Int)] 5 1 1 1 (Nat.le_refl _) (Nat.le_refl _) (by decide) (by simp)
  exact sl_string (n:=1) (l:=[c]) (by simpa [bv] using h) 79 9 5 Tryz.underlying79 Tryz.underlying5 Tryz.underlying9 (B:=w.heap.size)
end Go.Proofs.YtmimfkhkilijcaaGreatDoor
