/- KLogR: what is reached of them. -/
import Derived.Test.YtmimfkhkilijcaaGreatDoorWq30
import Derived.Test.YtmimfkhkilijcaaGreatDoorWq23
import Derived.Test.YtmimfkhkilijcaaGreatDoorWq01
import Derived.Deep.OwnRows
import Derived.Deep.LoopGhost
set_option linter.unusedVariables false
set_option linter.unusedSimpArgs false
set_option maxRecDepth 100000
set_option maxHeartbeats 8000000
namespace Go.Proofs.YtmimfkhkilijcaaGreatDoor
open Go.ChangeShapes Go.WideShapes Go.ChangeAt Go.RowKit
open PVar PCrc PFrame
theorem info_rec : (Tryz.prog.info? 54).map (fun i=>(i.zero,i.size,i.bytes))=some (some (.agg #[.int .i64 0,.int .i64 0,.string ⟨#[]⟩]),3,32):=by kernel_rfl
theorem src_rec {P : Program} {tx e' : TypeId} (hk : P.underlying tx=some (.slice e')) (w : World) (r : R) (e : TypeId) : Src P 3 tx (.slice (some ⟨w.heap.size,0,none⟩) 1 1) 1 (rcells r) (w.alloc (.cells (rcells r).toArray e)):=by
  refine Src.ofSlice _ hk ⟨w.heap.size,0,none⟩ 1 1 (rcells r) rfl (fun j x hx=>?_) (fun x hx=>?_)
  · have ha:=At.alloc w (rcells r) e
    have hj:=(List.getElem?_eq_some_iff.1 hx)
    obtain ⟨hj,rfl⟩:=hj
    rw [Addr.add_lit,Nat.zero_add]
    exact (ha.2 j hj).1
  · simp [rcells] at hx
    rcases hx with rfl|rfl|rfl <;> rfl
theorem src_recN {P : Program} {tx e' : TypeId} (hk : P.underlying tx=some (.slice e')) (w : World) (r : R) (e : TypeId) (N : Nat) (hN : w.heap.size=N) : Src P 3 tx (.slice (some ⟨N,0,none⟩) 1 1) 1 (rcells r) (w.alloc (.cells (rcells r).toArray e)):=by
  subst hN
  exact src_rec hk w r e
theorem drop_size (s : ByteArray) (k : Nat) : (bstr (s.data.toList.drop k)).size=s.size - k:=by rw [size_bstr,List.length_drop];simp
def ParsePost2 (w : World) (p : List R×Nat×Nat) (e : Ending) (w' : World) : Prop :=
  ∃ a c,e = .returned (.tuple #[.slice a p.1.length c,.int .i64 p.2.1,.int .i64 p.2.2])∧RowR w' a p.1∧Below w.heap.size w w'∧p.1.length≤c∧c≤maxLen∧∀ q,a=some q→w.heap.size≤q.block
theorem Sl.cap {B : Nat} {w : World} {size : Nat} {a : Option Addr} {n m c : Nat} {xs : List Value} (h : Sl B w size (.slice a n c) m xs) : n≤c∧c≤maxLen:=by
  rcases h.2 with ⟨h1,h2⟩|⟨g,off,cap,h1,h2,h3,h4,h5,_⟩
  · cases h1;exact ⟨Nat.le_refl _,Nat.zero_le _⟩
  · cases h1;exact ⟨h4,h5⟩
theorem log_parse2 (s : ByteArray) (w : World) (hs : s.size≤100000) :
    Calls Tryz.prog 128 #[.string s] w (ParsePost2 w (parse s.data.toList)):=by
  have hsl : s.data.toList.length=s.size:=by simp
  obtain ⟨i0,hi,hz0,hz1,hz2⟩:=info_parts info_rec
  go_enter Tryz.func128,Tryz.ntmps128
  go_wp2
  go_loopw [2,3] (fun v i wr=>∃ (rs : List R) (k : Nat),k≤s.size∧i = .int .i64 k∧Sl w.heap.size wr 3 v rs.length (rv rs)∧(∀ r∈rs,(-9223372036854775808≤r.1∧r.1≤9223372036854775807)∧(-9223372036854775808≤r.2.1∧r.2.1≤9223372036854775807))∧rs.length≤k∧Below w.heap.size w wr ∧
      Hid (parse s.data.toList=(rs++(parse (s.data.toList.drop k)).1,k+(parse (s.data.toList.drop k)).2.1,(parse (s.data.toList.drop k)).2.2))) (fun _ i _=>s.size - (intOf i).toNat)
  case atStart=>exact ⟨[],0,Nat.zero_le _,rfl,Sl.nil _ _ _,by simp,Nat.zero_le _,Below.refl _ _,by show _=_;simp⟩
  case round =>
    obtain ⟨rs,k,hk,rfl,hsl3,hbd,hrk,hb,HP⟩:=hrel
    by_cases hlt : k<s.size
    · have hfrom:=fun w=>from_run (P:=Tryz.prog) w 9 s k k rfl Tryz.underlying9 hk
      have hget:=fun w=>fr_get (bstr (s.data.toList.drop k)) w (by rw [drop_size];omega)
      rw [show (bstr (s.data.toList.drop k)).data.toList=s.data.toList.drop k from rfl] at hget
      have hne : s.data.toList.drop k≠[]:=by
        intro h
        have:=congrArg List.length h
        rw [List.length_drop] at this
        simp at this
        omega
      rcases fget_err (s.data.toList.drop k) with he|⟨er,he,h1,h5⟩
      · obtain ⟨r,n,e0,hf⟩ : ∃ r n e,fget (s.data.toList.drop k)=(r,n,e):=⟨_,_,_,rfl⟩
        rw [hf] at he
        simp only at he
        subst he
        obtain ⟨o1,o2,o3,o4⟩:=fget_ok hf
        have hlen : (s.data.toList.drop k).length=s.size - k:=by rw [List.length_drop];omega
        have hn0:=encR_pos r
        rw [← o3] at hn0
        have hkn : k+n≤s.size:=by omega
        have hm:=parse_more hf
        rw [hf] at hget
        have hp:=HP.out
        rw [hm,List.drop_drop] at hp
        have hp2 : parse s.data.toList=((rs++[r])++(parse (s.data.toList.drop (k+n))).1,(k+n)+(parse (s.data.toList.drop (k+n))).2.1,(parse (s.data.toList.drop (k+n))).2.2):=by
          rw [hp,List.append_assoc,Nat.add_assoc];rfl
        have hr1 : -9223372036854775808≤r.1∧r.1≤9223372036854775807:=by have:=err_kind o1.1;omega
        have hbd' : ∀ x∈rs++[r],(-9223372036854775808≤x.1∧x.1≤9223372036854775807)∧(-9223372036854775808≤x.2.1∧x.2.1≤9223372036854775807):=by
          intro x hx
          rcases List.mem_append.1 hx with h|h
          · exact hbd x h
          · simp at h;subst h;exact ⟨hr1,o1.2⟩
        have HPP:=Lib.hid hp2
        have HBD:=Lib.hid hbd'
        have HG:=Lib.hid hget
        clear hp hp2 hm hf hget hbd' o1 o2 o3 o4 hlen hr1 hbd
        obtain ⟨r1,r2,r3⟩:=r
        go_wp2_with (first|(go_at_call 157;refine (HG.out _).mono ?_;rintro e w2 ⟨rfl,b2⟩;have hb2:=on_below hb b2;have hs2:=hsl3.on b2)|(at_builtin;go_loud (refine wpList_append_sl _ rfl (.tmp 25) (.tmp 27) 60 60 rfl 54 i0 _ 32 Tryz.underlying60 hi hz0 hz1 hz2 rfl rfl ((hs2.alloc _).alloc _) _ 1 _ rfl (src_recN Tryz.underlying60 _ (r1,r2,r3) _ _ (by simp)) (by unfold maxLen;omega) (by omega) (by have:=hb2.size;simp;omega) ?_;intro v1 w3 k1 k2 k3)))
        have e1 : (rs++[(r1,r2,r3)]).length=rs.length+1:=by simp
        have e2 : rv (rs++[(r1,r2,r3)])=rv rs++rcells (r1,r2,r3):=by rw [rv_append];show _++(_++[])=_;rw [List.append_nil]
        have hb3:=((hb2.alloc hb2.size (.cells (rcells (r1,r2,r3)).toArray 54)).alloc (by have:=hb2.size;simp;omega) (.cells (rcells (r1,r2,r3)).toArray 54)).upd k2 (by have:=hb2.size;simp;omega) (fun i _ h=>(hs2.lt i h).1)
        refine ⟨⟨rs++[(r1,r2,r3)],k+n,hkn,by go_num,?_,HBD.out,by rw [e1];omega,hb3,HPP.out⟩,by simp [intOf];omega⟩
        rw [e1,e2]
        exact k1
      · have hbad:=parse_bad hne (by rw [he];simp;omega)
        rw [he] at hget hbad
        have HG:=Lib.hid hget
        have he0 : ((er : Int) == 0)=false:=by simp;omega
        have hp:=HP.out
        rw [hbad] at hp
        simp only [List.append_nil,Nat.add_zero] at hp
        have HPP:=Lib.hid hp
        obtain ⟨_,a,c,hv,_⟩:=RowR.of_sl hsl3 hbd
        subst hv
        clear hget hbad he hp
        go_wp2_with (first|(go_at_call 157;refine (HG.out _).mono ?_;rintro e w2 ⟨rfl,b2⟩))
        go_ret3
        rw [HPP.out]
        obtain ⟨_,a',c',hv',hrow⟩:=RowR.of_sl (hsl3.on b2) hbd
        cases hv'
        have hba:=on_below hb b2
        exact ⟨a,c,rfl,hrow.on ((Below.refl _ _).alloc (Nat.le_refl _) _),hba.alloc hba.size _,hsl3.cap.1,hsl3.cap.2,fun q hq=>(hsl3.lt q.block (by rw [hq];rfl)).1⟩
    · obtain rfl : k=s.size:=by omega
      have hp:=HP.out
      rw [List.drop_eq_nil_of_le (by omega),parse_nil] at hp
      simp only [List.append_nil,Nat.add_zero] at hp
      have HPP:=Lib.hid hp
      obtain ⟨_,a,c,hv,hrow⟩:=RowR.of_sl hsl3 hbd
      subst hv
      clear hp
      go_wp2
      go_ret3
      rw [HPP.out]
      exact ⟨a,c,rfl,hrow,hb,hsl3.cap.1,hsl3.cap.2,fun q hq=>(hsl3.lt q.block (by rw [hq];rfl)).1⟩
end Go.Proofs.YtmimfkhkilijcaaGreatDoor
