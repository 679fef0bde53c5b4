/- QBuild: what is reached of them. -/
import Derived.Test.YtmimfkhkilijcaaGreatDoorPq01
import Derived.Test.YtmimfkhkilijcaaGreatDoorPq02
import Derived.WalkKit
import Derived.ProofKit
import Derived.OpenShut
import Derived.Handy
import Derived.BigQuiet
import Derived.Deep.QuietTactic
import Derived.IntWalk
import Derived.Outline
import Derived.WalkLawsBesides
import Derived.Shelf.Strings.Builder1
import Derived.Shelf.Strings.BuilderK
set_option linter.unusedVariables false
set_option linter.unusedSimpArgs false
set_option maxRecDepth 100000
set_option maxHeartbeats 8000000
namespace Go.Proofs.YtmimfkhkilijcaaGreatDoor
open Go.ChangeShapes Go.WideShapes Go.ChangeAt Go.RowKit
def Bld (B b : Nat) (l : List UInt8) (w : World) : Prop:=Lib.IsBuilderF 81 5 B b (Lib.byteCells l) w
def BldOn (B b : Nat) (l : List UInt8) (w w' : World) : Prop:=Bld B b l w'∧Below B w w'∧Lib.OthersKept 5 (some b) w w'
theorem b_fresh (b : Nat) (w : World) (h0 : w.cell? ⟨b,0,none⟩=some (.pointer none)) (hsh : w.shape? b=some (81,2)) (hfz : w.frozen? ⟨b,0,none⟩=false) :
    Calls Tryz.prog 79 #[.pointer (some ⟨b,0,none⟩)] w fun e w'=>e = .returned (.tuple #[])∧w'=w.setCell ⟨b,0,none⟩ (.pointer (some ⟨b,0,none⟩)):=by
  have hx : (Tryz.prog.info? 81).map (·.size)=some 2:=by kernel_rfl
  obtain ⟨j,hj,hjs⟩:=Option.map_eq_some_iff.1 hx
  clear hx
  go_enter Tryz.func79,Tryz.ntmps79
  go_wp2
  rw [Lib.run_to_unsafe w ⟨b,0,none⟩ Tryz.underlying78 Tryz.underlying210 hj (by rw [hjs];decide) hsh (Nat.zero_lt_succ 1)]
  simp only [Result.andThen]
  rw [Oper.upon_value]
  go_wp2
  rw [run_callFunc_extern Tryz.func131 (by kernel_rfl) (by kernel_rfl) (by kernel_rfl) (e:=Extern.AbiNoEscape.same) (by kernel_rfl)]
  rw [Lib.run_noEscape]
  simp only [Result.andThen]
  rw [Oper.upon_value]
  go_wp2
  rw [Lib.run_from_unsafe w ⟨b,0,none⟩ Tryz.underlying210 Tryz.underlying78 hj hsh (by kernel_rfl)]
  simp only [Result.andThen]
  rw [Oper.upon_value]
  go_wp2
  go_end0
  exact ⟨rfl,rfl⟩
theorem b_used (b : Nat) (w : World) (h0 : w.cell? ⟨b,0,none⟩=some (.pointer (some ⟨b,0,none⟩))) :
    Calls Tryz.prog 79 #[.pointer (some ⟨b,0,none⟩)] w fun e w'=>e = .returned (.tuple #[])∧w'=w:=by
  have hx : (Tryz.prog.info? 81).map (·.size)=some 2:=by kernel_rfl
  obtain ⟨j,hj,_⟩:=Option.map_eq_some_iff.1 hx
  clear hx
  go_enter Tryz.func79,Tryz.ntmps79
  go_wp2
  rw [Lib.run_neq_ptr_same w _ Tryz.underlying78 hj]
  go_wp2
  go_end0
  exact ⟨rfl,rfl⟩
theorem b_check (B b : Nat) (bs : List Value) (w : World) (h : Lib.IsBuilderF 81 5 B b bs w) :
    Calls Tryz.prog 79 #[.pointer (some ⟨b,0,none⟩)] w fun e w'=>e = .returned (.tuple #[])∧(Lib.BuilderAtF 81 5 B b (.pointer (some ⟨b,0,none⟩)) bs w'∧Below B w w'∧Lib.OthersKept 5 (some b) w w'):=by
  rcases h with h|h
  · refine (b_fresh b w h.cell0 h.shape h.frozen0).mono ?_
    rintro e w' ⟨rfl,rfl⟩
    exact ⟨rfl,h.used _,(Below.refl B w).setCell (p:=⟨b,0,none⟩) h.1 _,(Lib.OthersKept.refl _ _ w).setCell ⟨b,0,none⟩ rfl _⟩
  · refine (b_used b w h.cell0).mono ?_
    rintro e w' ⟨rfl,rfl⟩
    exact ⟨rfl,h,Below.refl B _,Lib.OthersKept.refl _ _ _⟩
theorem byte_info : (Tryz.prog.info? 5).map (fun i=>(i.zero,i.size,i.bytes))=some (some (.int .u8 0),1,1):=by kernel_rfl
theorem b_write (B b : Nat) (l : List UInt8) (s : ByteArray) (w : World) (h : Bld B b l w) (hlen : l.length+s.size≤140737488355328) (hBw : B≤w.heap.size) :
    Calls Tryz.prog 36 #[.pointer (some ⟨b,0,none⟩),.string s] w fun e w'=>e = .returned (.tuple #[.int .i64 s.size,.nilIface])∧BldOn B b (l++s.data.toList) w w':=by
  obtain ⟨i0,hi,hz0,hz1,hz2⟩:=info_parts byte_info
  have hbl : (Lib.byteCells l).length=l.length:=by simp [Lib.byteCells]
  have hcat : Lib.byteCells l++Lib.strCells s=Lib.byteCells (l++s.data.toList):=by simp [Lib.byteCells,Lib.strCells]
  have HCAT:=Lib.hid hcat
  clear hcat
  have h' : Lib.IsBuilderF 81 5 B b (Lib.byteCells l) w:=h
  clear h
  have HL:=Lib.hid hbl
  clear hbl
  generalize Lib.byteCells l=bs at *
  go_enter Tryz.func36,Tryz.ntmps36
  go_wp2_with (go_at_call 79;refine (b_check B b bs _ h').mono ?_)
  rintro e w1 ⟨rfl,⟨hB,v,hbk,hown,hne⟩,hb1,hk1⟩
  have c0 : w1.cell? ⟨b,0,none⟩=some (.pointer (some ⟨b,0,none⟩)):=by rw [Lib.cell_of_heap hbk];rfl
  have c1 : w1.cell? ⟨b,1,none⟩=some v:=by rw [Lib.cell_of_heap hbk];rfl
  have hbs : B≤w1.heap.size:=Nat.le_trans hBw hb1.size
  have hll : bs.length+s.size≤140737488355328:=by rw [HL.out];exact hlen
  go_wp2_with (at_builtin;refine Lib.wpList_append_own_stringF _ rfl _ _ 79 9 rfl B 5 i0 Tryz.underlying79 Tryz.underlying9 hi hz0 hz1 hz2 _ _ _ rfl hown s rfl (by unfold maxLen;omega) hll hbs ?_)
  intro v' w2 hown' hgrow hnil
  have hlt : b<w1.heap.size:=(Array.getElem?_eq_some_iff.1 hbk).1
  have hb2 : w2.heap[b]? = some (.cells #[.pointer (some ⟨b,0,none⟩),v] 81 (0,0)):=by
    rw [hgrow.block b hlt (fun e=>hne e.symm)]
    exact hbk
  have d0 : w2.cell? ⟨b,0,none⟩=some (.pointer (some ⟨b,0,none⟩)):=by rw [Lib.cell_of_heap hb2];rfl
  have d1 : w2.cell? ⟨b,1,none⟩=some v:=by rw [Lib.cell_of_heap hb2];rfl
  have f1 : w2.frozen? ⟨b,1,none⟩=false:=Lib.frozen_of_heap hb2 1
  obtain ⟨ao,n',cap,rfl⟩ : ∃ ao n' cap,v' = .slice ao n' cap:=by
    rcases hown'.2 with ⟨hv,_⟩|⟨g,cap,cur,fz,hv,_⟩
    · exact ⟨_,_,_,hv⟩
    · exact ⟨_,_,_,hv⟩
  go_wp2
  go_ret2
  refine ⟨rfl,.inr ?_,(hb1.grown hgrow hbs (fun k hk=>(hown.lt k hk).1)).setCell (p:=⟨b,1,none⟩) hB _,(hk1.grown hgrow (Lib.ownsRowF_kind hown)).setCell ⟨b,1,none⟩ rfl _⟩
  rw [← HCAT.out]
  exact Lib.BuilderAtF.put (T:=81) (e:=5) hB hb2 (bs':=bs++Lib.strCells s) (by simpa [Lib.strCells_length] using hown') (by decide)
theorem b_zero (w : World) : Bld w.heap.size w.heap.size [] (w.alloc (.cells #[.pointer none,.slice none 0 0] 81)):=by
  refine .inl ⟨Nat.le_refl _,.slice none 0 0,heap_alloc_new w _,?_,by simp [Value.ownBlock]⟩
  exact ⟨by simp [Lib.byteCells],.inl ⟨rfl,rfl⟩⟩
theorem b_text (B b : Nat) (l : List UInt8) (w : World) (h : Bld B b l w) (hBw : B≤w.heap.size) :
    Calls Tryz.prog 40 #[.pointer (some ⟨b,0,none⟩)] w fun e w'=>e = .returned (.string (bstr l))∧Below B w w' :=
  (Tryz.Builder_String_any_f B b l w h hBw).mono fun e w' h=>⟨h.1,h.2.2⟩
theorem bld_on {B b : Nat} {l : List UInt8} {w w' : World} (h : Bld B b l w) (hb : Below w.heap.size w w') : Bld B b l w':=by
  have keep : ∀ k o,w.heap[k]? = some o→w'.heap[k]? = some o:=fun k o hk=>by rw [hb.block k (Array.getElem?_eq_some_iff.1 hk).1];exact hk
  have at_ : ∀ p,Lib.BuilderAtF 81 5 B b p (Lib.byteCells l) w→Lib.BuilderAtF 81 5 B b p (Lib.byteCells l) w':=by
    intro p ⟨hB,v,hbk,hown,hne⟩
    refine ⟨hB,v,keep _ _ hbk,⟨hown.1,?_⟩,hne⟩
    rcases hown.2 with h0|⟨g,cap,cur,fz,h1,h2,h3,h4⟩
    · exact .inl h0
    · exact .inr ⟨g,cap,cur,fz,h1,h2,keep _ _ h3,h4⟩
  exact h.elim (fun x=>.inl (at_ _ x)) (fun x=>.inr (at_ _ x))
end Go.Proofs.YtmimfkhkilijcaaGreatDoor
