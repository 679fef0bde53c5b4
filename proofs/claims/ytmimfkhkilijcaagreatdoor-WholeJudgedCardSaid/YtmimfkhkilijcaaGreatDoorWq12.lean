/- KEvV: what is reached of them. -/
import Derived.Test.YtmimfkhkilijcaaGreatDoorWq09
import Derived.Test.YtmimfkhkilijcaaGreatDoorWq01
import Derived.RangeFuncBox
import Derived.RangeFuncLeaves
import Derived.Shelf.Abstract
import Derived.OwnWalkIn
import Derived.TacticsInMore
import Derived.LoopNIn
import Derived.LoopIn
set_option linter.unusedVariables false
set_option linter.unusedSimpArgs false
set_option maxRecDepth 100000
set_option maxHeartbeats 8000000
namespace Go.Proofs.YtmimfkhkilijcaaGreatDoor.PEv
open Go.Proofs.YtmimfkhkilijcaaGreatDoor
inductive Ev where
  | el (late : Bool) (part kind time : Int) (text : List UInt8)
  | mark (n : Int)
  | fault (part err : Int)
def Ev.ok : Ev→Prop
  | .el _ p k t _=>in64 p∧in64 k∧in64 t
  | .mark n=>in64 n
  | .fault p e=>in64 p∧in64 e
def etext : Ev→List UInt8
  | .el _ _ _ _ x=>x
  | _=>[]
end Go.Proofs.YtmimfkhkilijcaaGreatDoor.PEv
namespace Go.Proofs.YtmimfkhkilijcaaGreatDoor
open Go.ChangeShapes Go.WideShapes Go.ChangeAt Go.RowKit
open PEv
theorem cell_kept {w w' : World} (hb : Below w.heap.size w w') {p : Addr} {v : Value} (h : w.cell? p=some v) : w'.cell? p=some v:=(hb.cell (cell_lt h)).trans h
def evv : Ev→Value
  | .el late p k t x=>.iface 130 (.agg #[.int .i64 p,.int .i64 k,.int .i64 t,.string (bstr x),.bool late])
  | .mark n=>.iface 125 (.agg #[.int .i64 n])
  | .fault p e=>.iface 127 (.agg #[.int .i64 p,.int .i64 e])
def evc : Ev→List Value
  | .el late p k t x=>[.int .i64 0,.int .i64 p,.int .i64 k,.int .i64 t,.string (bstr x),.bool late,.int .i64 0,.int .i64 0]
  | .mark n=>[.int .i64 1,.int .i64 0,.int .i64 0,.int .i64 0,.string ⟨#[]⟩,.bool false,.int .i64 n,.int .i64 0]
  | .fault p e=>[.int .i64 2,.int .i64 p,.int .i64 0,.int .i64 0,.string ⟨#[]⟩,.bool false,.int .i64 0,.int .i64 e]
def evr (v : Ev) : Value:=.agg (evc v).toArray
structure RowE (w : World) (a : Option Addr) (l : List Ev) : Prop where
  at_ : ∀ (i : Nat) (h : i<l.length),∃ b off,a=some ⟨b,off,none⟩∧b<w.heap.size∧w.cell? ⟨b,off+i,none⟩=some (evv l[i])
theorem RowE.on {w w' : World} {a : Option Addr} {l : List Ev} (h : RowE w a l) (hb : Below w.heap.size w w') : RowE w' a l :=
  ⟨fun i hi=>by
    obtain ⟨b,off,h1,h2,h3⟩:=h.at_ i hi
    exact ⟨b,off,h1,Nat.lt_of_lt_of_le h2 hb.size,by rw [hb.cell (p:=⟨b,off+i,none⟩) h2];exact h3⟩⟩
theorem ta_m_yes (n : Int) (w : World) : (Instr.typeAssert (.iface 125 (.agg #[.int .i64 n])) 71 125 true).run Tryz.prog w = .ok (.tuple #[.agg #[.int .i64 n],.bool true]) w:=by kernel_rfl
theorem ta_m_no1 (v : Value) (w : World) : (Instr.typeAssert (.iface 130 v) 71 125 true).run Tryz.prog w = .ok (.tuple #[.agg #[.int .i64 0],.bool false]) w:=by kernel_rfl
theorem ta_m_no2 (v : Value) (w : World) : (Instr.typeAssert (.iface 127 v) 71 125 true).run Tryz.prog w = .ok (.tuple #[.agg #[.int .i64 0],.bool false]) w:=by kernel_rfl
theorem src_cells {P : Program} {tx e' : TypeId} (hk : P.underlying tx=some (.slice e')) (w : World) (L : List Value) (e : TypeId) (N : Nat) (hN : w.heap.size=N) (m : Nat) (hm : L.length=m) (ho : ∀ u∈L,u.oneCell'=true) :
    Src P m tx (.slice (some ⟨N,0,none⟩) 1 1) 1 L (w.alloc (.cells L.toArray e)):=by
  subst hN
  refine Src.ofSlice _ hk ⟨w.heap.size,0,none⟩ 1 1 L (by rw [hm,Nat.one_mul]) (fun j u hx=>?_) ho
  have ha:=At.alloc w L e
  obtain ⟨hj,rfl⟩:=List.getElem?_eq_some_iff.1 hx
  rw [Addr.add_lit,Nat.zero_add]
  exact (ha.2 j hj).1
theorem ta_f_yes (p n : Int) (w : World) : (Instr.typeAssert (.iface 127 (.agg #[.int .i64 p,.int .i64 n])) 71 127 true).run Tryz.prog w = .ok (.tuple #[.agg #[.int .i64 p,.int .i64 n],.bool true]) w:=by kernel_rfl
theorem ta_f_no2 (v : Value) (w : World) : (Instr.typeAssert (.iface 125 v) 71 127 true).run Tryz.prog w = .ok (.tuple #[.agg #[.int .i64 0,.int .i64 0],.bool false]) w:=by kernel_rfl
theorem ta_e_yes (p k t : Int) (x : ByteArray) (late : Bool) (w : World) : (Instr.typeAssert (.iface 130 (.agg #[.int .i64 p,.int .i64 k,.int .i64 t,.string x,.bool late])) 71 130 true).run Tryz.prog w = .ok (.tuple #[.agg #[.int .i64 p,.int .i64 k,.int .i64 t,.string x,.bool late],.bool true]) w:=by kernel_rfl
theorem ta_e_no1 (v : Value) (w : World) : (Instr.typeAssert (.iface 125 v) 71 130 true).run Tryz.prog w = .ok (.tuple #[.agg #[.int .i64 0,.int .i64 0,.int .i64 0,.string ⟨#[]⟩,.bool false],.bool false]) w:=by kernel_rfl
theorem ta_e_no2 (v : Value) (w : World) : (Instr.typeAssert (.iface 127 v) 71 130 true).run Tryz.prog w = .ok (.tuple #[.agg #[.int .i64 0,.int .i64 0,.int .i64 0,.string ⟨#[]⟩,.bool false],.bool false]) w:=by kernel_rfl
theorem evv_ifc (v : Ev) : ∃ t x,evv v = .iface t x:=by cases v <;> exact ⟨_,_,rfl⟩
theorem rowe_of_sl {B : Nat} {w : World} {v : Value} {n : Nat} {l : List Ev} (h : Sl B w 1 v n (l.map evv)) : n=l.length∧∃ a c,v = .slice a l.length c∧RowE w a l:=by
  have hl:=h.1
  rw [List.length_map] at hl
  have hn : n=l.length:=by omega
  subst hn
  refine ⟨rfl,?_⟩
  rcases h.2 with ⟨rfl,h0⟩|⟨g,off,cap,rfl,hb,hg,h1,h2,h3,h4⟩
  · exact ⟨_,_,by rw [h0],⟨fun i hi=>by omega⟩⟩
  · exact ⟨_,_,rfl,⟨fun i hi=>⟨g,off,rfl,hg,by rw [h3 i (by omega)];simp [hi]⟩⟩⟩
open Go.Shelf
attribute [local go_sem] Oper.semAt_some
def back (l : List Ev) (j : Nat) : Nat×Ev:=(l.length - 1 - j,l[l.length - 1 - j]?.getD (.mark 0))
end Go.Proofs.YtmimfkhkilijcaaGreatDoor
