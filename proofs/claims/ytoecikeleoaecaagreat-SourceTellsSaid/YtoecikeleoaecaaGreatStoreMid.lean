/- Stores of whole structs within a region that draws its order, as steps. -/
import Derived.Test.YtoecikeleoaecaaGreatKBase
import Derived.Deep.MidRow
import Derived.Deep.WholeRow
import Derived.Deep.RegionLaw
namespace Go.Proofs.YtoecikeleoaecaaGreat
set_option maxRecDepth 4000
open Go.ChangeShapes Go.WideShapes Go.ChangeAt Go.RowKit
set_option linter.unusedVariables false

theorem step_store_mid {P : Program} {ops : Array Oper} {o : Oper} {a : Act} {w : World} {K : Act → World → Prop} {Q : Exit → Act → World → Prop} {E : Prop}
    (hg : o.guard = none) (ty : TypeId) (x y : Operand) (hop : o.op = Op.store ty x y) (b off : Nat) (cells : Array Value) (hx : a.eval x = .pointer (some ⟨b, off, none⟩)) (hy : a.eval y = .agg cells)
    (ht : w.there b off cells.size) (hi : (P.info? ty).map (·.size) = some cells.size) (h1 : cells.all (·.oneCell') = true) (hK : K (a.put o.dst undef) (w.setCells b off cells.toList)) :
    if Region.wanted o (yielded ops a.tmps) = true then Oper.wp P o a w K Q else E := by
  have hw : Region.wanted o (yielded ops a.tmps) = true := by simp [Region.wanted, hg]
  rw [if_pos hw]
  exact wp_store_mid ty x y hop b off cells hx hy ht hi h1 hK
theorem step_store_new {P : Program} {ops : Array Oper} {o : Oper} {a : Act} {w : World} {K : Act → World → Prop} {Q : Exit → Act → World → Prop} {E : Prop}
    (hg : o.guard = none) (ty : TypeId) (x y : Operand) (hop : o.op = Op.store ty x y) (c cells : Array Value) (hx : a.eval x = .pointer (some ⟨w.heap.size, 0, none⟩)) (hy : a.eval y = .agg cells)
    (hi : (P.info? ty).map (·.size) = some cells.size) (hc : c.size = cells.size) (h1 : cells.all (·.oneCell') = true) (hK : K (a.put o.dst undef) (w.alloc (.cells cells ty))) :
    if Region.wanted o (yielded ops a.tmps) = true then Oper.wp P o a (w.alloc (.cells c ty)) K Q else E := by
  have hw : Region.wanted o (yielded ops a.tmps) = true := by simp [Region.wanted, hg]
  rw [if_pos hw]
  unfold Oper.wp execOp
  simp only [hop, hx, hy, Sem.run_bind, run_storeAt_new (P := P) w ty c cells hi hc h1, Result.andThen_ok, Sem.run_pure]
  exact hK
theorem At.there {w : World} {g : Nat} {cs : List Value} (h : At w g cs) : w.there g 0 cs.length := fun j hj => by
  rw [Nat.zero_add]
  exact ⟨by rw [(h.2 j hj).1]; rfl, (h.2 j hj).2⟩
theorem At.row {w : World} {g : Nat} {cs : List Value} (h : At w g cs) (vs : List Value) (hl : vs.length = cs.length) : At (w.setCells g 0 vs) g vs :=
  ⟨Nat.lt_of_lt_of_le h.1 (upd_setCells g 0 vs w).size, fun j hj => by
    have h1 := cell_setCells_in g vs 0 w (fun i hi => by rw [Nat.zero_add, (h.2 i (by omega)).1]; rfl) j hj
    rw [Nat.zero_add] at h1
    exact ⟨by rw [h1, List.getElem?_eq_getElem hj], by rw [frozen_setCells]; exact (h.2 j (by omega)).2⟩⟩
theorem run_store_there {P : Program} (w : World) (b : Nat) (cells : Array Value) (ht : w.there b 0 cells.size) (h1 : cells.all (·.oneCell') = true) : (storeCells ⟨b, 0, none⟩ cells.toList 0).run P w = .ok () (w.setCells b 0 cells.toList) :=
  run_storeCells_cells (P := P) b 0 cells.toList 0 w (fun j hj => by simpa using (ht j (by simpa using hj)).1) (fun j hj => by simpa using (ht j (by simpa using hj)).2) (fun v hv => (Array.all_eq_true_iff_forall_mem.1 h1) v (by simpa using hv))
end Go.Proofs.YtoecikeleoaecaaGreat
