/- Cells written elsewhere; an append under a guard. -/
import Derived.Test.YthpnkjnieljdiaaAt
import Derived.Deep.Upon
namespace Go.Proofs.Ythpnkjnieljdiaa
open Go.ChangeShapes Go.WideShapes Go.ChangeAt Go.RowKit
set_option linter.unusedVariables false

theorem Sl.set_other {B : Nat} {w : World} {size : Nat} {v : Value} {n : Nat} {xs : List Value} (h : Sl B w size v n xs) {p : Addr} (hp : p.block < B) (u : Value) : Sl B (w.setCell p u) size v n xs :=
  have hu : Upd (fun k => k = p.block) w (w.setCell p u) := (Upd.refl (fun k => k = p.block) w).setCell (p := p) (fun _ => rfl) u
  h.upd hu (fun k hk e => by have := (h.lt k hk).1; omega)
theorem At.set_other {w : World} {g : Nat} {l : List Value} (h : At w g l) {p : Addr} (hp : p.block ≠ g) (u : Value) : At (w.setCell p u) g l :=
  have hu : Upd (fun k => k = p.block) w (w.setCell p u) := (Upd.refl (fun k => k = p.block) w).setCell (p := p) (fun _ => rfl) u
  h.upd hu (fun e => hp e.symm)
/-- An append that is guarded, its guard being met. -/
theorem wpList_append_sl_g {P : Program} (w : World) {ops : Array Oper} {rest : List Oper} {o : Oper} {a : Act} {Q : Exit → Act → World → Prop} (hgd : Region.wanted o (yielded ops a.tmps) = true) (s x : Operand) (t tx : TypeId)
    (ho : o.op = .call { callee := .builtin .append, args := #[s, x], argTypes := #[t, tx] })
    {B : Nat} {size : Nat} (e : TypeId) (i : TypeInfo) (z : Value) (bytes : Nat) (ht : P.underlying t = some (.slice e)) (hi : P.info? e = some i) (hz : i.zero = some z) (hsize : i.size = size) (hby : i.bytes = bytes) (hzs : z.cells.size = size)
    {v : Value} {n : Nat} {xs : List Value} (hv : a.eval s = v) (h : Sl B w size v n xs) (xv : Value) (m : Nat) (news : List Value) (hx : a.eval x = xv) (hs : Src P size tx xv m news w)
    (h63 : n + m ≤ maxLen) (hbytes : (n + m) * bytes ≤ 140737488355328) (hB : B ≤ w.heap.size)
    (hK : ∀ v' w', Sl B w' size v' (n + m) (xs ++ news) → Upd (fun k => v.ownBlock = some k) w w' → (∀ k, v'.ownBlock = some k → v.ownBlock = some k ∨ w.heap.size ≤ k) → wpList P ops Q rest (a.put o.dst v') w') : wpList P ops Q (o :: rest) a w := by
  refine wpList_step fun K hK' => ?_
  rw [if_pos hgd]
  obtain ⟨v', w', hrun, r1, r2, r3⟩ := run_append_sl (P := P) w t tx o.type e i z bytes ht hi hz hsize hby hzs h xv m news hs h63 hbytes hB
  unfold Oper.wp
  simp [execOp, ho, resolve, invoke, builtin, hv, hx, hrun, Result.andThen]
  exact hK' _ _ (hK v' w' r1 r2 r3)

end Go.Proofs.Ythpnkjnieljdiaa
