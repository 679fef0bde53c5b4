/- Whether events are of logs, as the statement goes through them: what it keeps in memory. -/
import Derived.Test.YtmimfkhkilijcaaGreatJuPl
import Derived.Test.YtmimfkhkilijcaaGreatKTree
namespace Go.Proofs.YtmimfkhkilijcaaGreat
set_option maxRecDepth 4000
open Go.ChangeShapes Go.WideShapes Go.ChangeAt Go.RowKit
open PHist PRing PSat PClamp PBound PFrame PSign PTree PEv
set_option linter.unusedVariables false
set_option linter.unusedSimpArgs false

theorem dN {B : Nat} {a w : World} (h : Below B a w) (hB : B ≤ w.heap.size) (m : Nat) : Below B a (w.drewN m) :=
  h.trans ((((Upd.refl (fun _ => False) w).drewN m).below (Nat.le_refl _) (fun _ _ h => h.elim)).mono hB)
def plFin (ls : List Lg) (m : Int) : Option Pl → Bool × Bool
  | none => (false, false)
  | some P => if P.badTo ls ls.length then (false, false) else (true, decide (m = 9223372036854775807) && P.okTo ls ls.length)
def plGo (ls : List Lg) (m : Int) (P : Pl) (l : List Ev) : Bool × Bool := plFin ls (lastFrom m l) (P.all ls l)
theorem plainB_go (ls : List Lg) (l : List Ev) : plainB ls l = plGo ls (-9223372036854775808) ⟨fun _ => 0, fun _ => false⟩ l := by
  unfold plainB plGo
  rw [elast_from]
  show _ = plFin ls (lastFrom nvr l) _
  cases (⟨fun _ => 0, fun _ => false⟩ : Pl).all ls l <;> rfl
theorem plGo_mark (ls : List Lg) (m : Int) (P : Pl) (x : Int) (l : List Ev) : plGo ls m P (.mark x :: l) = plGo ls x P l := rfl
theorem plGo_el (ls : List Lg) (m : Int) (P : Pl) (late : Bool) (p k t : Int) (x : List UInt8) (l : List Ev) : plGo ls m P (.el late p k t x :: l) = if P.mayE ls p (k, t, x) then plGo ls m (P.el p) l else (false, false) := by
  unfold plGo
  rw [plall_cons]
  show plFin ls (lastFrom m l) ((if P.mayE ls p (k, t, x) then some (P.el p) else none).bind _) = _
  split <;> rfl
theorem plGo_fault (ls : List Lg) (m : Int) (P : Pl) (p f : Int) (l : List Ev) : plGo ls m P (.fault p f :: l) = if P.mayF ls p f then plGo ls m (P.fl p) l else (false, false) := by
  unfold plGo
  rw [plall_cons]
  show plFin ls (lastFrom m l) ((if P.mayF ls p f then some (P.fl p) else none).bind _) = _
  split <;> rfl
theorem plGo_drop (ls : List Lg) (m : Int) (P : Pl) (l : List Ev) (k : Nat) (h : k < l.length) (e : Ev) (he : l[k] = e) : plGo ls m P (l.drop k) = plGo ls m P (e :: l.drop (k + 1)) := by
  rw [List.drop_eq_getElem_cons h, he]

/-- How many of each, and whose fault: in memory. -/
structure PlC (B : Nat) (w : World) (ga go n : Nat) (P : Pl) : Prop where
  cnt : Own w ga 0 n (fun i => .int .i64 (P.at_ i))
  ovr : Own w go 0 n (fun i => .bool (P.over i))
  ne : ga ≠ go
  la : B ≤ ga
  lo : B ≤ go
section
variable {B : Nat} {w w' : World} {ga go n : Nat} {P : Pl}
theorem PlC.on (h : PlC B w ga go n P) (hb : Below w.heap.size w w') : PlC B w' ga go n P := ⟨h.cnt.below hb h.cnt.lt, h.ovr.below hb h.ovr.lt, h.ne, h.la, h.lo⟩
theorem PlC.cell (h : PlC B w ga go n P) (i : Nat) (hi : i < n) : w.cell? ⟨ga, i, none⟩ = some (.int .i64 (P.at_ i)) ∧ w.cell? ⟨go, i, none⟩ = some (.bool (P.over i)) ∧ w.frozen? ⟨ga, i, none⟩ = false ∧ w.frozen? ⟨go, i, none⟩ = false := by
  have h1 := h.cnt.cell i hi
  have h2 := h.ovr.cell i hi
  have h3 := h.cnt.free i hi
  have h4 := h.ovr.free i hi
  rw [Nat.zero_add] at h1 h2 h3 h4
  exact ⟨h1, h2, h3, h4⟩
theorem PlC.el (h : PlC B w ga go n P) (i : Nat) (hi : i < n) (x : Int) (hx : x = ((P.at_ i + 1 : Nat) : Int)) : PlC B (w.setCell ⟨ga, i, none⟩ (.int .i64 x)) ga go n (P.el (i : Int)) := by
  subst hx
  have h1 := h.cnt.set i hi (.int .i64 ((P.at_ i + 1 : Nat) : Int))
  rw [Nat.zero_add] at h1
  have hu : Upd (fun k => k = ga) w (w.setCell ⟨ga, i, none⟩ (.int .i64 ((P.at_ i + 1 : Nat) : Int))) := (Upd.refl (fun k => k = ga) w).setCell (p := ⟨ga, i, none⟩) (fun _ => rfl) _
  refine ⟨h1.congr fun j hj => ?_, h.ovr.upd hu (fun e => h.ne e.symm), h.ne, h.la, h.lo⟩
  show (if j = i then _ else _) = Value.int .i64 ((put P.at_ ((i : Int).toNat) _ j : Nat) : Int)
  rw [Int.toNat_natCast]
  unfold PTree.put
  split <;> rfl
theorem PlC.fl (h : PlC B w ga go n P) (i : Nat) (hi : i < n) : PlC B (w.setCell ⟨go, i, none⟩ (.bool true)) ga go n (P.fl (i : Int)) := by
  have h1 := h.ovr.set i hi (.bool true)
  rw [Nat.zero_add] at h1
  have hu : Upd (fun k => k = go) w (w.setCell ⟨go, i, none⟩ (.bool true)) := (Upd.refl (fun k => k = go) w).setCell (p := ⟨go, i, none⟩) (fun _ => rfl) _
  refine ⟨h.cnt.upd hu h.ne, h1.congr fun j hj => ?_, h.ne, h.la, h.lo⟩
  show (if j = i then _ else _) = Value.bool (put P.over ((i : Int).toNat) _ j)
  rw [Int.toNat_natCast]
  unfold PTree.put
  split <;> rfl
end
theorem plc_one (w : World) (n : Nat) (e t : TypeId) : PlC w.heap.size ((w.alloc (.cells (madeCells #[.int .i64 0] n) e)).alloc (.cells (madeCells #[.bool false] n) t)).drew w.heap.size (w.heap.size + 1) n ⟨fun _ => 0, fun _ => false⟩ := by
  have hk := own_row w (.int .i64 0) n e
  have hw := own_row (w.alloc (.cells (madeCells #[.int .i64 0] n) e)) (.bool false) n t
  rw [show (w.alloc (.cells (madeCells #[.int .i64 0] n) e)).heap.size = w.heap.size + 1 by simp] at hw
  exact ⟨(hk.alloc _).drew, hw.drew, by omega, by omega, by omega⟩
theorem plc_two (w : World) (n : Nat) (e t : TypeId) : PlC w.heap.size ((w.alloc (.cells (madeCells #[.bool false] n) t)).alloc (.cells (madeCells #[.int .i64 0] n) e)).drew (w.heap.size + 1) w.heap.size n ⟨fun _ => 0, fun _ => false⟩ := by
  have hw := own_row w (.bool false) n t
  have hk := own_row (w.alloc (.cells (madeCells #[.bool false] n) t)) (.int .i64 0) n e
  rw [show (w.alloc (.cells (madeCells #[.bool false] n) t)).heap.size = w.heap.size + 1 by simp] at hk
  exact ⟨hk.drew, (hw.alloc _).drew, by omega, by omega, by omega⟩
theorem two_below (w : World) (a b : Obj) : Below w.heap.size w ((w.alloc a).alloc b).drew :=
  ((((Upd.refl (fun _ => False) w).alloc a).alloc b).drew).below (Nat.le_refl _) (fun _ _ h => h.elim)
theorem in_is (P : Pl) (n : Nat) (p : Int) : P.in_ n p = (decide (0 ≤ p ∧ p < n) && !P.over p.toNat) := rfl
end Go.Proofs.YtmimfkhkilijcaaGreat
