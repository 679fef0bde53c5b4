/- What WholeAhead keeps: how far time has come, who is held back, and a row of numbers, apart. -/
import Derived.Test.YtcenodjifafdeaaKMerge
import Derived.Test.YtcenodjifafdeaaKAlign
namespace Go.Proofs.Ytcenodjifafdeaa
set_option maxRecDepth 4000
open Go.ChangeShapes Go.WideShapes Go.ChangeAt Go.RowKit
open PTree PSat PAlign
set_option linter.unusedVariables false
set_option linter.unusedSimpArgs false

theorem add_up2 {a d : Int} (h : inR a) (hd : 0 ≤ d) : a ≤ add a d := by
  unfold inR at h
  unfold add clampI
  (repeat' split) <;> omega
structure Wa (w0 w : World) (F : Nat → Prop) (gm g gl gr n : Nat) (d : Int) (K S : Nat → Int) (now : Int) (L : Nat → Int) (G : Int) (R : Nat → Int) : Prop where
  me : MeI w0 w F gm n K S now
  al : AlI w0 w g gl n d G L
  lo : Own w gr 0 n (fun j => .int .i64 (R j))
  f1 : ¬ F g
  f2 : ¬ F gl
  f3 : ¬ F gr
  n1 : gr ≠ g
  n2 : gr ≠ gl
  r0 : w0.heap.size ≤ gr
section
variable {w0 w w' : World} {F : Nat → Prop} {gm g gl gr n : Nat} {d now now' G G' : Int} {K K' S S' L L' R : Nat → Int}
theorem Wa.on (h : Wa w0 w F gm g gl gr n d K S now L G R) (hb : Below w.heap.size w w') : Wa w0 w' F gm g gl gr n d K S now L G R :=
  ⟨h.me.on hb, h.al.on hb, h.lo.below hb h.lo.lt, h.f1, h.f2, h.f3, h.n1, h.n2, h.r0⟩
theorem Wa.alloc (h : Wa w0 w F gm g gl gr n d K S now L G R) (o : Obj) : Wa w0 (w.alloc o) F gm g gl gr n d K S now L G R := h.on ((Below.refl _ _).alloc (Nat.le_refl _) o)
theorem Wa.told (h : Wa w0 w F gm g gl gr n d K S now L G R) (k : MePost F gm n K' (oa S' 0) (oa S' 1) now' w w') : Wa w0 w' F gm g gl gr n d K' S' now' L G R :=
  ⟨h.me.did k, h.al.upd k.2 (fun b hb => ⟨h.me.own b hb, fun e => h.f1 (e ▸ hb), fun e => h.f2 (e ▸ hb)⟩), h.lo.upd k.2 h.f3, h.f1, h.f2, h.f3, h.n1, h.n2, h.r0⟩
theorem Wa.held (h : Wa w0 w F gm g gl gr n d K S now L G R) (k : AlPost g gl n d G' L' w w') : Wa w0 w' F gm g gl gr n d K S now L' G' R :=
  ⟨h.me.upd k.2 (fun b hb => by
    rcases hb with rfl | rfl
    · exact ⟨h.al.g0, h.f1⟩
    · exact ⟨h.al.l0, h.f2⟩), h.al.did k, h.lo.upd k.2 (fun e => by have := h.n1; have := h.n2; omega), h.f1, h.f2, h.f3, h.n1, h.n2, h.r0⟩
theorem Wa.row (h : Wa w0 w F gm g gl gr n d K S now L G R) (i : Nat) (hi : i < n) (x : Int) : Wa w0 (w.setCell ⟨gr, i, none⟩ (.int .i64 x)) F gm g gl gr n d K S now L G (put R i x) := by
  have hu : Upd (fun k => k = gr) w (w.setCell ⟨gr, i, none⟩ (.int .i64 x)) := (Upd.refl (fun k => k = gr) w).setCell (p := ⟨gr, i, none⟩) (fun _ => rfl) _
  have h1 := h.lo.set i hi (.int .i64 x)
  rw [Nat.zero_add] at h1
  exact ⟨h.me.upd hu (fun b e => by subst e; exact ⟨h.r0, h.f3⟩), h.al.upd hu (fun b e => by subst e; exact ⟨h.r0, h.n1, h.n2⟩), h1.congr (fun j hj => by unfold put; by_cases e : j = i <;> simp [e]), h.f1, h.f2, h.f3, h.n1, h.n2, h.r0⟩
theorem Wa.cell (h : Wa w0 w F gm g gl gr n d K S now L G R) (j : Nat) (hj : j < n) : w.cell? ⟨gr, j, none⟩ = some (.int .i64 (R j)) ∧ w.frozen? ⟨gr, j, none⟩ = false := by
  have h1 := h.lo.cell j hj
  have h2 := h.lo.free j hj
  rw [Nat.zero_add] at h1 h2
  exact ⟨h1, h2⟩
end
theorem put_in {K : Nat → Int} {n : Nat} (h : ∀ j, j < n → inR (K j)) (i : Nat) {x : Int} (hx : inR x) : ∀ j, j < n → inR (put K i x j) := fun j hj => by
  unfold put
  split
  · exact hx
  · exact h j hj
end Go.Proofs.Ytcenodjifafdeaa
