/- A clock and a status beside it; layer 15's statements' first call. -/
import Derived.Test.YtiahiadipmmgcaaIdle
namespace Go.Proofs.Ytiahiadipmmgcaa
set_option maxRecDepth 4000
open Go.ChangeShapes Go.WideShapes Go.ChangeAt Go.RowKit
open PSat
set_option linter.unusedVariables false
set_option linter.unusedSimpArgs false

/-- A clock at n, and a status by it, both of the call's own. -/
structure IdI (w0 w : World) (gc gs : Nat) (n s t d : Int) : Prop where
  ck : ClockC w gc n
  st : IdleC w gs s t d
  ne : gc ≠ gs
  c0 : w0.heap.size ≤ gc
  s0 : w0.heap.size ≤ gs
  new : Below w0.heap.size w0 w
section
variable {w0 w w' : World} {gc gs : Nat} {n s t d : Int}
theorem IdI.went {n' : Int} (h : IdI w0 w gc gs n s t d) (k : CkPost gc n' w w') : IdI w0 w' gc gs n' s t d :=
  ⟨k.1, h.st.upd k.2 (fun e => h.ne e.symm), h.ne, h.c0, h.s0, h.new.upd k.2 h.new.size (fun i _ e => by have := h.c0; omega)⟩
theorem IdI.did {s' d' : Int} (h : IdI w0 w gc gs n s t d) (k : IdPost gs s' t d' w w') : IdI w0 w' gc gs n s' t d' :=
  ⟨h.ck.upd k.2 h.ne, k.1, h.ne, h.c0, h.s0, h.new.upd k.2 h.new.size (fun i _ e => by have := h.s0; omega)⟩
theorem IdI.on (h : IdI w0 w gc gs n s t d) (hb : Below w.heap.size w w') : IdI w0 w' gc gs n s t d :=
  ⟨h.ck.on hb, h.st.on hb, h.ne, h.c0, h.s0, h.new.trans (hb.mono h.new.size)⟩
theorem IdI.alloc (h : IdI w0 w gc gs n s t d) (o : Obj) : IdI w0 (w.alloc o) gc gs n s t d := h.on ((Below.refl _ _).alloc (Nat.le_refl _) o)
theorem IdI.drew (h : IdI w0 w gc gs n s t d) : IdI w0 w.drew gc gs n s t d :=
  ⟨h.ck.upd (S := fun _ => False) ((Upd.refl _ _).drew) id, h.st.upd (S := fun _ => False) ((Upd.refl _ _).drew) id, h.ne, h.c0, h.s0, h.new.upd (S := fun _ => False) ((Upd.refl _ _).drew) h.new.size (fun _ _ h => h.elim)⟩
theorem IdI.made {e : Ending} (w : World) (hb : Below w0.heap.size w0 w) (hc : ClockC w gc n) (hg : w0.heap.size ≤ gc) (h : IdNew w t d e w') : IdI w0 w' gc w.heap.size n 0 t d :=
  ⟨hc.on h.2.2.2, h.2.1, by have := hc.lt; omega, hg, hb.size, hb.trans (h.2.2.2.mono hb.size)⟩
end

set_option maxHeartbeats 2000000 in
theorem speaks15 (w : World) : Calls Try.prog 8 #[] w fun e w' => e = .returned (.bool true) ∧ Below w.heap.size w w' := by
  have hc0 := ClockC.made w 25
  have b0 : Below w.heap.size w (w.alloc (.cells #[.int .i64 0] 25)) := (Below.refl _ _).alloc (Nat.le_refl _) _
  have HN := Lib.hid (id_new w.heap.size 0 5 _ hc0 (by omega) (by omega) 5 (by decide +kernel))
  have HG1 := fun w' (h : ClockC w' w.heap.size 0) => Lib.hid (ck_go w.heap.size 0 4 w' h (by omega) (by omega) (by omega))
  have HG2 := fun w' (h : ClockC w' w.heap.size 4) => Lib.hid (ck_go w.heap.size 4 1 w' h (by omega) (by omega) (by omega))
  rw [show add 0 4 = 4 by simp [add, clampI]] at HG1
  rw [show add 4 1 = 5 by simp [add, clampI]] at HG2
  have HT1 := fun g w' (h : IdI w w' w.heap.size g 4 0 5 5) => Lib.hid (id_tick_not w.heap.size 4 g 0 5 5 w' h.ck h.st (by omega))
  have HI1 := fun g w' (h : IdI w w' w.heap.size g 4 0 5 5) => Lib.hid (id_is g 0 5 5 w' h.st)
  have HT2 := fun g w' (h : IdI w w' w.heap.size g 5 0 5 5) => Lib.hid (id_tick w.heap.size 5 g 5 5 w' h.ck h.ne h.st (by omega))
  have HI2 := fun g w' (h : IdI w w' w.heap.size g 5 1 5 5) => Lib.hid (id_is g 1 5 5 w' h.st)
  have HO2 := fun g w' (h : IdI w w' w.heap.size g 5 1 5 5) => Lib.hid (id_over g 1 5 5 w' h.st (by omega))
  have HR3 := fun g w' (h : IdI w w' w.heap.size g 5 1 5 5) => Lib.hid (id_read w.heap.size 5 g 1 5 5 w' h.ck h.ne (by omega) (by omega) h.st (by omega) (by omega) 10 (by decide +kernel))
  have HI3 := fun g w' (h : IdI w w' w.heap.size g 5 0 5 10) => Lib.hid (id_is g 0 5 10 w' h.st)
  have HE3 := fun g w' (h : IdI w w' w.heap.size g 5 0 5 10) => Lib.hid (id_end g 0 5 10 w' h.st (by omega) (by omega))
  have HO4 := fun g w' (h : IdI w w' w.heap.size g 5 2 5 10) => Lib.hid (id_over g 2 5 10 w' h.st (by omega))
  go_enter Try.func8, Try.ntmps8
  go_wp2_with (go_at_call 10; (with_reducible refine HN.out.mono ?_); intro e w1 h1; have i1 := IdI.made _ b0 hc0 (Nat.le_refl _) h1; obtain ⟨rfl, -⟩ := h1; generalize (w.alloc (.cells #[.int .i64 0] 25)).heap.size = gs at *)
  go_wp2_with (go_at_call 9; (with_reducible refine (HG1 _ i1.ck).out.mono ?_); rintro e w2 ⟨rfl, h2⟩; have i2 := i1.went h2)
  go_wp2_with (first | (go_at_call 15; (with_reducible refine (HT1 _ _ i2).out.mono ?_); rintro e w3 ⟨rfl, rfl⟩) | (go_at_call 16; (with_reducible refine (HI1 _ _ i2).out.mono ?_); rintro e w3 ⟨rfl, rfl⟩))
  go_wp2_with (go_at_call 9; (with_reducible refine (HG2 _ i2.ck).out.mono ?_); rintro e w3 ⟨rfl, h3⟩; have i3 := i2.went h3)
  go_wp2_with (go_at_call 15; (with_reducible refine (HT2 _ _ i3).out.mono ?_); rintro e w4 ⟨rfl, h4⟩; have i4 := i3.did h4)
  go_wp2_with (first | (go_at_call 16; (with_reducible refine (HI2 _ _ i4).out.mono ?_); rintro e w5 ⟨rfl, rfl⟩) | (go_at_call 17; (with_reducible refine (HO2 _ _ i4).out.mono ?_); rintro e w5 ⟨rfl, rfl⟩))
  go_wp2_with (go_at_call 14; (with_reducible refine (HR3 _ _ i4).out.mono ?_); rintro e w5 ⟨rfl, h5⟩; have i5 := i4.did h5)
  go_wp2_with (go_at_call 16; (with_reducible refine (HI3 _ _ i5).out.mono ?_); rintro e w6 ⟨rfl, rfl⟩)
  go_wp2_with (go_at_call 12; (with_reducible refine (HE3 _ _ i5).out.mono ?_); rintro e w6 ⟨rfl, h6⟩; have i6 := i5.did h6; have hb6 := i6.new)
  go_wp2_with (go_at_call 17; (with_reducible refine (HO4 _ _ i6).out.mono ?_); rintro e w7 ⟨rfl, rfl⟩)
  go_ret
  exact ⟨rfl, hb6⟩
end Go.Proofs.Ytiahiadipmmgcaa
