/- A tree of the call's own; layer 16's statements' first call. -/
import Derived.Test.YtiahiadipmmgcaaTree5
namespace Go.Proofs.Ytiahiadipmmgcaa
set_option maxRecDepth 4000
open Go.ChangeShapes Go.WideShapes Go.ChangeAt Go.RowKit
open PTree
set_option linter.unusedVariables false
set_option linter.unusedSimpArgs false

structure TrI (w0 w : World) (F : Nat → Prop) (g n : Nat) (K : Nat → Int) (out : Nat → Bool) : Prop where
  tr : TreeI w F g n K out
  own : ∀ b, F b → w0.heap.size ≤ b
  new : Below w0.heap.size w0 w
section
variable {w0 w w' : World} {F : Nat → Prop} {g n : Nat} {K K' : Nat → Int} {out out' : Nat → Bool}
theorem TrI.did (h : TrI w0 w F g n K out) (k : TIPost F g n K' out' w w') : TrI w0 w' F g n K' out' :=
  ⟨k.1, h.own, h.new.upd k.2 h.new.size (fun b _ hb => h.own b hb)⟩
theorem TrI.on (h : TrI w0 w F g n K out) (hb : Below w.heap.size w w') : TrI w0 w' F g n K out :=
  ⟨h.tr.on hb, h.own, h.new.trans (hb.mono h.new.size)⟩
theorem TrI.alloc (h : TrI w0 w F g n K out) (o : Obj) : TrI w0 (w.alloc o) F g n K out := h.on ((Below.refl _ _).alloc (Nat.le_refl _) o)
theorem TrI.made {e : Ending} (hb : Below w0.heap.size w0 w) (h : TNewC n w e w') : ∃ F g, e = .returned (.pointer (some ⟨g, 0, none⟩)) ∧ TrI w0 w' F g n (fun _ => 0) (fun _ => false) := by
  obtain ⟨F, g, h1, h2, h3, h4, h5⟩ := h
  exact ⟨F, g, h1, h2, fun b hb2 => Nat.le_trans hb.size (h4 b hb2), hb.trans (h5.mono hb.size)⟩
end

set_option maxHeartbeats 2000000 in
theorem speaks16 (w : World) : Calls Try.prog 18 #[] w fun e w' => e = .returned (.bool true) ∧ Below w.heap.size w w' := by
  have HN := Lib.hid (ti_new 3 3 w (by decide) (by omega))
  have HS := fun K out F g (i : Nat) (zi : Int) x w' (h : TrI w w' F g 3 K out) (hz : (i : Int) = zi) (hi : i < 3) => Lib.hid (hz ▸ ti_set F g 3 K out i x w' h.tr hi)
  have HL := fun K out F g a b c w' (h : TrI w w' F g 3 K out) (hs : scan K out 3 = (a, b, c)) => Lib.hid (ti_least F g 3 K out w' h.tr a b c hs)
  have HV := fun K out F g (i : Nat) (zi : Int) o w' (h : TrI w w' F g 3 K out) (hz : (i : Int) = zi) (hi : i < 3) => Lib.hid (hz ▸ ti_leave F g 3 K out i o w' h.tr hi)
  have HK := fun K out F g (i : Nat) (zi : Int) w' (h : TrI w w' F g 3 K out) (hz : (i : Int) = zi) (hi : i < 3) => Lib.hid (hz ▸ ti_key F g 3 K out i w' h.tr hi)
  have HE := fun K out F g w' (h : TrI w w' F g 3 K out) => Lib.hid (ti_len F g 3 K out w' h.tr)
  have h31 : Hid (scan (put (put (put (fun _ => 0) 0 5) 1 3) 2 3) (fun _ => false) 3 = (3, 1, true)) := Lib.hid (by decide +kernel)
  have h32 : Hid (scan (put (put (put (fun _ => 0) 0 5) 1 3) 2 3) (put (fun _ => false) 1 true) 3 = (3, 2, true)) := Lib.hid (by decide +kernel)
  have hk0 : Hid (put (put (put (fun _ => (0 : Int)) 0 5) 1 3) 2 3 0 = 5) := Lib.hid (by decide +kernel)
  go_enter Try.func18, Try.ntmps18
  go_wp2_with (go_at_call 19; refine HN.out.mono ?_; intro e w1 h1; obtain ⟨F, g, rfl, i1⟩ := TrI.made (Below.refl _ _) h1)
  go_wp2_with (go_at_call 21; (with_reducible refine (HS _ _ _ _ 0 0 5 _ i1 (by omega) (by omega)).out.mono ?_); rintro e w2 ⟨rfl, h2⟩; have i2 := i1.did h2)
  go_wp2_with (go_at_call 21; (with_reducible refine (HS _ _ _ _ 1 1 3 _ i2 (by omega) (by omega)).out.mono ?_); rintro e w3 ⟨rfl, h3⟩; have i3 := i2.did h3)
  go_wp2_with (go_at_call 21; (with_reducible refine (HS _ _ _ _ 2 2 3 _ i3 (by omega) (by omega)).out.mono ?_); rintro e w4 ⟨rfl, h4⟩; have i4 := i3.did h4)
  go_wp2_with (go_at_call 23; (with_reducible refine (HL _ _ _ _ 3 1 true _ i4 h31.out).out.mono ?_); rintro e w5 ⟨rfl, rfl⟩)
  go_wp2_with (go_at_call 20; (with_reducible refine (HV _ _ _ _ 1 1 true _ i4 (by omega) (by omega)).out.mono ?_); rintro e w5 ⟨rfl, h5⟩; have i5 := i4.did h5)
  go_wp2_with (go_at_call 23; (with_reducible refine (HL _ _ _ _ 3 2 true _ i5 h32.out).out.mono ?_); rintro e w6 ⟨rfl, rfl⟩)
  go_wp2_with (first | (go_at_call 22; (with_reducible refine (HK _ _ _ _ 0 0 _ i5 (by omega) (by omega)).out.mono ?_); rw [hk0.out]; rintro e w6 ⟨rfl, rfl⟩) | (go_at_call 24; (with_reducible refine (HE _ _ _ _ _ i5).out.mono ?_); rintro e w6 ⟨rfl, rfl⟩))
  have hb5 := i5.new
  go_ret
  exact ⟨rfl, hb5⟩
end Go.Proofs.Ytiahiadipmmgcaa
