/- tree: contracts of its calls, by what it holds. -/
import Derived.Test.YtiahiadipmmgcaaTree2
import Derived.Deep.OwnRows
namespace Go.Proofs.Ytiahiadipmmgcaa
set_option maxRecDepth 4000
open Go.ChangeShapes Go.WideShapes Go.ChangeAt Go.RowKit
open PTree
set_option linter.unusedVariables false
set_option linter.unusedSimpArgs false

/-- Block g, and all blocks of F, are a tree of n numbers K, those of 'out' left out. -/
def TreeI (w : World) (F : Nat → Prop) (g n : Nat) (K : Nat → Int) (out : Nat → Bool) : Prop :=
  ∃ gk gw V, TreeC w g gk gw n K V ∧ TInv n K out V ∧ (∀ b, F b ↔ b = g ∨ b = gk ∨ b = gw) ∧ n ≤ 1000000
def TIPost (F : Nat → Prop) (g n : Nat) (K : Nat → Int) (out : Nat → Bool) (w w' : World) : Prop := TreeI w' F g n K out ∧ Upd F w w'
section
variable {w w' : World} {F : Nat → Prop} {g n : Nat} {K : Nat → Int} {out : Nat → Bool}
theorem TreeI.upd {S : Nat → Prop} (h : TreeI w F g n K out) (hu : Upd S w w') (hn : ∀ b, F b → ¬ S b) : TreeI w' F g n K out := by
  obtain ⟨gk, gw, V, h1, h2, h3, h4⟩ := h
  exact ⟨gk, gw, V, h1.upd hu (hn _ ((h3 _).2 (.inl rfl))) (hn _ ((h3 _).2 (.inr (.inl rfl)))) (hn _ ((h3 _).2 (.inr (.inr rfl)))), h2, h3, h4⟩
theorem TreeI.lt (h : TreeI w F g n K out) : ∀ b, F b → b < w.heap.size := by
  obtain ⟨gk, gw, V, h1, h2, h3, h4⟩ := h
  intro b hb
  rcases (h3 b).1 hb with rfl | rfl | rfl
  · exact h1.at_.1
  · exact h1.keys.lt
  · exact h1.won.lt
theorem TreeI.on (h : TreeI w F g n K out) (hb : Below w.heap.size w w') : TreeI w' F g n K out :=
  h.upd (S := fun k => w.heap.size ≤ k) (Upd.of_below hb (fun _ _ h => h)) (fun b hb h2 => by have := h.lt b hb; omega)
theorem TreeI.alloc (h : TreeI w F g n K out) (o : Obj) : TreeI (w.alloc o) F g n K out := h.upd (S := fun _ => False) ((Upd.refl _ _).alloc o) (fun _ _ => id)
theorem TreeI.drew (h : TreeI w F g n K out) : TreeI w.drew F g n K out := h.upd (S := fun _ => False) ((Upd.refl _ _).drew) (fun _ _ => id)
theorem TreeI.drewN (h : TreeI w F g n K out) (m : Nat) : TreeI (w.drewN m) F g n K out := h.upd (S := fun _ => False) ((Upd.refl _ _).drewN m) (fun _ _ => id)
end

set_option maxHeartbeats 400000 in
theorem ti_len (F : Nat → Prop) (g n : Nat) (K : Nat → Int) (out : Nat → Bool) (w : World) (h : TreeI w F g n K out) :
    Calls Try.prog 24 #[.pointer (some ⟨g, 0, none⟩)] w fun e w' => e = .returned (.int .i64 n) ∧ w = w' := by
  obtain ⟨gk, gw, V, h1, h2, h3, h4⟩ := h
  exact tr_len g gk gw n K V w h1

set_option maxHeartbeats 400000 in
theorem ti_key (F : Nat → Prop) (g n : Nat) (K : Nat → Int) (out : Nat → Bool) (i : Nat) (w : World) (h : TreeI w F g n K out) (hi : i < n) :
    Calls Try.prog 22 #[.pointer (some ⟨g, 0, none⟩), .int .i64 i] w fun e w' => e = .returned (.int .i64 (K i)) ∧ w = w' := by
  obtain ⟨gk, gw, V, h1, h2, h3, h4⟩ := h
  have HL := Lib.hid (tr_has g gk gw n K V i w h1)
  rw [decide_eq_true (by omega)] at HL
  obtain ⟨hg, c0, z0, c1, z1⟩ := h1.at_.two
  have ci := (h1.key i hi).1
  clear h1 h2 h3
  go_enter Try.func22, Try.ntmps22
  go_wp2_with (go_at_call 31; refine HL.out.mono ?_; rintro e w' ⟨rfl, rfl⟩)
  go_ret
  exact ⟨rfl, rfl⟩
theorem ti_key_none (F : Nat → Prop) (g n : Nat) (K : Nat → Int) (out : Nat → Bool) (i : Int) (w : World) (h : TreeI w F g n K out) (hi : ¬ (0 ≤ i ∧ i < n)) :
    Calls Try.prog 22 #[.pointer (some ⟨g, 0, none⟩), .int .i64 i] w fun e w' => e = .returned (.int .i64 0) ∧ w = w' := by
  obtain ⟨gk, gw, V, h1, h2, h3, h4⟩ := h
  have HL := Lib.hid (tr_has g gk gw n K V i w h1)
  rw [decide_eq_false hi] at HL
  clear h1 h2 h3 hi
  go_enter Try.func22, Try.ntmps22
  go_wp2_with (go_at_call 31; refine HL.out.mono ?_; rintro e w' ⟨rfl, rfl⟩)
  go_ret
  exact ⟨rfl, rfl⟩

set_option maxHeartbeats 1000000 in
theorem ti_set (F : Nat → Prop) (g n : Nat) (K : Nat → Int) (out : Nat → Bool) (i : Nat) (x : Int) (w : World) (h : TreeI w F g n K out) (hi : i < n) :
    Calls Try.prog 21 #[.pointer (some ⟨g, 0, none⟩), .int .i64 i, .int .i64 x] w fun e w' => e = .returned (.bool true) ∧ TIPost F g n (put K i x) out w w' := by
  obtain ⟨gk, gw, V, h1, h2, h3, h4⟩ := h
  have HL := Lib.hid (tr_has g gk gw n K V i w h1)
  rw [decide_eq_true (by omega)] at HL
  obtain ⟨hg, c0, z0, c1, z1⟩ := h1.at_.two
  obtain ⟨ci, zi⟩ := h1.key i hi
  have hlt := h1.keys.lt
  have hT := h1.setKey i hi x
  have HR := Lib.hid (tr_replay g gk gw n (put K i x) out V i _ hT h4 hi (h2.set i hi x))
  have HU := Lib.hid ((Upd.refl F w).setCell (p := ⟨gk, i, none⟩) (fun _ => (h3 gk).2 (.inr (.inl rfl))) (.int .i64 x))
  have HF := Lib.hid h3
  clear h1 h2 h3 hT
  go_enter Try.func21, Try.ntmps21
  go_wp2_with (first | (go_at_call 31; refine HL.out.mono ?_; rintro e w' ⟨rfl, rfl⟩) | (go_at_call 32; refine HR.out.mono ?_; intro e w2 hd; obtain ⟨rfl, hd⟩ := hd))
  go_ret
  obtain ⟨V', k1, k2, k3⟩ := hd
  exact ⟨rfl, ⟨gk, gw, V', k1, k2, HF.out, h4⟩, HU.out.trans k3 (fun b _ e => (HF.out b).2 (.inr (.inr e)))⟩
theorem ti_set_none (F : Nat → Prop) (g n : Nat) (K : Nat → Int) (out : Nat → Bool) (i x : Int) (w : World) (h : TreeI w F g n K out) (hi : ¬ (0 ≤ i ∧ i < n)) :
    Calls Try.prog 21 #[.pointer (some ⟨g, 0, none⟩), .int .i64 i, .int .i64 x] w fun e w' => e = .returned (.bool false) ∧ w = w' := by
  obtain ⟨gk, gw, V, h1, h2, h3, h4⟩ := h
  have HL := Lib.hid (tr_has g gk gw n K V i w h1)
  rw [decide_eq_false hi] at HL
  clear h1 h2 h3 hi
  go_enter Try.func21, Try.ntmps21
  go_wp2_with (go_at_call 31; refine HL.out.mono ?_; rintro e w' ⟨rfl, rfl⟩)
  go_ret
  exact ⟨rfl, rfl⟩
theorem ti_leave_none (F : Nat → Prop) (g n : Nat) (K : Nat → Int) (out : Nat → Bool) (i : Int) (o : Bool) (w : World) (h : TreeI w F g n K out) (hi : ¬ (0 ≤ i ∧ i < n)) :
    Calls Try.prog 20 #[.pointer (some ⟨g, 0, none⟩), .int .i64 i, .bool o] w fun e w' => e = .returned (.bool false) ∧ w = w' := by
  obtain ⟨gk, gw, V, h1, h2, h3, h4⟩ := h
  have HL := Lib.hid (tr_has g gk gw n K V i w h1)
  rw [decide_eq_false hi] at HL
  clear h1 h2 h3 hi
  go_enter Try.func20, Try.ntmps20
  go_wp2_with (go_at_call 31; refine HL.out.mono ?_; rintro e w' ⟨rfl, rfl⟩)
  go_ret
  exact ⟨rfl, rfl⟩
end Go.Proofs.Ytiahiadipmmgcaa
