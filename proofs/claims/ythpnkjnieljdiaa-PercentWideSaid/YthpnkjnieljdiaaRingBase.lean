/- What a ring's cells hold. -/
import Derived.Test.YthpnkjnieljdiaaSlots
import Derived.Test.YthpnkjnieljdiaaBase
import Derived.Test.YthpnkjnieljdiaaRingPlain
import Derived.Handy
import Derived.BigQuiet
import Derived.Deep.QuietTactic
import Derived.IntWalk
import Derived.Outline
import Derived.WalkLawsBesides
import Derived.Deep.RegionWith
import Derived.Deep.DeepCutAuto
import Derived.Deep.DeepFit
namespace Go.Proofs.Ythpnkjnieljdiaa
open Go.ChangeShapes Go.WideShapes Go.ChangeAt Go.RowKit
open PRing
set_option linter.unusedVariables false

/-- Block g is a ring with room for r: its row is v, of the cells xs; the eldest stands at place e; all of it lies in blocks of F. -/
structure RingC (w : World) (F : Nat → Prop) (g r : Nat) (v : Value) (e : Nat) (xs : List Value) : Prop where
  at_ : At w g [.int .i64 r, v, .int .i64 e]
  sl : Sl 0 w 1 v xs.length xs
  own : F g ∧ (∀ k, F k → k < w.heap.size) ∧ ∀ k, v.ownBlock = some k → F k ∧ k ≠ g
  one : 1 ≤ r
  room : xs.length ≤ r
  first : xs.length < r → e = 0
  eld : e < xs.length ∨ e = 0
/-- .. that has these, the eldest first. -/
def Ring (w : World) (F : Nat → Prop) (g r : Nat) (l : List Value) : Prop := ∃ v e xs, RingC w F g r v e xs ∧ l = view e xs
def RNew (g r : Nat) (w w' : World) : Prop := Ring w' (fun k => k = g) g r [] ∧ Below w.heap.size w w'
def RPush (F : Nat → Prop) (g r : Nat) (l : List Value) (w w' : World) : Prop := ∃ F', Ring w' F' g r l ∧ Upd F w w' ∧ ∀ k, F' k → F k ∨ w.heap.size ≤ k

theorem RingC.upd {S : Nat → Prop} {w w' : World} {F : Nat → Prop} {g r : Nat} {v : Value} {e : Nat} {xs : List Value} (h : RingC w F g r v e xs) (hu : Upd S w w') (hn : ∀ k, F k → ¬ S k) : RingC w' F g r v e xs :=
  ⟨h.at_.upd hu (hn g h.own.1), h.sl.upd hu (fun k hk => hn k (h.own.2.2 k hk).1), ⟨h.own.1, fun k hk => Nat.lt_of_lt_of_le (h.own.2.1 k hk) hu.size, h.own.2.2⟩, h.one, h.room, h.first, h.eld⟩
theorem Ring.upd {S : Nat → Prop} {w w' : World} {F : Nat → Prop} {g r : Nat} {l : List Value} (h : Ring w F g r l) (hu : Upd S w w') (hn : ∀ k, F k → ¬ S k) : Ring w' F g r l := by
  obtain ⟨v, e, xs, h1, h2⟩ := h
  exact ⟨v, e, xs, h1.upd hu hn, h2⟩
theorem Ring.below {w w' : World} {F : Nat → Prop} {g r : Nat} {l : List Value} (h : Ring w F g r l) (hb : Below w.heap.size w w') : Ring w' F g r l := by
  obtain ⟨v, e, xs, h1, h2⟩ := h
  exact ⟨v, e, xs, h1.upd (S := fun k => w.heap.size ≤ k) (Upd.of_below hb (fun _ _ h => h)) (fun k hk => by have := h1.own.2.1 k hk; omega), h2⟩
theorem Ring.lt {w : World} {F : Nat → Prop} {g r : Nat} {l : List Value} (h : Ring w F g r l) : ∀ k, F k → k < w.heap.size := by
  obtain ⟨v, e, xs, h1, h2⟩ := h
  exact h1.own.2.1
theorem Ring.len {w : World} {F : Nat → Prop} {g r : Nat} {l : List Value} (h : Ring w F g r l) : l.length ≤ r := by
  obtain ⟨v, e, xs, h1, rfl⟩ := h
  rw [view_len]
  exact h1.room
theorem upd_drewN (w : World) (n : Nat) : Upd (fun _ => False) w (w.drewN n) := (Upd.refl _ _).drewN n
theorem RingC.drewN {w : World} {F : Nat → Prop} {g r : Nat} {v : Value} {e : Nat} {xs : List Value} (h : RingC w F g r v e xs) (n : Nat) : RingC (w.drewN n) F g r v e xs := h.upd (upd_drewN w n) (fun _ _ h => h)
theorem Ring.drewN {w : World} {F : Nat → Prop} {g r : Nat} {l : List Value} (h : Ring w F g r l) (n : Nat) : Ring (w.drewN n) F g r l := h.upd (upd_drewN w n) (fun _ _ h => h)
theorem Upd.cat {S1 S2 S : Nat → Prop} {a b c : World} (h1 : Upd S1 a b) (h2 : Upd S2 b c) (hs1 : ∀ k, k < a.heap.size → S1 k → S k) (hs2 : ∀ k, k < a.heap.size → S2 k → S k) : Upd S a c := (h1.mono hs1).trans h2 hs2
/-- An append to a ring's row: its own block stands. -/
theorem ring_put {w w0 w1 : World} {F : Nat → Prop} {g r e : Nat} {v : Value} {xs : List Value} (h : RingC w F g r v e xs) (hu : Upd (fun _ => False) w w0) (k2 : Upd (fun k => v.ownBlock = some k) w0 w1) : At w1 g [.int .i64 r, v, .int .i64 e] :=
  (h.at_.upd hu id).upd k2 (fun hk => (h.own.2.2 g hk).2 rfl)

theorem ring_push_room {w w0 w1 : World} {F : Nat → Prop} {g r : Nat} {v v1 : Value} {xs : List Value} {x : Value} (h : RingC w F g r v 0 xs) (hl : xs.length < r) (hu : Upd (fun _ => False) w w0)
    (k1 : Sl 0 w1 1 v1 (xs.length + 1) (xs ++ [x])) (k2 : Upd (fun k => v.ownBlock = some k) w0 w1) (k3 : ∀ k, v1.ownBlock = some k → v.ownBlock = some k ∨ w0.heap.size ≤ k) : RPush F g r (view 0 xs ++ [x]) w (w1.setCell ⟨g, 1, none⟩ v1) := by
  have hat := ring_put h hu k2
  have hg := h.at_.1
  have hg1 := hat.1
  have hne : ∀ k, v1.ownBlock = some k → k ≠ g := fun k hk => by
    rcases k3 k hk with h1 | h1
    · exact (h.own.2.2 k h1).2
    · have := hu.size; omega
  have hset : Upd (fun k => k = g) w1 (w1.setCell ⟨g, 1, none⟩ v1) := (Upd.refl (fun k => k = g) w1).setCell (p := ⟨g, 1, none⟩) (fun _ => rfl) v1
  have hsz := hset.size
  refine ⟨fun k => k = g ∨ v1.ownBlock = some k, ⟨v1, 0, xs ++ [x], ⟨hat.set 1 (by simp) v1, ?_, ⟨.inl rfl, fun k hk => ?_, fun k hk => ⟨.inr hk, hne k hk⟩⟩, h.one, by simp; omega, fun _ => rfl, .inr rfl⟩, by rw [view_zero, view_zero]⟩, ?_, fun k hk => ?_⟩
  · have := k1.upd hset (fun k hk => hne k hk)
    simpa using this
  · rcases hk with rfl | hk
    · omega
    · have := (k1.lt k hk).2; omega
  · exact (hu.cat (S := F) k2 (fun _ _ h => h.elim) (fun i _ hi => (h.own.2.2 i hi).1)).cat hset (fun _ _ h => h) (fun i _ hi => by subst hi; exact h.own.1)
  · rcases hk with rfl | hk
    · exact .inl h.own.1
    · rcases k3 k hk with h1 | h1
      · exact .inl (h.own.2.2 k h1).1
      · have := hu.size; exact .inr (by omega)

/-- One of its row written over. -/
theorem ring_over {w w0 : World} {F : Nat → Prop} {g r e : Nat} {b off c : Nat} {xs : List Value} (h : RingC w0 F g r (.slice (some ⟨b, off, none⟩) xs.length c) e xs) (hu : Upd (fun _ => False) w w0) (he : e < xs.length) (x : Value) :
    RingC (w0.setCell ⟨b, off + e, none⟩ x) F g r (.slice (some ⟨b, off, none⟩) xs.length c) e (xs.set e x) ∧ Upd F w (w0.setCell ⟨b, off + e, none⟩ x) := by
  obtain ⟨hf, hne⟩ := h.own.2.2 b rfl
  have hset : Upd (fun k => k = b) w0 (w0.setCell ⟨b, off + e, none⟩ x) := (Upd.refl (fun k => k = b) w0).setCell (p := ⟨b, off + e, none⟩) (fun _ => rfl) x
  have hl : (xs.set e x).length = xs.length := List.length_set
  refine ⟨⟨h.at_.upd hset (fun hk => hne hk.symm), ?_, ⟨h.own.1, fun k hk => Nat.lt_of_lt_of_le (h.own.2.1 k hk) hset.size, h.own.2.2⟩, h.one, by rw [hl]; exact h.room, by rw [hl]; exact h.first, by rw [hl]; exact h.eld⟩, hu.cat hset (fun _ _ h => h.elim) (fun k _ hk => by subst hk; exact hf)⟩
  rw [hl]
  refine ⟨by rw [hl]; omega, .inr ?_⟩
  rcases h.sl.2 with ⟨h0, _⟩ | ⟨g', off', cap', e0, h1, hb, hn, hm, h3, h4⟩
  · cases h0
  · cases e0
    refine ⟨b, off, c, rfl, h1, Nat.lt_of_lt_of_le hb hset.size, hn, hm, fun j hj => ?_, fun j hj => ?_⟩
    · by_cases ej : j = e
      · subst ej
        have := h3 j hj
        rw [List.getElem?_eq_getElem (by omega)] at this
        rw [World.cell?_setCell_same w0 ⟨b, off + j, none⟩ x this, List.getElem?_set_self he]
      · rw [World.cell?_setCell_other _ _ _ _ (fun hx => ej (by have := congrArg Addr.off hx; simp at this; omega)), List.getElem?_set_ne (fun e => ej e.symm)]
        exact h3 j hj
    · refine ⟨?_, by rw [World.frozen?_setCell]; exact (h4 j hj).2⟩
      by_cases ej : j = e
      · subst ej
        have := h3 j (by omega)
        rw [List.getElem?_eq_getElem (by omega)] at this
        rw [World.cell?_setCell_same w0 ⟨b, off + j, none⟩ x this]; rfl
      · rw [World.cell?_setCell_other _ _ _ _ (fun hx => ej (by have := congrArg Addr.off hx; simp at this; omega))]
        exact (h4 j hj).1

theorem ring_push_full {w w4 : World} {F : Nat → Prop} {g e : Nat} {v v' : Value} {xs : List Value} {x : Value} (h : RingC w4 F g xs.length v e (xs.set e x)) (hu : Upd F w w4) (h0 : RingC w F g xs.length v' e xs) (hx : 0 < xs.length) (z : Int) (hz : z = ((e + 1) % xs.length : Nat)) :
    RPush F g xs.length ((view e xs).drop 1 ++ [x]) w (w4.setCell ⟨g, 2, none⟩ (.int .i64 z)) := by
  subst hz
  have he : e < xs.length := by have := h0.eld; omega
  have hset : Upd (fun k => k = g) w4 (w4.setCell ⟨g, 2, none⟩ (.int .i64 ((e + 1) % xs.length : Nat))) := (Upd.refl (fun k => k = g) w4).setCell (p := ⟨g, 2, none⟩) (fun _ => rfl) _
  have hl : (xs.set e x).length = xs.length := List.length_set
  refine ⟨F, ⟨v, (e + 1) % xs.length, xs.set e x, ⟨?_, h.sl.upd hset (fun k hk => (h.own.2.2 k hk).2), ⟨h.own.1, fun k hk => Nat.lt_of_lt_of_le (h.own.2.1 k hk) hset.size, h.own.2.2⟩, h.one, h.room, fun hc => by omega, .inl (by rw [hl]; exact Nat.mod_lt _ hx)⟩, (view_set e xs he x).symm⟩, hu.cat hset (fun _ _ h => h) (fun k _ hk => by subst hk; exact h.own.1), fun k hk => .inl hk⟩
  have := h.at_.set 2 (by simp) (.int .i64 ((e + 1) % xs.length : Nat))
  simpa using this

theorem ring_made (w : World) (r : Nat) (n : Int) (hn : n = r) (h1 : 1 ≤ r) (ty : TypeId) : RNew w.heap.size r w (w.alloc (.cells #[.int .i64 n, .slice none 0 0, .int .i64 0] ty)) := by
  subst hn
  refine ⟨⟨.slice none 0 0, 0, [], ⟨At.alloc w [.int .i64 r, .slice none 0 0, .int .i64 0] ty, Sl.nil _ _ _, ⟨rfl, fun k hk => by subst hk; simp, fun k hk => by simp [Value.ownBlock] at hk⟩, h1, by simp, fun _ => rfl, .inr rfl⟩, (view_zero []).symm⟩, ?_⟩
  exact ((Upd.refl (fun _ => False) w).alloc _).below (Nat.le_refl _) (fun k _ h => h.elim)
end Go.Proofs.Ythpnkjnieljdiaa
