/- The numbers of a hist that stands behind five other cells of its block. -/
import Derived.Test.YthpnkjnieljdiaaHistL
namespace Go.Proofs.Ythpnkjnieljdiaa
open Go.ChangeShapes Go.WideShapes Go.ChangeAt Go.RowKit
open PHist
set_option linter.unusedVariables false
set_option linter.unusedSimpArgs false

/-- What stands in a block ahead of its numbers. -/
structure Pre where
  a : Value
  b : Value
  c : Value
  d : Value
  e : Value
theorem At.six {w : World} {g : Nat} {a b c d e v m : Value} (h : At w g [a, b, c, d, e, v, m]) : g < w.heap.size ∧ w.cell? ⟨g, 5, none⟩ = some v ∧ w.frozen? ⟨g, 5, none⟩ = false ∧ w.cell? ⟨g, 6, none⟩ = some m ∧ w.frozen? ⟨g, 6, none⟩ = false :=
  ⟨h.1, (h.2 5 (by simp)).1, (h.2 5 (by simp)).2, (h.2 6 (by simp)).1, (h.2 6 (by simp)).2⟩

/-- Block g is a row of numbers, as rows of the cells rs, held in v; all of it lies in blocks of F. -/
structure HistCP (w : World) (F : Nat → Prop) (P : Pre) (g : Nat) (v : Value) (m : Nat) (rs : List NR) : Prop where
  at_ : At w g [P.a, P.b, P.c, P.d, P.e, v, .int .i64 m]
  sl : Sl 0 w 2 v rs.length (hv rs)
  own : F g ∧ (∀ k, F k → k < w.heap.size) ∧ ∀ k, v.ownBlock = some k → F k ∧ k ≠ g
theorem HistCP.upd {S : Nat → Prop} {w w' : World} {F : Nat → Prop} {P : Pre} {g : Nat} {v : Value} {m : Nat} {rs : List NR} (h : HistCP w F P g v m rs) (hu : Upd S w w') (hn : ∀ k, F k → ¬ S k) : HistCP w' F P g v m rs :=
  ⟨h.at_.upd hu (hn g h.own.1), h.sl.upd hu (fun k hk => hn k (h.own.2.2 k hk).1), ⟨h.own.1, fun k hk => Nat.lt_of_lt_of_le (h.own.2.1 k hk) hu.size, h.own.2.2⟩⟩
theorem HistCP.below {w w' : World} {F : Nat → Prop} {P : Pre} {g : Nat} {v : Value} {m : Nat} {rs : List NR} (h : HistCP w F P g v m rs) (hb : Below w.heap.size w w') : HistCP w' F P g v m rs :=
  h.upd (S := fun k => w.heap.size ≤ k) (Upd.of_below hb (fun _ _ h => h)) (fun k hk => by have := h.own.2.1 k hk; omega)
theorem HistCP.drewN {w : World} {F : Nat → Prop} {P : Pre} {g : Nat} {v : Value} {m : Nat} {rs : List NR} (h : HistCP w F P g v m rs) (n : Nat) : HistCP (w.drewN n) F P g v m rs := h.upd (upd_drewN w n) (fun _ _ h => h)
theorem HistCP.cell {w : World} {F : Nat → Prop} {P : Pre} {g : Nat} {a : Option Addr} {n c m : Nat} {rs : List NR} (h : HistCP w F P g (.slice a n c) m rs) (k : Nat) (hk : k < rs.length) :
    n = rs.length ∧ ∃ b off, a = some ⟨b, off, none⟩ ∧ w.cell? ⟨b, off + k * 2, none⟩ = some (.int .i64 rs[k].1) ∧ w.cell? ⟨b, off + k * 2 + 1, none⟩ = some (.int .i64 (rs[k].2 : Int)) ∧ w.frozen? ⟨b, off + k * 2, none⟩ = false ∧ w.frozen? ⟨b, off + k * 2 + 1, none⟩ = false ∧ F b ∧ b ≠ g ∧ b < w.heap.size := by
  obtain ⟨h1, h2⟩ := h.sl
  rcases h2 with ⟨_, h0⟩ | ⟨b, off, cap, e0, _, hb, hn, _, h3, h4⟩
  · omega
  · cases e0
    obtain ⟨hf, hne⟩ := h.own.2.2 b rfl
    obtain ⟨x1, x2⟩ := hv_at rs k hk
    refine ⟨rfl, b, off, rfl, (h3 (k * 2) (by omega)).trans x1, ?_, (h4 (k * 2) (by omega)).2, ?_, hf, hne, hb⟩
    · rw [Nat.add_assoc]; exact (h3 (k * 2 + 1) (by omega)).trans x2
    · rw [Nat.add_assoc]; exact (h4 (k * 2 + 1) (by omega)).2
end Go.Proofs.Ythpnkjnieljdiaa
