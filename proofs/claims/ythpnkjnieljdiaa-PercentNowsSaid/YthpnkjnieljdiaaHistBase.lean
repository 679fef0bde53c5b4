/- What the numbers' cells hold: rows of a number and how often it is there. -/
import Derived.Test.YthpnkjnieljdiaaSub
import Derived.Test.YthpnkjnieljdiaaRingBase
import Derived.Deep.LoopGhost
namespace Go.Proofs.Ythpnkjnieljdiaa
open Go.ChangeShapes Go.WideShapes Go.ChangeAt Go.RowKit
set_option linter.unusedVariables false
set_option linter.unusedSimpArgs false

abbrev NR := Int × Nat
def hv : List NR → List Value
  | [] => []
  | r :: rs => .int .i64 r.1 :: .int .i64 (r.2 : Int) :: hv rs
theorem hv_len : ∀ rs : List NR, (hv rs).length = rs.length * 2
  | [] => rfl
  | r :: rs => by show (hv rs).length + 1 + 1 = (rs.length + 1) * 2; rw [hv_len rs]; omega
theorem hv_append : ∀ a b : List NR, hv (a ++ b) = hv a ++ hv b
  | [], _ => rfl
  | r :: a, b => by show _ :: _ :: hv (a ++ b) = _; rw [hv_append a b]; rfl
theorem hv_take : ∀ (rs : List NR) (i : Nat), (hv rs).take (i * 2) = hv (rs.take i)
  | [], i => by cases i <;> simp [hv]
  | r :: rs, 0 => by simp [hv]
  | r :: rs, i + 1 => by
    rw [show (i + 1) * 2 = i * 2 + 1 + 1 by omega]
    show ((.int .i64 r.1 :: .int .i64 (r.2 : Int) :: hv rs) : List Value).take (i * 2 + 1 + 1) = hv (r :: rs.take i)
    rw [List.take_succ_cons, List.take_succ_cons, hv_take rs i]
    rfl
theorem hv_drop : ∀ (rs : List NR) (i : Nat), (hv rs).drop (i * 2) = hv (rs.drop i)
  | [], i => by cases i <;> simp [hv]
  | r :: rs, 0 => by simp [hv]
  | r :: rs, i + 1 => by
    rw [show (i + 1) * 2 = i * 2 + 1 + 1 by omega]
    show ((.int .i64 r.1 :: .int .i64 (r.2 : Int) :: hv rs) : List Value).drop (i * 2 + 1 + 1) = hv (rs.drop i)
    rw [List.drop_succ_cons, List.drop_succ_cons, hv_drop rs i]
theorem hv_at : ∀ (rs : List NR) (i : Nat) (h : i < rs.length), (hv rs)[i * 2]? = some (.int .i64 rs[i].1) ∧ (hv rs)[i * 2 + 1]? = some (.int .i64 (rs[i].2 : Int))
  | r :: rs, 0, _ => ⟨rfl, rfl⟩
  | r :: rs, i + 1, h => by
    have := hv_at rs i (by simpa using h)
    rw [show (i + 1) * 2 = i * 2 + 1 + 1 by omega]
    exact this
theorem hv_set : ∀ (rs : List NR) (i : Nat) (h : i < rs.length) (t : Nat), (hv rs).set (i * 2 + 1) (.int .i64 (t : Int)) = hv (rs.set i (rs[i].1, t))
  | r :: rs, 0, _, t => rfl
  | r :: rs, i + 1, h, t => by
    have := hv_set rs i (by simpa using h) t
    rw [show (i + 1) * 2 + 1 = i * 2 + 1 + 1 + 1 by omega]
    show (.int .i64 r.1 :: .int .i64 (r.2 : Int) :: (hv rs).set (i * 2 + 1) _ : List Value) = _
    rw [this]
    rfl
theorem hv_one : ∀ (rs : List NR), ∀ u ∈ hv rs, u.oneCell' = true
  | [], u, h => by cases h
  | r :: rs, u, h => by
    have h' : u = .int .i64 r.1 ∨ u = .int .i64 (r.2 : Int) ∨ u ∈ hv rs := by simpa [hv] using h
    rcases h' with rfl | rfl | h'
    · rfl
    · rfl
    · exact hv_one rs u h'

/-- Block g is a row of numbers, as rows of the cells rs, held in v; all of it lies in blocks of F. -/
structure HistC (w : World) (F : Nat → Prop) (g : Nat) (v : Value) (m : Nat) (rs : List NR) : Prop where
  at_ : At w g [v, .int .i64 m]
  sl : Sl 0 w 2 v rs.length (hv rs)
  own : F g ∧ (∀ k, F k → k < w.heap.size) ∧ ∀ k, v.ownBlock = some k → F k ∧ k ≠ g
theorem HistC.upd {S : Nat → Prop} {w w' : World} {F : Nat → Prop} {g : Nat} {v : Value} {m : Nat} {rs : List NR} (h : HistC w F g v m rs) (hu : Upd S w w') (hn : ∀ k, F k → ¬ S k) : HistC w' F g v m rs :=
  ⟨h.at_.upd hu (hn g h.own.1), h.sl.upd hu (fun k hk => hn k (h.own.2.2 k hk).1), ⟨h.own.1, fun k hk => Nat.lt_of_lt_of_le (h.own.2.1 k hk) hu.size, h.own.2.2⟩⟩
theorem HistC.below {w w' : World} {F : Nat → Prop} {g : Nat} {v : Value} {m : Nat} {rs : List NR} (h : HistC w F g v m rs) (hb : Below w.heap.size w w') : HistC w' F g v m rs :=
  h.upd (S := fun k => w.heap.size ≤ k) (Upd.of_below hb (fun _ _ h => h)) (fun k hk => by have := h.own.2.1 k hk; omega)
theorem HistC.drewN {w : World} {F : Nat → Prop} {g : Nat} {v : Value} {m : Nat} {rs : List NR} (h : HistC w F g v m rs) (n : Nat) : HistC (w.drewN n) F g v m rs := h.upd (upd_drewN w n) (fun _ _ h => h)
theorem HistC.cell {w : World} {F : Nat → Prop} {g : Nat} {a : Option Addr} {n c m : Nat} {rs : List NR} (h : HistC w F g (.slice a n c) m rs) (k : Nat) (hk : k < rs.length) :
    n = rs.length ∧ ∃ b off, a = some ⟨b, off, none⟩ ∧ w.cell? ⟨b, off + k * 2, none⟩ = some (.int .i64 rs[k].1) ∧ w.cell? ⟨b, off + k * 2 + 1, none⟩ = some (.int .i64 (rs[k].2 : Int)) ∧ w.frozen? ⟨b, off + k * 2, none⟩ = false ∧ w.frozen? ⟨b, off + k * 2 + 1, none⟩ = false ∧ F b ∧ b ≠ g ∧ b < w.heap.size := by
  obtain ⟨h1, h2⟩ := h.sl
  rcases h2 with ⟨_, h0⟩ | ⟨b, off, cap, e0, _, hb, hn, _, h3, h4⟩
  · omega
  · cases e0
    obtain ⟨hf, hne⟩ := h.own.2.2 b rfl
    obtain ⟨x1, x2⟩ := hv_at rs k hk
    refine ⟨rfl, b, off, rfl, (h3 (k * 2) (by omega)).trans x1, ?_, (h4 (k * 2) (by omega)).2, ?_, hf, hne, hb⟩
    · rw [Nat.add_assoc]; exact (h3 (k * 2 + 1) (by omega)).trans x2
    · rw [Nat.add_assoc]; exact (h4 (k * 2 + 1) (by omega)).2

/-- The place of a number among the rows: before it the lesser ones. -/
def Place (rs : List NR) (n : Int) (i : Nat) : Prop := i ≤ rs.length ∧ (∀ t (h : t < rs.length), t < i → rs[t].1 < n) ∧ ∀ t (h : t < rs.length), i ≤ t → n ≤ rs[t].1
end Go.Proofs.Ythpnkjnieljdiaa
