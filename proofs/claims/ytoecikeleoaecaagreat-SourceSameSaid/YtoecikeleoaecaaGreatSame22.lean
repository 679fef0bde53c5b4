/- Two rows of events that are one; rows from slices. -/
import Derived.Test.YtoecikeleoaecaaGreatKEvV
import Derived.Test.YtoecikeleoaecaaGreatCfgRow
namespace Go.Proofs.YtoecikeleoaecaaGreat
set_option maxRecDepth 4000
open Go.ChangeShapes Go.WideShapes Go.ChangeAt Go.RowKit
open PEv
set_option linter.unusedVariables false
set_option linter.unusedSimpArgs false

theorem flat_nth {α : Type} (f : α → List Value) (m : Nat) (hf : ∀ x, (f x).length = m) : ∀ (l : List α) (i : Nat) (hi : i < l.length) (j : Nat), j < m → (l.flatMap f)[i * m + j]? = (f l[i])[j]?
  | x :: l, 0, _, j, hj => by
    rw [List.flatMap_cons, Nat.zero_mul, Nat.zero_add, List.getElem?_append_left (by rw [hf]; exact hj)]; rfl
  | x :: l, i + 1, hi, j, hj => by
    rw [List.flatMap_cons, List.getElem?_append_right (by rw [hf, Nat.succ_mul]; omega), hf, show (i + 1) * m + j - m = i * m + j by rw [Nat.succ_mul]; omega]
    exact flat_nth f m hf l i (by simpa using hi) j hj
theorem rowg_of_sl {α : Type} {B : Nat} {w : World} {v : Value} {n m : Nat} {f : α → List Value} {l : List α} (h : Sl B w m v n (l.flatMap f)) (hn : n = l.length) (hf : ∀ x, (f x).length = m) : ∃ a c, v = .slice a n c ∧ RowG w m f a l := by
  subst hn
  rcases h.2 with ⟨rfl, h0⟩ | ⟨g, off, cap, rfl, hb, hg, h1, h2, h3, h4⟩
  · rw [h0]
    exact ⟨_, _, rfl, ⟨fun i hi => by omega⟩⟩
  · refine ⟨_, _, rfl, ⟨fun i hi => ⟨g, off, rfl, hg, fun j hj => ?_⟩⟩⟩
    have : i * m + j < l.length * m := Nat.lt_of_lt_of_le (by rw [Nat.succ_mul]; omega : i * m + j < (i + 1) * m) (Nat.mul_le_mul_right _ hi)
    rw [Nat.add_assoc, h3 _ this, flat_nth f m hf l i hi j hj]
theorem evc_is (x : Ev) : ∃ (a p k t : Int) (s : ByteArray) (b : Bool) (n e : Int), evc x = [.int .i64 a, .int .i64 p, .int .i64 k, .int .i64 t, .string s, .bool b, .int .i64 n, .int .i64 e] := by
  cases x <;> exact ⟨_, _, _, _, _, _, _, _, rfl⟩
theorem RowV.cells {w : World} {b off : Nat} {l : List Ev} (h : RowG w 8 evc (some ⟨b, off, none⟩) l) (i : Nat) (hi : i < l.length) {x0 x1 x2 x3 x4 x5 x6 x7 : Value} (he : evc l[i] = [x0, x1, x2, x3, x4, x5, x6, x7]) :
    b < w.heap.size ∧ w.cell? ⟨b, off + i * 8, none⟩ = some x0 ∧ w.cell? ⟨b, off + i * 8 + 1, none⟩ = some x1 ∧ w.cell? ⟨b, off + i * 8 + 2, none⟩ = some x2 ∧ w.cell? ⟨b, off + i * 8 + 3, none⟩ = some x3 ∧ w.cell? ⟨b, off + i * 8 + 4, none⟩ = some x4 ∧ w.cell? ⟨b, off + i * 8 + 5, none⟩ = some x5 ∧ w.cell? ⟨b, off + i * 8 + 6, none⟩ = some x6 ∧ w.cell? ⟨b, off + i * 8 + 7, none⟩ = some x7 := by
  obtain ⟨h1, h2⟩ := RowG.cell h i hi
  rw [he] at h2
  exact ⟨h1, h2 0 (by omega), h2 1 (by omega), h2 2 (by omega), h2 3 (by omega), h2 4 (by omega), h2 5 (by omega), h2 6 (by omega), h2 7 (by omega)⟩
set_option maxRecDepth 100000 in
set_option maxHeartbeats 4000000 in
/-- Two that are one. -/
theorem ref_same22 (l : List Ev) (a1 a2 : Option Addr) (n c1 c2 : Nat) (w : World) (hr1 : RowG w 8 evc a1 l) (hr2 : RowG w 8 evc a2 l) (hn : n = l.length) (hl : n ≤ 100000) :
    Calls Tryz.prog 17 #[.slice a1 n c1, .slice a2 n c2] w fun e w' => e = .returned (.bool true) ∧ Below w.heap.size w w' := by
  have HN := Lib.hid hn
  clear hn
  go_enter Tryz.func17, Tryz.ntmps17
  go_wp2
  go_loopw [5] (fun i wr => ∃ k m : Nat, k ≤ n ∧ i = .int .i64 k ∧ wr = w.drewN m) (fun i _ => n - (intOf i).toNat)
  case atStart => exact ⟨0, 0, Nat.zero_le _, rfl, rfl⟩
  case round =>
    obtain ⟨k, m, hk, rfl, rfl⟩ := hrel
    by_cases hlt : k < n
    · have hk1 : k < l.length := by rw [← HN.out]; exact hlt
      obtain ⟨b1, o1, rfl, -, -⟩ := hr1.at_ k hk1
      obtain ⟨b2, o2, rfl, -, -⟩ := hr2.at_ k hk1
      obtain ⟨x0, x1, x2, x3, x4, x5, x6, x7, he⟩ := evc_is l[k]
      obtain ⟨hbl1, p0, p1, p2, p3, p4, p5, p6, p7⟩ := RowV.cells hr1 k hk1 he
      obtain ⟨hbl2, r0, r1, r2, r3, r4, r5, r6, r7⟩ := RowV.cells hr2 k hk1 he
      clear hr1 hr2 he
      clear hk1
      go_wp2
      go_region
      go_wp2
      go_roundw
      case rel => exact ⟨k + 1, m + 1, by omega, by go_num, rfl⟩
      case measure => simp [intOf]; omega
    · have hkn : k = n := by omega
      subst hkn
      go_wp2
      go_ret
      exact ⟨rfl, (Below.refl _ _).upd ((Upd.refl (fun _ => False) _).drewN m) (Nat.le_refl _) (fun _ _ h => h.elim)⟩
end Go.Proofs.YtoecikeleoaecaaGreat
