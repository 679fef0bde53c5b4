/- A source, and what is told of each of its partitions. -/
import Derived.Test.YtoecikeleoaecaaGreatRefR
namespace Go.Proofs.YtoecikeleoaecaaGreat
set_option maxRecDepth 4000
open Go.ChangeShapes Go.WideShapes Go.ChangeAt Go.RowKit
open PHist PRing PSat PClamp PBound PFrame PVar PCrc PSign PTree PEv
set_option linter.unusedVariables false
set_option linter.unusedSimpArgs false

/-- Are the first k over? -/
def St.allOver (s : St) : Nat → Bool
  | 0 => true
  | k + 1 => s.allOver k && decide (1 < ss s.ps k)
theorem allOver_iff (s : St) : ∀ k, s.allOver k = true ↔ ∀ j, j < k → 2 ≤ ss s.ps j
  | 0 => Iff.intro (fun _ j hj => (Nat.not_lt_zero _ hj).elim) (fun _ => rfl)
  | k + 1 => by
    unfold St.allOver
    simp only [Bool.and_eq_true, decide_eq_true_eq]
    rw [allOver_iff s k]
    constructor
    · rintro ⟨h1, h2⟩ j hj
      by_cases e : j = k
      · subst e; omega
      · exact h1 j (by omega)
    · intro h
      exact ⟨fun j hj => h j (by omega), by have := h k (by omega); omega⟩
section
variable {w0 w : World} {tag : Nat → Nat} {W : Nat → Nat → Prop} {ev : Value} {V : SrcV} {g : Nat} {s : St} {evs : List Ev} {beg : Nat}
theorem SrcI.at_count (h : SrcI w0 w tag W ev V g s evs beg) (i : Nat) (hi : i < s.ps.length) (z : Nat) (hz : (pat s.ps i).read = z) : Calls Tryz.prog 26 #[.pointer (some ⟨g, 0, none⟩), .int .i64 i] w fun e w' => e = .returned (.int .i64 z) ∧ w = w' :=
  so_count tag W ev V g _ i _ w h.src (by rw [if_pos ⟨by omega, by show (i : Int) < (s.ps.length : Nat); omega⟩, Int.toNat_natCast, ← hz]; rfl)
theorem SrcI.at_status (h : SrcI w0 w tag W ev V g s evs beg) (i : Nat) (hi : i < s.ps.length) (z : Int) (hz : (pat s.ps i).is = z) : Calls Tryz.prog 25 #[.pointer (some ⟨g, 0, none⟩), .int .i64 i] w fun e w' => e = .returned (.int .i64 z) ∧ w = w' := by
  rw [← hz]; exact h.status i hi
theorem SrcI.at_mark (h : SrcI w0 w tag W ev V g s evs beg) (i : Nat) (hi : i < s.ps.length) (z : Int) (hz : (pat s.ps i).mark = z) : Calls Tryz.prog 27 #[.pointer (some ⟨g, 0, none⟩), .int .i64 i] w fun e w' => e = .returned (.int .i64 z) ∧ w = w' :=
  so_mark tag W ev V g _ i _ w h.src (by rw [if_pos ⟨by omega, by show (i : Int) < (s.ps.length : Nat); omega⟩, Int.toNat_natCast, ← hz]; rfl)
theorem SrcI.at_refused (h : SrcI w0 w tag W ev V g s evs beg) (i : Int) (o : Bool) (ho : s.refused i = o) : Calls Tryz.prog 29 #[.pointer (some ⟨g, 0, none⟩), .int .i64 i] w fun e w' => e = .returned (.bool o) ∧ Below w.heap.size w w' :=
  (so_refused tag W ev V g _ i o w h.src (Nat.le_refl _) h.is ho).mono fun e w' k => ⟨k.1, on_quiet k.2⟩
theorem SrcI.at_over (h : SrcI w0 w tag W ev V g s evs beg) : Calls Tryz.prog 31 #[.pointer (some ⟨g, 0, none⟩)] w fun e w' => e = .returned (.bool (s.allOver s.ps.length)) ∧ Below w.heap.size w w' :=
  so_over tag W ev V g _ _ w h.src (Nat.le_refl _) h.is (allOver_iff s _)
theorem SrcI.no_count (h : SrcI w0 w tag W ev V g s evs beg) (i : Int) (hi : ¬ (0 ≤ i ∧ i < s.ps.length)) : Calls Tryz.prog 26 #[.pointer (some ⟨g, 0, none⟩), .int .i64 i] w fun e w' => e = .returned (.int .i64 0) ∧ w = w' :=
  so_count tag W ev V g _ i _ w h.src (if_neg hi)
theorem SrcI.no_status (h : SrcI w0 w tag W ev V g s evs beg) (i : Int) (hi : ¬ (0 ≤ i ∧ i < s.ps.length)) : Calls Tryz.prog 25 #[.pointer (some ⟨g, 0, none⟩), .int .i64 i] w fun e w' => e = .returned (.int .i64 (-1)) ∧ w = w' :=
  so_status tag W ev V g _ i _ w h.src (if_neg hi)
theorem SrcI.no_mark (h : SrcI w0 w tag W ev V g s evs beg) (i : Int) (hi : ¬ (0 ≤ i ∧ i < s.ps.length)) : Calls Tryz.prog 27 #[.pointer (some ⟨g, 0, none⟩), .int .i64 i] w fun e w' => e = .returned (.int .i64 0) ∧ w = w' :=
  so_mark tag W ev V g _ i _ w h.src (if_neg hi)
end
theorem refused_out (s : St) (i : Int) (hi : ¬ (0 ≤ i ∧ i < s.ps.length)) : s.refused i = true := by
  unfold St.refused
  rw [decide_eq_true hi]; rfl
theorem case_ok {rs : List Rul} {t d : Int} {ls : List ByteArray} {m : Nat} (hm : m = ls.length) (hz : nerr rs t d m = 0) (h8 : m ≤ 8) (hf : ∀ r ∈ rs, r.Fits) (ht : in64 t) (hd : in64 d) (hs : ∀ s ∈ ls, s.size ≤ 400) : (St.new t d rs (ls.map fun s => s.data.toList)).Ok := by
  obtain ⟨hc0, hmn⟩ := nerr_zero hz
  have ht1 := ccheck_t hc0
  exact new_ok (by rw [List.length_map]; omega) (by omega) (fun r hr => ⟨ccheck_ok hc0 r hr, hf r hr⟩) (fun l hl => by
    obtain ⟨s, hs', rfl⟩ := List.mem_map.1 hl
    exact hs s hs') ⟨ht1.2.1, ht.2⟩ ⟨ht1.2.2, hd.2⟩
end Go.Proofs.YtoecikeleoaecaaGreat
