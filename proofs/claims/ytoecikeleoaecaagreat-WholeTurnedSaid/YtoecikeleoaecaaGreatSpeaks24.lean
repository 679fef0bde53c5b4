/- What layer 24's statements say first: one empty log. -/
import Derived.Test.YtoecikeleoaecaaGreatModC
import Derived.Test.YtoecikeleoaecaaGreatKCase
namespace Go.Proofs.YtoecikeleoaecaaGreat
set_option maxRecDepth 4000
open Go.ChangeShapes Go.WideShapes Go.ChangeAt Go.RowKit
open PHist PRing PSat PClamp PBound PFrame PVar PCrc PSign PTree PEv
set_option linter.unusedVariables false
set_option linter.unusedSimpArgs false

theorem one_now : (St.new 1 0 [⟨0, 0, 0, 0, 0⟩] [[]]).now = 9223372036854775807 := by
  have hp : Pt.raw 1 ⟨0, 0, 0, 0, 0⟩ [] = ⟨⟨0, 0, 0, 0, 0⟩, [], 0, 0, 0, 1⟩ := by unfold Pt.raw; rw [parse_nil]
  unfold St.new begun raws
  simp only [List.zipWith_cons_cons, List.zipWith_nil_right, hp, List.map_cons, List.map_nil]
  rfl
def OneM (w : World) (e : Ending) (w' : World) : Prop := ∃ ra rc a c ar cr k, e = .returned (.tuple #[.agg #[.slice ra 1 rc, .int .i64 1, .int .i64 0, .slice a 1 c, .int .i64 k, .int .i64 9223372036854775807], .slice ar 1 cr, .int .i64 0]) ∧ Below w.heap.size w w'
theorem one_newM (w : World) : Calls Tryz.prog 33 #[.agg #[.slice (some ⟨w.heap.size, 0, none⟩) 1 1, .int .i64 1, .int .i64 0], .slice (some ⟨w.heap.size + 1, 0, none⟩) 1 1]
    ((w.alloc (.cells #[.int .i64 0, .int .i64 0, .int .i64 0, .int .i64 0, .int .i64 0] 55)).alloc (.cells #[.string ⟨#[]⟩] 9)) (OneM w) := by
  obtain ⟨h1, h2, h3⟩ := one_row w
  refine (mo_new [⟨0, 0, 0, 0, 0⟩] 1 0 [⟨#[]⟩] (some ⟨w.heap.size, 0, none⟩) 1 1 (some ⟨w.heap.size + 1, 0, none⟩) 1 1 _ h1 h2 rfl rfl one_nerr (by omega) (fun r hr => ?_) (by unfold in64; omega) (by unfold in64; omega) (fun s hs => ?_)).mono fun e w' h => ?_
  · rw [List.mem_singleton.1 hr]
    exact ⟨by show in64 0; unfold in64; omega, by show in64 0; unfold in64; omega, by show in64 0; unfold in64; omega, by show in64 0; unfold in64; omega, by show in64 0; unfold in64; omega⟩
  · rw [List.mem_singleton.1 hs]
    exact Nat.zero_le _
  · obtain ⟨ra, rc, a, c, l, r, rfl, -, -, -, q1, q2, -⟩ := h
    have e1 : St.newE 1 [⟨0, 0, 0, 0, 0⟩] ([(⟨#[]⟩ : ByteArray)].map fun s => s.data.toList) = [.mark 9223372036854775807] := one_new
    have e2 : (St.new 1 0 [⟨0, 0, 0, 0, 0⟩] ([(⟨#[]⟩ : ByteArray)].map fun s => s.data.toList)).now = 9223372036854775807 := one_now
    rw [e1] at q1
    obtain ⟨ar, cr, hr⟩ := q1.shape
    subst hr
    rw [e2]
    exact ⟨ra, rc, a, c, ar, cr, _, rfl, on_below h3 q2⟩
theorem none_newM (w : World) : Calls Tryz.prog 33 #[.agg #[.slice none 0 0, .int .i64 0, .int .i64 0], .slice none 0 0] w fun e w' => e = .returned (.tuple #[.agg #[.slice none 0 0, .int .i64 0, .int .i64 0, .slice none 0 0, .int .i64 0, .int .i64 0], .slice none 0 0, .int .i64 6]) ∧ Below w.heap.size w w' :=
  mo_new_none [] 0 0 none 0 0 none 0 0 w ⟨fun i hi => (Nat.not_lt_zero _ hi).elim⟩ rfl (Nat.zero_le _) 6 none_nerr (by omega)
set_option maxHeartbeats 1000000 in
theorem speaks24 (w : World) : Calls Tryz.prog 32 #[] w fun e w' => e = .returned (.bool true) ∧ Below w.heap.size w w' := by
  have H1 := Lib.hid (one_newM w)
  have H2 := fun w => Lib.hid (none_newM w)
  have e := fun (w : World) (o : Obj) => (Below.refl w.heap.size w).alloc (Nat.le_refl _) o
  go_enter Tryz.func32, Tryz.ntmps32
  go_upto_region 2 with (first | (go_at_call 33; (with_reducible refine H1.out.mono ?_); intro e1 w1 h; obtain ⟨ra, rc, a, c, ar, cr, k, rfl, hb1⟩ := h) | fail)
  have hA := At.alloc w1 [.slice ra 1 rc, .int .i64 1, .int .i64 0, .slice a 1 c, .int .i64 k, .int .i64 9223372036854775807] 70
  have hba := e w1 (.cells #[.slice ra 1 rc, .int .i64 1, .int .i64 0, .slice a 1 c, .int .i64 k, .int .i64 9223372036854775807] 70)
  have hb2 := on_below hb1 hba
  clear hba H1
  generalize w1.alloc (.cells #[.slice ra 1 rc, .int .i64 1, .int .i64 0, .slice a 1 c, .int .i64 k, .int .i64 9223372036854775807] 70) = w2 at *
  go_upto_region 3 with (first | (go_at_call 33; (with_reducible refine (H2 _).out.mono ?_); rintro e1 w3 ⟨rfl, hb3⟩) | fail)
  have hba := e w3 (.cells #[.slice none 0 0, .int .i64 0, .int .i64 0, .slice none 0 0, .int .i64 0, .int .i64 0] 70)
  have hb4 := on_below (on_below hb2 hb3) hba
  have hA4 := (hA.on hb3).on hba
  clear hA hba hb3 hb2
  generalize w3.alloc (.cells #[.slice none 0 0, .int .i64 0, .int .i64 0, .slice none 0 0, .int .i64 0, .int .i64 0] 70) = w4 at *
  obtain ⟨-, p0, -, p1, -, p2, -, p3, -, p4, -, p5, -⟩ := hA4.cells6
  go_wp2_with fail
  go_ret
  exact ⟨rfl, hb4⟩
theorem one_playM (w : World) : Calls Tryz.prog 34 #[.agg #[.slice (some ⟨w.heap.size, 0, none⟩) 1 1, .int .i64 1, .int .i64 0], .slice (some ⟨w.heap.size + 1, 0, none⟩) 1 1, .slice none 0 0]
    ((w.alloc (.cells #[.int .i64 0, .int .i64 0, .int .i64 0, .int .i64 0, .int .i64 0] 55)).alloc (.cells #[.string ⟨#[]⟩] 9)) (fun e w' => ∃ a c, e = .returned (.tuple #[.slice a 1 c, .int .i64 0]) ∧ Below w.heap.size w w') := by
  obtain ⟨h1, h2, h3⟩ := one_row w
  refine (mo_play [⟨0, 0, 0, 0, 0⟩] 1 0 [⟨#[]⟩] [] (some ⟨w.heap.size, 0, none⟩) 1 1 (some ⟨w.heap.size + 1, 0, none⟩) 1 1 none 0 0 _ h1 h2 ⟨fun i hi => (Nat.not_lt_zero _ hi).elim⟩ rfl rfl rfl one_nerr (by omega) (fun r hr => ?_) (by unfold in64; omega) (by unfold in64; omega) (fun s hs => ?_) (fun x hx => by cases hx) (by omega)).mono fun e w' h => ?_
  · rw [List.mem_singleton.1 hr]
    exact ⟨by show in64 0; unfold in64; omega, by show in64 0; unfold in64; omega, by show in64 0; unfold in64; omega, by show in64 0; unfold in64; omega, by show in64 0; unfold in64; omega⟩
  · rw [List.mem_singleton.1 hs]
    exact Nat.zero_le _
  · obtain ⟨v, rfl, q1, q2⟩ := h
    have e1 : St.newE 1 [⟨0, 0, 0, 0, 0⟩] ([(⟨#[]⟩ : ByteArray)].map fun s => s.data.toList) ++ (St.new 1 0 [⟨0, 0, 0, 0, 0⟩] ([(⟨#[]⟩ : ByteArray)].map fun s => s.data.toList)).runE [] = [.mark 9223372036854775807] := by
      show St.newE 1 [⟨0, 0, 0, 0, 0⟩] [[]] ++ [] = _
      rw [List.append_nil, one_new]
    rw [e1] at q1
    obtain ⟨a, c, hv⟩ := q1.shape
    subst hv
    exact ⟨a, c, rfl, on_below h3 q2⟩
end Go.Proofs.YtoecikeleoaecaaGreat
