/- What layer 23's statements say first: one empty log. -/
import Derived.Test.YtoecikeleoaecaaGreatCase23
namespace Go.Proofs.YtoecikeleoaecaaGreat
set_option maxRecDepth 4000
open Go.ChangeShapes Go.WideShapes Go.ChangeAt Go.RowKit
open PHist PRing PSat PClamp PBound PFrame PVar PCrc PSign PTree PEv
set_option linter.unusedVariables false
set_option linter.unusedSimpArgs false

def OnePost (w : World) (e : Ending) (w' : World) : Prop := ∃ g off c, e = .returned (.tuple #[.slice (some ⟨g, off, none⟩) 1 c, .int .i64 0]) ∧ g < w'.heap.size ∧ 1 ≤ c ∧ w'.cell? ⟨g, off, none⟩ = some (.iface 65 (.agg #[.int .i64 9223372036854775807])) ∧ Below w.heap.size w w'
theorem one_row (w : World) : RowU ((w.alloc (.cells #[.int .i64 0, .int .i64 0, .int .i64 0, .int .i64 0, .int .i64 0] 55)).alloc (.cells #[.string ⟨#[]⟩] 9)) (some ⟨w.heap.size, 0, none⟩) [⟨0, 0, 0, 0, 0⟩] ∧
    RowS ((w.alloc (.cells #[.int .i64 0, .int .i64 0, .int .i64 0, .int .i64 0, .int .i64 0] 55)).alloc (.cells #[.string ⟨#[]⟩] 9)) (some ⟨w.heap.size + 1, 0, none⟩) [⟨#[]⟩] ∧ Below w.heap.size w ((w.alloc (.cells #[.int .i64 0, .int .i64 0, .int .i64 0, .int .i64 0, .int .i64 0] 55)).alloc (.cells #[.string ⟨#[]⟩] 9)) := by
  have h1 := (At.alloc w [.int .i64 0, .int .i64 0, .int .i64 0, .int .i64 0, .int .i64 0] 55).on ((Below.refl _ _).alloc (Nat.le_refl _) (.cells #[.string ⟨#[]⟩] 9))
  have h2 := At.alloc (w.alloc (.cells #[.int .i64 0, .int .i64 0, .int .i64 0, .int .i64 0, .int .i64 0] 55)) [.string ⟨#[]⟩] 9
  rw [World.size_alloc] at h2
  refine ⟨⟨fun i hi => ⟨w.heap.size, 0, rfl, h1.1, fun j hj => ?_⟩⟩, ⟨fun i hi => ⟨w.heap.size + 1, 0, rfl, h2.1, ?_⟩⟩, ((Below.refl _ _).alloc (Nat.le_refl _) _).alloc (by simp) _⟩
  · have hi0 : i = 0 := by simp at hi; exact hi
    subst hi0
    rw [show 0 + 0 * 5 + j = j by omega, (h1.2 j hj).1]
    show _ = ([.int .i64 0, .int .i64 0, .int .i64 0, .int .i64 0, .int .i64 0] : List Value)[j]?
    rw [List.getElem?_eq_getElem hj]
  · have hi0 : i = 0 := by simp at hi; exact hi
    subst hi0
    exact (h2.2 0 (by simp)).1
theorem one_play (w : World) : Calls Tryz.prog 16 #[.agg #[.slice (some ⟨w.heap.size, 0, none⟩) 1 1, .int .i64 1, .int .i64 0], .slice (some ⟨w.heap.size + 1, 0, none⟩) 1 1, .slice none 0 0]
    ((w.alloc (.cells #[.int .i64 0, .int .i64 0, .int .i64 0, .int .i64 0, .int .i64 0] 55)).alloc (.cells #[.string ⟨#[]⟩] 9)) (OnePost w) := by
  obtain ⟨h1, h2, h3⟩ := one_row w
  refine (so_play [⟨0, 0, 0, 0, 0⟩] 1 0 [⟨#[]⟩] [] (some ⟨w.heap.size, 0, none⟩) 1 1 (some ⟨w.heap.size + 1, 0, none⟩) 1 1 none 0 0 _ h1 h2 ⟨fun i hi => (Nat.not_lt_zero _ hi).elim⟩ rfl rfl rfl one_nerr (by omega) (fun r hr => ?_) (by unfold in64; omega) (by unfold in64; omega) (fun s hs => ?_) (fun x hx => by cases hx) (by omega)).mono fun e w' h => ?_
  · rw [List.mem_singleton.1 hr]
    exact ⟨by show in64 0; unfold in64; omega, by show in64 0; unfold in64; omega, by show in64 0; unfold in64; omega, by show in64 0; unfold in64; omega, by show in64 0; unfold in64; omega⟩
  · rw [List.mem_singleton.1 hs]
    exact Nat.zero_le _
  · obtain ⟨v, rfl, q1, q2⟩ := h
    have e1 : St.newE 1 [⟨0, 0, 0, 0, 0⟩] ([(⟨#[]⟩ : ByteArray)].map fun s => s.data.toList) ++ (St.new 1 0 [⟨0, 0, 0, 0, 0⟩] ([(⟨#[]⟩ : ByteArray)].map fun s => s.data.toList)).runE [] = [.mark 9223372036854775807] := by
      show St.newE 1 [⟨0, 0, 0, 0, 0⟩] [[]] ++ [] = _
      rw [List.append_nil, one_new]
    rw [e1] at q1
    obtain ⟨g, off, c, rfl, hg, hg2, hc⟩ := q1.at_ (by simp)
    exact ⟨g, off, c, rfl, hg2, (sl_cap_n q1).1, (by have := hc 0 (by simp); simpa [evv] using this), on_below h3 q2⟩
theorem none_play (w : World) : Calls Tryz.prog 16 #[.agg #[.slice none 0 0, .int .i64 0, .int .i64 0], .slice none 0 0, .slice none 0 0] w fun e w' => e = .returned (.tuple #[.slice none 0 0, .int .i64 6]) ∧ Below w.heap.size w w' :=
  so_play_none [] 0 0 [] none 0 0 none 0 0 (.slice none 0 0) w ⟨fun i hi => (Nat.not_lt_zero _ hi).elim⟩ rfl (Nat.zero_le _) rfl 6 none_nerr (by omega)
set_option maxHeartbeats 1000000 in
theorem speaks23 (w : World) : Calls Tryz.prog 12 #[] w fun e w' => e = .returned (.bool true) ∧ Below w.heap.size w w' := by
  have H1 := Lib.hid (one_play w)
  have H2 := fun w => Lib.hid (none_play w)
  have q := eq_mark 9223372036854775807
  go_enter Tryz.func12, Tryz.ntmps12
  go_wp2_with (first | (go_at_call 16; (with_reducible refine H1.out.mono ?_); intro e w1 h; obtain ⟨g, off, c, rfl, hg, hc, p0, hb1⟩ := h) | (go_at_call 16; (with_reducible refine (H2 _).out.mono ?_); rintro e w2 ⟨rfl, hb2⟩; have p1 := cell_kept hb2 p0))
  go_ret
  exact ⟨rfl, on_below hb1 hb2⟩
end Go.Proofs.YtoecikeleoaecaaGreat
