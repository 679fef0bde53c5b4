/- What the last statements of layer 24 say first: a source of nothing ends at once. -/
import Derived.Test.YtoecikeleoaecaaGreatPlays
namespace Go.Proofs.YtoecikeleoaecaaGreat
set_option maxRecDepth 4000
open Go.ChangeShapes Go.WideShapes Go.ChangeAt Go.RowKit
open PHist PRing PSat PClamp PBound PFrame PVar PCrc PSign PTree PEv
set_option linter.unusedVariables false
set_option linter.unusedSimpArgs false

theorem rowu_one {w : World} {g : Nat} (h : At w g [.int .i64 0, .int .i64 0, .int .i64 0, .int .i64 0, .int .i64 0]) : RowU w (some ⟨g, 0, none⟩) [⟨0, 0, 0, 0, 0⟩] :=
  ⟨fun i hi => ⟨g, 0, rfl, h.1, fun j hj => by
    have hi0 : i = 0 := by simp at hi; exact hi
    subst hi0
    rw [show 0 + 0 * 5 + j = j by omega, (h.2 j hj).1]
    show _ = ([.int .i64 0, .int .i64 0, .int .i64 0, .int .i64 0, .int .i64 0] : List Value)[j]?
    rw [List.getElem?_eq_getElem hj]⟩⟩
theorem rows_one {w : World} {g : Nat} (h : At w g [.string ⟨#[]⟩]) : RowS w (some ⟨g, 0, none⟩) [⟨#[]⟩] :=
  ⟨fun i hi => ⟨g, 0, rfl, h.1, by
    have hi0 : i = 0 := by simp at hi; exact hi
    subst hi0
    exact (h.2 0 (by simp)).1⟩⟩
def OneP (w : World) (e : Ending) (w' : World) : Prop := ∃ a c, e = .returned (.tuple #[.slice a 1 c, .int .i64 0]) ∧ Below w.heap.size w w'
theorem one_evs : St.newE 1 [⟨0, 0, 0, 0, 0⟩] ([(⟨#[]⟩ : ByteArray)].map fun s => s.data.toList) ++ (St.new 1 0 [⟨0, 0, 0, 0, 0⟩] ([(⟨#[]⟩ : ByteArray)].map fun s => s.data.toList)).runE [] = [.mark 9223372036854775807] := by
  show St.newE 1 [⟨0, 0, 0, 0, 0⟩] [[]] ++ [] = _
  rw [List.append_nil, one_new]
theorem OneP.of {w w' : World} {e : Ending} (h : PlayPost (St.newE 1 [⟨0, 0, 0, 0, 0⟩] ([(⟨#[]⟩ : ByteArray)].map fun s => s.data.toList) ++ (St.new 1 0 [⟨0, 0, 0, 0, 0⟩] ([(⟨#[]⟩ : ByteArray)].map fun s => s.data.toList)).runE []) w e w') : OneP w e w' := by
  obtain ⟨v, h1, q1, q2⟩ := h
  rw [one_evs] at q1
  obtain ⟨a, c, hv⟩ := q1.shape
  subst hv
  exact ⟨a, c, h1, q2⟩
theorem fits0 : ∀ r ∈ [(⟨0, 0, 0, 0, 0⟩ : Rul)], r.Fits := fun r hr => by
  rw [List.mem_singleton.1 hr]
  exact ⟨by show in64 0; unfold in64; omega, by show in64 0; unfold in64; omega, by show in64 0; unfold in64; omega, by show in64 0; unfold in64; omega, by show in64 0; unfold in64; omega⟩
theorem small0 : ∀ s ∈ [(⟨#[]⟩ : ByteArray)], s.size ≤ 400 := fun s hs => by
  rw [List.mem_singleton.1 hs]
  exact Nat.zero_le _
theorem one_so (w : World) (g1 g2 : Nat) (h1 : At w g1 [.int .i64 0, .int .i64 0, .int .i64 0, .int .i64 0, .int .i64 0]) (h2 : At w g2 [.string ⟨#[]⟩]) : Calls Tryz.prog 16 #[.agg #[.slice (some ⟨g1, 0, none⟩) 1 1, .int .i64 1, .int .i64 0], .slice (some ⟨g2, 0, none⟩) 1 1, .slice none 0 0] w (OneP w) :=
  (so_play [⟨0, 0, 0, 0, 0⟩] 1 0 [⟨#[]⟩] [] (some ⟨g1, 0, none⟩) 1 1 (some ⟨g2, 0, none⟩) 1 1 none 0 0 _ (rowu_one h1) (rows_one h2) ⟨fun i hi => (Nat.not_lt_zero _ hi).elim⟩ rfl rfl rfl one_nerr (by omega) fits0 (by unfold in64; omega) (by unfold in64; omega) small0 (fun x hx => by cases hx) (by omega)).mono fun e w' h => OneP.of h
theorem one_mo (w : World) (g1 g2 : Nat) (h1 : At w g1 [.int .i64 0, .int .i64 0, .int .i64 0, .int .i64 0, .int .i64 0]) (h2 : At w g2 [.string ⟨#[]⟩]) : Calls Tryz.prog 34 #[.agg #[.slice (some ⟨g1, 0, none⟩) 1 1, .int .i64 1, .int .i64 0], .slice (some ⟨g2, 0, none⟩) 1 1, .slice none 0 0] w (OneP w) :=
  (mo_play [⟨0, 0, 0, 0, 0⟩] 1 0 [⟨#[]⟩] [] (some ⟨g1, 0, none⟩) 1 1 (some ⟨g2, 0, none⟩) 1 1 none 0 0 _ (rowu_one h1) (rows_one h2) ⟨fun i hi => (Nat.not_lt_zero _ hi).elim⟩ rfl rfl rfl one_nerr (by omega) fits0 (by unfold in64; omega) (by unfold in64; omega) small0 (fun x hx => by cases hx) (by omega)).mono fun e w' h => OneP.of h
set_option maxHeartbeats 2000000 in
theorem none12 (w : World) : Calls Tryz.prog 38 #[] w fun e w' => e = .returned (.bool true) ∧ Below w.heap.size w w' := by
  have e := fun (w : World) (o : Obj) => (Below.refl w.heap.size w).alloc (Nat.le_refl _) o
  have hR := (At.alloc w [.int .i64 0, .int .i64 0, .int .i64 0, .int .i64 0, .int .i64 0] 55).on (e _ (.cells #[.slice (some ⟨w.heap.size, 0, none⟩) 1 1, .int .i64 1, .int .i64 0] 24))
  have hC := At.alloc (w.alloc (.cells #[.int .i64 0, .int .i64 0, .int .i64 0, .int .i64 0, .int .i64 0] 55)) [.slice (some ⟨w.heap.size, 0, none⟩) 1 1, .int .i64 1, .int .i64 0] 24
  rw [World.size_alloc] at hC
  have hB := on_below (e w (.cells #[.int .i64 0, .int .i64 0, .int .i64 0, .int .i64 0, .int .i64 0] 55)) (e _ (.cells #[.slice (some ⟨w.heap.size, 0, none⟩) 1 1, .int .i64 1, .int .i64 0] 24))
  go_enter Tryz.func38, Tryz.ntmps38
  go_upto_region 2 with fail
  generalize (w.alloc (.cells #[.int .i64 0, .int .i64 0, .int .i64 0, .int .i64 0, .int .i64 0] 55)).alloc (.cells #[.slice (some ⟨w.heap.size, 0, none⟩) 1 1, .int .i64 1, .int .i64 0] 24) = w2 at *
  obtain ⟨-, p0, -, p1, -, p2, -⟩ := hC.three
  have hb3 := e w2 (.cells #[.string ⟨#[]⟩] 9)
  have H1 := Lib.hid (one_so _ _ _ (hR.on hb3) (At.alloc w2 [.string ⟨#[]⟩] 9))
  go_upto_region 3 with (first | (go_at_call 16; (with_reducible refine H1.out.mono ?_); intro e4 w4 hY; obtain ⟨a4, c4, rfl, hb4⟩ := hY; obtain ⟨-, q0, -, q1, -, q2, -⟩ := ((hC.on hb3).on hb4).three) | fail)
  have hb34 := on_below hb3 hb4
  have hR4 := hR.on hb34
  have hb5 := e w4 (.cells #[.string ⟨#[]⟩] 9)
  have H2 := Lib.hid (one_mo _ _ _ (hR4.on hb5) (At.alloc w4 [.string ⟨#[]⟩] 9))
  have hB4 := Lib.hid (on_below hB hb34)
  clear p0 p1 p2 H1 hR hR4 hC hB hb34 hb3 hb4
  go_wp2_with (first | (go_at_call 34; (with_reducible refine H2.out.mono ?_); intro e6 w6 hY; obtain ⟨a6, c6, rfl, hb6⟩ := hY) | fail)
  go_ret
  exact ⟨rfl, on_below hB4.out (on_below hb5 hb6)⟩
end Go.Proofs.YtoecikeleoaecaaGreat
