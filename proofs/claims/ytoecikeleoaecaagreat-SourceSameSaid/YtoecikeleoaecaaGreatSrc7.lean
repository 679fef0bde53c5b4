/- Contracts of source's calls: Over. -/
import Derived.Test.YtoecikeleoaecaaGreatSrc6
namespace Go.Proofs.YtoecikeleoaecaaGreat
set_option maxRecDepth 4000
open Go.ChangeShapes Go.WideShapes Go.ChangeAt Go.RowKit
open PHist PRing PSat PClamp PBound PFrame PVar PCrc PSign PTree PEv
set_option linter.unusedVariables false
set_option linter.unusedSimpArgs false

set_option maxHeartbeats 1000000 in
theorem so_over1 (cu st : Nat) (t : TypeId) (y : Value) (s tt d : Int) (o : Bool) (w : World) (h : IdleC w st s tt d) (h0 : 0 ≤ s ∧ s ≤ 3) (ho : decide (2 ≤ s) = o) :
    Calls Tryz.prog 75 #[.agg #[.pointer (some ⟨cu, 0, none⟩), .iface t y, .pointer (some ⟨st, 0, none⟩)]] w fun e w' => e = .returned (.bool (!o)) ∧ Below w.heap.size w w' := by
  have hb0 : Below w.heap.size w (w.alloc (.cells #[.pointer (some ⟨cu, 0, none⟩), .iface t y, .pointer (some ⟨st, 0, none⟩)] 106)) := (Below.refl _ _).alloc (Nat.le_refl _) _
  have HO := Lib.hid (id_over st s tt d _ (h.on hb0) h0)
  rw [ho] at HO
  clear h h0 ho
  go_enter Tryz.func75, Tryz.ntmps75
  go_wp2_with (first | (go_at_call 71; (with_reducible refine HO.out.mono ?_); rintro e w1 ⟨rfl, rfl⟩))
  go_ret
  exact ⟨rfl, hb0⟩
def IdxPost (x : Lo) (w : World) (e : Ending) (w' : World) : Prop := ∃ z : Int, e = .returned (.int .i64 z) ∧ (0 ≤ z ↔ ∃ j, j < x.n ∧ x.is j < 2) ∧ Below w.heap.size w w'
set_option maxHeartbeats 2000000 in
theorem so_index (tag : Nat → Nat) (W : Nat → Nat → Prop) (ev : Value) (V : SrcV) (g : Nat) (x : Lo) (w : World) (h : SrcC w tag W ev V g x) (hm : x.n ≤ x.m) (hs : ∀ j, j < x.n → 0 ≤ x.is j ∧ x.is j ≤ 3) :
    Calls Tryz.prog 122 #[V.pv, .func (.func 75) #[] #[]] w (IdxPost x w) := by
  obtain ⟨a, c, hpv, hnc, hmx⟩ := h.len
  have hnm : x.n ≤ 1000000 := Nat.le_trans hm h.small
  have HH := Lib.hid h
  have HS := Lib.hid hs
  rw [hpv]
  have HPV := Lib.hid hpv
  clear h hpv hs
  generalize hN : x.n = n at *
  have HN := Lib.hid hN
  clear hN
  go_enter Tryz.func122, Tryz.ntmps122
  go_wp2
  go_loopw [8] (fun i wr => ∃ k : Nat, k ≤ n ∧ i = .int .i64 k ∧ Below w.heap.size w wr ∧ Hid (∀ j, j < k → 2 ≤ x.is j)) (fun i _ => n - (intOf i).toNat)
  case atStart => exact ⟨0, Nat.zero_le _, rfl, Below.refl _ _, fun j h => (Nat.not_lt_zero _ h).elim⟩
  case round =>
    obtain ⟨k, hk, rfl, hb, hall⟩ := hrel
    by_cases hlt : k < n
    · have hS := HH.out.on hb
      have hkx : k < x.n := by rw [HN.out]; exact hlt
      obtain ⟨gp, off, cap, hpv, hcc, hgp, hne, p0, p1, p2⟩ := hS.part k hkx
      rw [HPV.out, HN.out] at hpv
      simp only [Value.slice.injEq] at hpv
      obtain ⟨rfl, -, rfl⟩ := hpv
      have hst := hS.sta k hkx
      have hr := HS.out k hlt
      clear hS
      by_cases h2 : (2 : Int) ≤ x.is k
      · have HO := Lib.hid (so_over1 (V.cu k) (V.st k) (V.ty k) (.pointer (some ⟨V.wy k, 0, none⟩)) _ _ _ true wr hst hr (decide_eq_true h2))
        have HX := Lib.hid h2
        clear hst hr h2
        go_wp2_with (first | (go_at_call 75; (with_reducible refine HO.out.mono ?_); rintro e w2 ⟨rfl, hb2⟩; have hb3 := on_below hb hb2))
        go_roundw
        case rel => exact ⟨k + 1, by omega, by go_num, hb3, fun j hj => by
          by_cases e : j = k
          · subst e; exact HX.out
          · exact hall.out j (by omega)⟩
        case measure => simp [intOf]; omega
      · have HO := Lib.hid (so_over1 (V.cu k) (V.st k) (V.ty k) (.pointer (some ⟨V.wy k, 0, none⟩)) _ _ _ false wr hst hr (decide_eq_false h2))
        have HX := Lib.hid h2
        clear hst hr h2
        go_wp2_with (first | (go_at_call 75; (with_reducible refine HO.out.mono ?_); rintro e w2 ⟨rfl, hb2⟩; have hb3 := on_below hb hb2))
        go_ret
        exact ⟨_, rfl, ⟨fun _ => ⟨k, by rw [HN.out]; exact hlt, by have := HX.out; omega⟩, fun _ => by omega⟩, hb3⟩
    · obtain rfl : k = n := by omega
      go_wp2
      go_ret
      exact ⟨_, rfl, ⟨fun h => by omega, fun ⟨j, h1, h2⟩ => by rw [HN.out] at h1; have := hall.out j h1; omega⟩, hb⟩
theorem over_iff {x : Lo} {o : Bool} {z : Int} (ho : o = true ↔ ∀ j, j < x.n → 2 ≤ x.is j) (hz : 0 ≤ z ↔ ∃ j, j < x.n ∧ x.is j < 2) : (!o) = decide (0 ≤ z) := by
  rw [Bool.eq_iff_iff, decide_eq_true_iff, hz, Bool.not_eq_true', ← Bool.not_eq_true, ho]
  constructor
  · intro h
    apply Classical.byContradiction
    intro hn
    exact h fun j hj => by
      apply Classical.byContradiction
      intro h2
      exact hn ⟨j, hj, by omega⟩
  · intro ⟨j, h1, h2⟩ h
    have := h j h1
    omega
set_option maxHeartbeats 1000000 in
theorem so_over (tag : Nat → Nat) (W : Nat → Nat → Prop) (ev : Value) (V : SrcV) (g : Nat) (x : Lo) (o : Bool) (w : World) (h : SrcC w tag W ev V g x) (hm : x.n ≤ x.m) (hs : ∀ j, j < x.n → 0 ≤ x.is j ∧ x.is j ≤ 3) (ho : o = true ↔ ∀ j, j < x.n → 2 ≤ x.is j) :
    Calls Tryz.prog 31 #[.pointer (some ⟨g, 0, none⟩)] w fun e w' => e = .returned (.bool o) ∧ Below w.heap.size w w' := by
  have HC : Hid (Calls Tryz.prog 74 #[V.pv, .func (.func 75) #[] #[]] w fun e w' => e = .returned (.bool (!o)) ∧ Below w.heap.size w w') := by
    have HI := Lib.hid (so_index tag W ev V g x w h hm hs)
    have HO := Lib.hid ho
    clear h hm hs ho
    generalize V.pv = pv at *
    show Calls Tryz.prog 74 #[pv, .func (.func 75) #[] #[]] w fun e w' => e = .returned (.bool (!o)) ∧ Below w.heap.size w w'
    go_enter Tryz.func74, Tryz.ntmps74
    go_wp2_with (first | (go_at_call 122; (with_reducible refine HI.out.mono ?_); intro e w1 hI; obtain ⟨z, rfl, hz, hb⟩ := hI; have hzo := Lib.hid (over_iff HO.out hz); clear hz))
    go_ret
    exact ⟨ret_bool hzo.out.symm, hb⟩
  obtain ⟨hg, c0, z0, c1, z1, c2, z2, c3, z3, c4, z4, c5, z5⟩ := h.blk.cells6
  clear h hm hs ho
  go_enter Tryz.func31, Tryz.ntmps31
  go_wp2_with (first | (go_at_call 74; (with_reducible refine HC.out.mono ?_); rintro e w1 ⟨rfl, hb⟩))
  go_ret
  exact ⟨ret_bool (by simp), hb⟩
end Go.Proofs.YtoecikeleoaecaaGreat
