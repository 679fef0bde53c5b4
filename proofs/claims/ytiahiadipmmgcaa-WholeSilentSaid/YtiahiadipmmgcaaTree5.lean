/- tree: Least and New. -/
import Derived.Test.YtiahiadipmmgcaaTree4
import Derived.BigRegion
namespace Go.Proofs.Ytiahiadipmmgcaa
set_option maxRecDepth 4000
open Go.ChangeShapes Go.WideShapes Go.ChangeAt Go.RowKit
open PTree
set_option linter.unusedVariables false
set_option linter.unusedSimpArgs false

set_option maxHeartbeats 1000000 in
theorem ti_least (F : Nat → Prop) (g n : Nat) (K : Nat → Int) (out : Nat → Bool) (w : World) (h : TreeI w F g n K out) (key place : Int) (ok : Bool) (hs : scan K out n = (key, place, ok)) :
    Calls Try.prog 23 #[.pointer (some ⟨g, 0, none⟩)] w fun e w' => e = .returned (.tuple #[.int .i64 key, .int .i64 place, .bool ok]) ∧ w = w' := by
  obtain ⟨gk, gw, V, h1, h2, h3, h4⟩ := h
  have HL := Lib.hid (tr_len g gk gw n K V w h1)
  obtain ⟨hg, c0, z0, c1, z1⟩ := h1.at_.two
  by_cases hn : n = 0
  · subst hn
    obtain ⟨rfl, rfl, rfl⟩ : (0 : Int) = key ∧ (0 : Int) = place ∧ false = ok := by simpa [scan] using hs
    clear h1 h2 h3 hs
    go_enter Try.func23, Try.ntmps23
    go_wp2_with (go_at_call 24; refine HL.out.mono ?_; rintro e w' ⟨rfl, rfl⟩)
    go_ret3
    exact ⟨rfl, rfl⟩
  have hn0 : 0 < n := by omega
  have hle := h2.least hn0
  rw [hs] at hle
  have hr := h2.rng 1 (by omega)
  have cw := (h1.win 1 (by omega)).1
  have hnz : ((n : Int) == 0) = false := by simp; omega
  have hn1 : (1 : Int) < 2 * (n : Int) := by omega
  have hn2 : 1 < 2 * n := by omega
  by_cases hv : V 1 = -1
  · rw [if_pos hv] at hle
    obtain ⟨rfl, rfl, rfl⟩ : key = (0 : Int) ∧ place = (0 : Int) ∧ ok = false := by simpa using hle
    rw [hv] at cw
    clear h1 h2 h3 hs hle hv hr hn
    go_enter Try.func23, Try.ntmps23
    go_wp2_with (go_at_call 24; refine HL.out.mono ?_; rintro e w' ⟨rfl, rfl⟩)
    go_ret3
    exact ⟨rfl, rfl⟩
  · rw [if_neg hv] at hle
    obtain ⟨p, hp⟩ : ∃ p : Nat, V 1 = p := ⟨(V 1).toNat, by omega⟩
    rw [hp] at hle cw hv hr
    obtain ⟨rfl, rfl, rfl⟩ : key = K p ∧ place = (p : Int) ∧ ok = true := by simp at hle; exact hle
    have hpn : p < n := by omega
    have ck := (h1.key p hpn).1
    have hpz : ((p : Int) == -1) = false := by simp
    generalize K p = x at *
    clear h1 h2 h3 hs hle hv hr hn hp
    go_enter Try.func23, Try.ntmps23
    go_wp2_with (go_at_call 24; refine HL.out.mono ?_; rintro e w' ⟨rfl, rfl⟩)
    go_ret3
    exact ⟨rfl, rfl⟩

theorem own_row (w : World) (z : Value) (n : Nat) (e : TypeId) : Own (w.alloc (.cells (madeCells #[z] n) e)) w.heap.size 0 n (fun _ => z) := by
  refine ⟨by simp, fun j hj => ?_, fun j hj => ?_⟩
  · rw [cell_of_row _ w.heap.size (0 + j) _ e (0, 0) (heap_alloc_new w _)]
    simp [madeCells, hj, Nat.mod_one]
  · have e0 := heap_alloc_new w (.cells (madeCells #[z] n) e (0, 0))
    simp only [World.frozen?, e0]
    simp

/-- What New yields. -/
def TNewC (n : Nat) (w : World) (e : Ending) (w' : World) : Prop := ∃ F g, e = .returned (.pointer (some ⟨g, 0, none⟩)) ∧ TreeI w' F g n (fun _ => 0) (fun _ => false) ∧ F g ∧ (∀ b, F b → w.heap.size ≤ b) ∧ Below w.heap.size w w'
def vat (n k : Nat) : Nat → Int := fun j => if n ≤ j ∧ j < n + k then (j : Int) - n else 0
theorem vat_zero (n : Nat) : vat n 0 = fun _ => 0 := by
  funext j
  unfold vat
  rw [if_neg (by omega)]
theorem vat_put (n k : Nat) : put (vat n k) (n + k) k = vat n (k + 1) := by
  funext j
  unfold put vat
  by_cases e : j = n + k
  · subst e; rw [if_pos rfl, if_pos (by omega)]; omega
  · rw [if_neg e]
    by_cases e2 : n ≤ j ∧ j < n + k
    · rw [if_pos e2, if_pos (by omega)]
    · rw [if_neg e2, if_neg (by omega)]
theorem vat_new (n : Nat) : PTree.TNew n (fun _ => 0) (fun _ => false) (vat n n) (n - 1) := by
  refine ⟨fun i hi => ?_, fun k k0 k1 => by omega, fun k hk => ?_⟩
  · unfold vat; rw [if_pos (by omega), if_neg (by simp)]; omega
  · unfold vat; split <;> omega

theorem made_one (w : World) (n : Nat) (e t : TypeId) : TreeC (((w.alloc (.cells (madeCells #[.int .i64 0] n) e)).alloc (.cells (madeCells #[.int .i64 0] (2 * n)) e)).alloc (.cells #[.slice (some ⟨w.heap.size, 0, none⟩) n n, .slice (some ⟨w.heap.size + 1, 0, none⟩) (2 * n) (2 * n)] t)).drew (w.heap.size + 1 + 1) w.heap.size (w.heap.size + 1) n (fun _ => 0) (fun _ => 0) := by
  have hk := own_row w (.int .i64 0) n e
  have hw := own_row (w.alloc (.cells (madeCells #[.int .i64 0] n) e)) (.int .i64 0) (2 * n) e
  have ha := At.alloc ((w.alloc (.cells (madeCells #[.int .i64 0] n) e)).alloc (.cells (madeCells #[.int .i64 0] (2 * n)) e)) [.slice (some ⟨w.heap.size, 0, none⟩) n n, .slice (some ⟨w.heap.size + 1, 0, none⟩) (2 * n) (2 * n)] t
  rw [show ((w.alloc (.cells (madeCells #[.int .i64 0] n) e)).alloc (.cells (madeCells #[.int .i64 0] (2 * n)) e)).heap.size = w.heap.size + 1 + 1 by simp] at ha
  rw [show (w.alloc (.cells (madeCells #[.int .i64 0] n) e)).heap.size = w.heap.size + 1 by simp] at hw
  exact ⟨ha.drew, ((hk.alloc _).alloc _).drew, (hw.alloc _).drew, by omega, by omega, by omega⟩
theorem made_two (w : World) (n : Nat) (e t : TypeId) : TreeC (((w.alloc (.cells (madeCells #[.int .i64 0] (2 * n)) e)).alloc (.cells (madeCells #[.int .i64 0] n) e)).alloc (.cells #[.slice (some ⟨w.heap.size + 1, 0, none⟩) n n, .slice (some ⟨w.heap.size, 0, none⟩) (2 * n) (2 * n)] t)).drew (w.heap.size + 1 + 1) (w.heap.size + 1) w.heap.size n (fun _ => 0) (fun _ => 0) := by
  have hw := own_row w (.int .i64 0) (2 * n) e
  have hk := own_row (w.alloc (.cells (madeCells #[.int .i64 0] (2 * n)) e)) (.int .i64 0) n e
  have ha := At.alloc ((w.alloc (.cells (madeCells #[.int .i64 0] (2 * n)) e)).alloc (.cells (madeCells #[.int .i64 0] n) e)) [.slice (some ⟨w.heap.size + 1, 0, none⟩) n n, .slice (some ⟨w.heap.size, 0, none⟩) (2 * n) (2 * n)] t
  rw [show ((w.alloc (.cells (madeCells #[.int .i64 0] (2 * n)) e)).alloc (.cells (madeCells #[.int .i64 0] n) e)).heap.size = w.heap.size + 1 + 1 by simp] at ha
  rw [show (w.alloc (.cells (madeCells #[.int .i64 0] (2 * n)) e)).heap.size = w.heap.size + 1 by simp] at hk
  exact ⟨ha.drew, (hk.alloc _).drew, ((hw.alloc _).alloc _).drew, by omega, by omega, by omega⟩
theorem made_below (w : World) (a b c : Obj) : Below w.heap.size w (((w.alloc a).alloc b).alloc c).drew :=
  (((((Upd.refl (fun _ => False) w).alloc a).alloc b).alloc c).drew).below (Nat.le_refl _) (fun _ _ h => h.elim)

set_option maxRecDepth 100000 in
set_option maxHeartbeats 2000000 in
theorem ti_new (a : Int) (n : Nat) (w : World) (hn : max a 0 = (n : Int)) (hb : n ≤ 1000000) :
    Calls Try.prog 19 #[.int .i64 a] w fun e w' => TNewC n w e w' := by
  have hif : (if a < 0 then (0 : Int) else a) = (n : Int) := by split <;> omega
  have hmk := run_make_row' (P := Try.prog) 42 3 (.int .i64 0) 8 Try.underlying42 (by kernel_rfl) rfl .i64 .i64 n (by omega) (by omega)
  have hmk2 : ∀ w, (Instr.makeSlice 42 (.int .i64 (2 * (n : Int))) (.int .i64 (2 * (n : Int)))).run Try.prog w = .ok (.slice (some ⟨w.heap.size, 0, none⟩) (2 * n) (2 * n)) (w.alloc (.cells (madeCells #[.int .i64 0] (2 * n)) 3)) := by
    have := run_make_row' (P := Try.prog) 42 3 (.int .i64 0) 8 Try.underlying42 (by kernel_rfl) rfl .i64 .i64 (2 * n) (by omega) (by omega)
    rw [show ((2 * n : Nat) : Int) = 2 * (n : Int) by omega] at this
    exact this
  have hw1 : IntKind.i64.wrap (2 * (n : Int)) = 2 * (n : Int) := by rw [IntKind.wrap_i64]; omega
  have hnb : (n : Int) ≤ 1000000 := by omega
  clear hn
  go_enter Try.func19, Try.ntmps19
  go_wp2
  go_cut [3] (fun t wx => ∃ g gk gw, t = .pointer (some ⟨g, 0, none⟩) ∧ TreeC wx g gk gw n (fun _ => 0) (fun _ => 0) ∧ w.heap.size ≤ g ∧ w.heap.size ≤ gk ∧ w.heap.size ≤ gw ∧ Below w.heap.size w wx)
  case first =>
    go_region
    all_goals go_wp2
    all_goals go_meet
    · exact ⟨_, _, _, rfl, made_one w n 3 61, by omega, by omega, by omega, made_below w _ _ _⟩
    · exact ⟨_, _, _, rfl, made_two w n 3 61, by omega, by omega, by omega, made_below w _ _ _⟩
  case rest =>
    obtain ⟨g, gk, gw, rfl, hT, hg0, hgk0, hgw0, hbl⟩ := hcut
    clear hmk hmk2 hw1 hif
    obtain ⟨M, hM⟩ : ∃ M, 2 * n = M := ⟨_, rfl⟩
    have HM := Lib.hid hM
    go_wp2
    go_loopw [17] (fun i wr => ∃ k : Nat, k ≤ n ∧ i = .int .i64 k ∧ TreeC wr g gk gw n (fun _ => 0) (vat n k) ∧ Below w.heap.size w wr) (fun i _ => n - (intOf i).toNat)
    case atStart => exact ⟨0, Nat.zero_le _, rfl, by rw [vat_zero]; exact hT, hbl⟩
    case round =>
      obtain ⟨k, hk, rfl, hTk, hbk⟩ := hrel
      by_cases hlt : k < n
      · have HT := Lib.hid hTk
        have HB := Lib.hid hbk
        obtain ⟨hgl, c0, z0, c1, z1⟩ := hTk.at_.two
        obtain ⟨ci, zi⟩ := hTk.win (n + k) (by omega)
        have hlt1 := hTk.won.lt
        have hw1 : IntKind.i64.wrap ((n : Int) + (k : Int)) = (n : Int) + (k : Int) := by rw [IntKind.wrap_i64]; omega
        have i1 : (0 : Int) ≤ (n : Int) + (k : Int) := by omega
        have i2 : (n : Int) + (k : Int) < (M : Int) := by have := HM.out; omega
        rw [hM] at c1
        clear hTk hbk z0 z1 c0
        go_wp2
        go_roundw
        case rel => exact ⟨k + 1, by omega, by go_num, by rw [← vat_put]; exact HT.out.setWin (n + k) (by omega) k, HB.out.upd (S := fun b => b = gw) ((Upd.refl (fun b => b = gw) wr).setCell (p := ⟨gw, n + k, none⟩) (fun _ => rfl) _) HB.out.size (fun b _ e => by omega)⟩
        case measure => simp [intOf]; omega
      · obtain rfl : k = n := by omega
        by_cases hn0 : k = 0
        · subst hn0
          go_wp2
          go_loopw [5] (fun i wr => i = .int .i64 (-1) ∧ TreeC wr g gk gw 0 (fun _ => 0) (vat 0 0) ∧ Below w.heap.size w wr) (fun i _ => 0)
          case atStart => exact ⟨by go_num, hTk, hbk⟩
          case round =>
            obtain ⟨rfl, hT2, hb2⟩ := hrel
            go_wp2
            go_ret
            exact ⟨fun b => b = g ∨ b = gk ∨ b = gw, g, rfl, ⟨gk, gw, _, hT2, ⟨fun i hi => by omega, fun k h0 h1 => by omega, fun k h0 => by omega⟩, fun b => Iff.rfl, by omega⟩, .inl rfl, fun b hb => by omega, hb2⟩
        · have hsb : IntKind.i64.wrap ((k : Int) - 1) = (k : Int) - 1 := by rw [IntKind.wrap_i64]; omega
          have hNEW := Lib.hid (vat_new k)
          go_wp2
          go_loopw [5] (fun i wr => ∃ (c : Nat) (V : Nat → Int), i = .int .i64 c ∧ c < k ∧ TreeC wr g gk gw k (fun _ => 0) V ∧ PTree.TNew k (fun _ => 0) (fun _ => false) V c ∧ Below w.heap.size w wr) (fun i _ => (intOf i).toNat)
          case atStart => exact ⟨k - 1, vat k k, by go_num, by omega, hTk, hNEW.out, hbk⟩
          case round =>
            obtain ⟨c, V, rfl, hc, hT2, hN2, hb2⟩ := hrel
            by_cases h0 : 0 < c
            · obtain ⟨d, rfl⟩ : ∃ d, c = d + 1 := ⟨c - 1, by omega⟩
              have HP := Lib.hid (tr_play g gk gw k (fun _ => 0) V (d + 1) wr hT2 hb (by omega) hc hN2.rng)
              have HI := Lib.hid (hN2.play hc)
              have HB := Lib.hid hb2
              generalize put V (d + 1) (wz (fun _ => 0) (V (2 * (d + 1))) (V (2 * (d + 1) + 1))) = V2 at *
              clear hT2 hN2 hb2
              have hdd : ((d + 1 : Nat) : Int) - 1 = (d : Int) := by omega
              go_wp2_with (go_at_call 30; refine HP.out.mono ?_; rintro e w2 ⟨rfl, hT3, hU3⟩)
              go_roundw
              case rel => exact ⟨d, V2, by go_num, by omega, hT3, HI.out, HB.out.upd hU3 HB.out.size (fun b _ e => by omega)⟩
              case measure => (simp [intOf] <;> omega)
            · obtain rfl : c = 0 := by omega
              have HI := Lib.hid hN2.inv
              clear hN2
              go_wp2
              go_ret
              exact ⟨fun b => b = g ∨ b = gk ∨ b = gw, g, rfl, ⟨gk, gw, _, hT2, HI.out, fun b => Iff.rfl, hb⟩, .inl rfl, fun b hb => by omega, hb2⟩
end Go.Proofs.Ytiahiadipmmgcaa
