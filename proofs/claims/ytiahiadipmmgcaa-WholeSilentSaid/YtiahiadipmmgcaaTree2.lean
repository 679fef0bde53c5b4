/- tree: who wins of two, put right. -/
import Derived.Test.YtiahiadipmmgcaaTree
import Derived.Deep.RegionHeld3
namespace Go.Proofs.Ytiahiadipmmgcaa
set_option maxRecDepth 4000
open Go.ChangeShapes Go.WideShapes Go.ChangeAt Go.RowKit
open PTree
set_option linter.unusedVariables false
set_option linter.unusedSimpArgs false

def TrPost (g gk gw n : Nat) (K V : Nat → Int) (w w' : World) : Prop := TreeC w' g gk gw n K V ∧ Upd (fun k => k = gw) w w'

set_option maxHeartbeats 1000000 in
theorem tr_play (g gk gw n : Nat) (K V : Nat → Int) (k : Nat) (w : World) (h : TreeC w g gk gw n K V) (hn : n ≤ 1000000) (h0 : 0 < k) (h1 : k < n) (hr : ∀ j, j < 2 * n → -1 ≤ V j ∧ V j < n) :
    Calls Try.prog 30 #[.pointer (some ⟨g, 0, none⟩), .int .i64 k] w fun e w' => e = .returned (.tuple #[]) ∧ TrPost g gk gw n K (put V k (wz K (V (2 * k)) (V (2 * k + 1)))) w w' := by
  obtain ⟨hg, c0, z0, c1, z1⟩ := h.at_.two
  have ca := (h.win (2 * k) (by omega)).1
  have cb := (h.win (2 * k + 1) (by omega)).1
  obtain ⟨ck, zk⟩ := h.win k (by omega)
  have HW := Lib.hid (fun w' (h' : TreeC w' g gk gw n K V) => tr_winner g gk gw n K V (V (2 * k)) (V (2 * k + 1)) w' h' (hr _ (by omega)) (hr _ (by omega)))
  have HT := Lib.hid h
  have hlt := h.won.lt
  clear h hr z0 c0 z1
  generalize wz K (V (2 * k)) (V (2 * k + 1)) = z at *
  obtain ⟨a, ea⟩ : ∃ a, V (2 * k) = a := ⟨_, rfl⟩
  obtain ⟨b, eb⟩ : ∃ b, V (2 * k + 1) = b := ⟨_, rfl⟩
  have EA := Lib.hid ea
  have EB := Lib.hid eb
  rw [ea] at ca HW
  rw [eb] at cb HW
  clear ea eb
  generalize V k = c at *
  have HS := Lib.hid (fun m => (HT.out.drewN m).setWin k (by omega) z)
  have i1 : (0 : Int) ≤ 2 * (k : Int) := by omega
  have i3 : (0 : Int) ≤ 2 * (k : Int) + 1 := by omega
  have i5 : (0 : Int) ≤ (k : Int) := by omega
  obtain ⟨M, hM⟩ : ∃ M, 2 * n = M := ⟨_, rfl⟩
  have i2 : 2 * (k : Int) < (M : Int) := by omega
  have i4 : 2 * (k : Int) + 1 < (M : Int) := by omega
  have i6 : (k : Int) < (M : Int) := by omega
  have HM := Lib.hid hM
  rw [hM] at c1
  clear hM
  have e1 : (2 * (k : Int)).toNat = 2 * k := by omega
  have e2 : (2 * (k : Int) + 1).toNat = 2 * k + 1 := by omega
  rw [← e1] at ca
  rw [← e2] at cb
  have E1 := Lib.hid e1
  have E2 := Lib.hid e2
  clear e1 e2
  have hkeep : ∀ m, ((w.drewN m).setCell ⟨gw, k, none⟩ (.int .i64 z)).cell? ⟨g, 1, none⟩ = some (.slice (some ⟨gw, 0, none⟩) M M) ∧ ((w.drewN m).setCell ⟨gw, k, none⟩ (.int .i64 z)).cell? ⟨gw, (2 * (k : Int)).toNat, none⟩ = some (.int .i64 a) ∧ ((w.drewN m).setCell ⟨gw, k, none⟩ (.int .i64 z)).cell? ⟨gw, (2 * (k : Int) + 1).toNat, none⟩ = some (.int .i64 b) := by
    intro m
    have hs := HS.out m
    have q1 := hs.at_.two.2.2.2.1
    have q2 := (hs.win (2 * k) (by omega)).1
    have q3 := (hs.win (2 * k + 1) (by omega)).1
    rw [put_other _ _ _ (by omega)] at q2 q3
    rw [EA.out] at q2
    rw [EB.out] at q3
    rw [HM.out] at q1
    rw [E1.out, E2.out]
    exact ⟨q1, q2, q3⟩
  have HK := Lib.hid hkeep
  clear hkeep
  have hw1 : IntKind.i64.wrap (2 * (k : Int)) = 2 * (k : Int) := by rw [IntKind.wrap_i64]; omega
  have hw2 : IntKind.i64.wrap (2 * (k : Int) + 1) = 2 * (k : Int) + 1 := by rw [IntKind.wrap_i64]; omega
  go_enter Try.func30, Try.ntmps30
  go_region_held3 (fun wx => wx.cell? ⟨g, 1, none⟩ = some (.slice (some ⟨gw, 0, none⟩) M M) ∧ wx.cell? ⟨gw, (2 * (k : Int)).toNat, none⟩ = some (.int .i64 a) ∧ wx.cell? ⟨gw, (2 * (k : Int) + 1).toNat, none⟩ = some (.int .i64 b)) (first | exact ⟨c1, ca, cb⟩ | exact ⟨d1, da, db⟩ | exact HK.out _) (first | (go_at_call 33; refine (HW.out _ HT.out.drew).mono ?_; rintro e w2 ⟨rfl, m, rfl⟩; have hT2 := HT.out.drew.drewN m; have d1 := hT2.at_.two.2.2.2.1; rw [HM.out] at d1; have da := (hT2.win (2 * k) (by omega)).1; rw [EA.out, ← E1.out] at da; have db := (hT2.win (2 * k + 1) (by omega)).1; rw [EB.out, ← E2.out] at db))
  all_goals go_end0
  all_goals exact ⟨rfl, HS.out _, ((Upd.refl (fun b => b = gw) w).drewN _).setCell (p := ⟨gw, k, none⟩) (fun _ => rfl) _⟩

/-- The tree is right again. -/
def TrDone (g gk gw n : Nat) (K : Nat → Int) (out : Nat → Bool) (w w' : World) : Prop := ∃ V, TreeC w' g gk gw n K V ∧ TInv n K out V ∧ Upd (fun k => k = gw) w w'

set_option maxHeartbeats 1000000 in
theorem tr_replay (g gk gw n : Nat) (K : Nat → Int) (out : Nat → Bool) (V : Nat → Int) (i : Nat) (w : World) (h : TreeC w g gk gw n K V) (hn : n ≤ 1000000) (hi : i < n) (hm : TMid n K out V ((n + i) / 2)) :
    Calls Try.prog 32 #[.pointer (some ⟨g, 0, none⟩), .int .i64 i] w fun e w' => e = .returned (.tuple #[]) ∧ TrDone g gk gw n K out w w' := by
  have HL := Lib.hid (tr_len g gk gw n K V w h)
  have HH := Lib.hid h
  have HM := Lib.hid hm
  clear h hm
  go_enter Try.func32, Try.ntmps32
  go_wp2_with (go_at_call 24; refine HL.out.mono ?_; rintro e w' ⟨rfl, rfl⟩)
  go_loopw [4] (fun k wr => ∃ (c : Nat) (V' : Nat → Int), k = .int .i64 c ∧ c < n ∧ TreeC wr g gk gw n K V' ∧ TMid n K out V' c ∧ Upd (fun b => b = gw) w wr) (fun k _ => (intOf k).toNat)
  case atStart => exact ⟨(n + i) / 2, V, by go_num, by omega, HH.out, HM.out, Upd.refl _ _⟩
  case round =>
    obtain ⟨c, V', rfl, hc, hT, hI, hU⟩ := hrel
    by_cases h0 : 0 < c
    · have HP := Lib.hid (tr_play g gk gw n K V' c wr hT hn h0 hc hI.rng)
      have HI := Lib.hid (hI.play h0 hc)
      have HU := Lib.hid hU
      generalize put V' c (wz K (V' (2 * c)) (V' (2 * c + 1))) = V2 at *
      clear hI hT hU
      go_wp2_with (go_at_call 30; refine HP.out.mono ?_; rintro e w2 ⟨rfl, hT2, hU2⟩)
      go_roundw
      case rel => exact ⟨c / 2, V2, by go_num, by omega, hT2, HI.out, HU.out.trans hU2 (fun _ _ h => h)⟩
      case measure => simp [intOf]; omega
    · obtain rfl : c = 0 := by omega
      have HI := Lib.hid hI
      clear hI
      go_wp2
      go_end0
      exact ⟨rfl, V', hT, HI.out, hU⟩
end Go.Proofs.Ytiahiadipmmgcaa
