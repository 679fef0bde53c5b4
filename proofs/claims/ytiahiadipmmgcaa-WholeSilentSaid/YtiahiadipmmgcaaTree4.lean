/- tree: Leave, Least and New. -/
import Derived.Test.YtiahiadipmmgcaaTree3
import Derived.Deep.DeepCutAuto
namespace Go.Proofs.Ytiahiadipmmgcaa
set_option maxRecDepth 4000
open Go.ChangeShapes Go.WideShapes Go.ChangeAt Go.RowKit
open PTree
set_option linter.unusedVariables false
set_option linter.unusedSimpArgs false

theorem put_put {α : Type} (f : Nat → α) (i : Nat) (x y : α) : put (put f i x) i y = put f i y := by
  funext j
  unfold put
  by_cases e : j = i <;> simp [e]

set_option maxHeartbeats 2000000 in
theorem ti_leave (F : Nat → Prop) (g n : Nat) (K : Nat → Int) (out : Nat → Bool) (i : Nat) (o : Bool) (w : World) (h : TreeI w F g n K out) (hi : i < n) :
    Calls Try.prog 20 #[.pointer (some ⟨g, 0, none⟩), .int .i64 i, .bool o] w fun e w' => e = .returned (.bool true) ∧ TIPost F g n K (put out i o) w w' := by
  obtain ⟨gk, gw, V, h1, h2, h3, h4⟩ := h
  have HL := Lib.hid (tr_has g gk gw n K V i w h1)
  rw [decide_eq_true (by omega)] at HL
  have HN := fun V' w' (h : TreeC w' g gk gw n K V') => Lib.hid (tr_len g gk gw n K V' w' h)
  have HT := Lib.hid h1
  have HF := Lib.hid h3
  have HI := Lib.hid h2
  obtain ⟨M, hM⟩ : ∃ M, 2 * n = M := ⟨_, rfl⟩
  have i1 : (0 : Int) ≤ (n : Int) + (i : Int) := by omega
  have i2 : (n : Int) + (i : Int) < (M : Int) := by omega
  have e1 : ((n : Int) + (i : Int)).toNat = n + i := by omega
  have HM := Lib.hid hM
  have E1 := Lib.hid e1
  have hw1 : IntKind.i64.wrap ((n : Int) + (i : Int)) = (n : Int) + (i : Int) := by rw [IntKind.wrap_i64]; omega
  obtain ⟨hg, c0, z0, c1, z1⟩ := h1.at_.two
  rw [hM] at c1
  have hlt := h1.won.lt
  obtain ⟨ci, zi⟩ := h1.win (n + i) (by omega)
  rw [← e1] at ci zi
  have HS := Lib.hid (fun (x : Int) V' w' (h : TreeC w' g gk gw n K V') => (show TreeC (w'.setCell ⟨gw, ((n : Int) + (i : Int)).toNat, none⟩ (.int .i64 x)) g gk gw n K (put V' (n + i) x) by rw [e1]; exact h.setWin (n + i) (by omega) x))
  have HK := Lib.hid (fun V' w' (h : TreeC w' g gk gw n K V') => (show w'.cell? ⟨g, 1, none⟩ = some (.slice (some ⟨gw, 0, none⟩) M M) by rw [← hM]; exact h.at_.two.2.2.2.1))
  clear h1 h2 h3 hM e1 z0 c0
  go_enter Try.func20, Try.ntmps20
  go_wp2_with (go_at_call 31; refine HL.out.mono ?_; rintro e w' ⟨rfl, rfl⟩)
  go_cut [] (fun wx => TreeC wx g gk gw n K (put V (n + i) i) ∧ Upd F w wx)
  case first =>
    go_region_held3 (fun wx => wx.cell? ⟨g, 1, none⟩ = some (.slice (some ⟨gw, 0, none⟩) M M)) (first | exact c1 | exact HK.out _ _ HT.out.drew | exact HK.out _ _ (HS.out _ _ _ HT.out.drew)) (first | (go_at_call 24; refine (HN _ _ HT.out.drew).out.mono ?_; rintro e w2 ⟨rfl, rfl⟩))
    all_goals
      go_wp2
      go_meet
      exact ⟨HS.out _ _ _ HT.out.drew, ((Upd.refl F w).drewN _).setCell (p := ⟨gw, ((n : Int) + (i : Int)).toNat, none⟩) (fun _ => (HF.out gw).2 (.inr (.inr rfl))) _⟩
  case rest =>
    obtain ⟨hT1, hU1⟩ := hcut
    have HT1 := Lib.hid hT1
    have HU1 := Lib.hid hU1
    clear HL HT ci zi c1 hU1
    have c1 := HK.out _ _ hT1
    have hlt1 := hT1.won.lt
    obtain ⟨ci, zi⟩ := hT1.win (n + i) (by have := HM.out; omega)
    rw [← E1.out] at ci zi
    clear hT1 hg hlt
    cases o
    · have HR := Lib.hid (tr_replay g gk gw n K (put out i false) (put V (n + i) i) i wc HT1.out h4 hi (HI.out.leave i hi false i rfl))
      go_wp2_with (go_at_call 32; refine HR.out.mono ?_; intro e w2 hd; obtain ⟨rfl, hd⟩ := hd)
      go_ret
      obtain ⟨V', k1, k2, k3⟩ := hd
      exact ⟨rfl, ⟨gk, gw, V', k1, k2, HF.out, h4⟩, HU1.out.trans k3 (fun b _ e => (HF.out b).2 (.inr (.inr e)))⟩
    · go_wp2
      go_cut [] (fun wx => TreeC wx g gk gw n K (put V (n + i) (-1)) ∧ Upd F w wx)
      case first =>
        go_region_held3 (fun wx => wx.cell? ⟨g, 1, none⟩ = some (.slice (some ⟨gw, 0, none⟩) M M)) (first | exact c1 | exact HK.out _ _ HT1.out.drew | exact HK.out _ _ (HS.out _ _ _ HT1.out.drew)) (first | (go_at_call 24; refine (HN _ _ HT1.out.drew).out.mono ?_; rintro e w2 ⟨rfl, rfl⟩))
        all_goals
          go_wp2
          go_meet
          exact ⟨by have h5 := HS.out (-1) _ _ HT1.out.drew; rw [put_put] at h5; exact h5, (HU1.out.drew).setCell (p := ⟨gw, ((n : Int) + (i : Int)).toNat, none⟩) (fun _ => (HF.out gw).2 (.inr (.inr rfl))) _⟩
      case rest =>
        obtain ⟨hT2, hU2⟩ := hcut
        have HR := Lib.hid (tr_replay g gk gw n K (put out i true) (put V (n + i) (-1)) i _ hT2 h4 hi (HI.out.leave i hi true (-1) rfl))
        have HU2 := Lib.hid hU2
        clear hU2
        go_wp2_with (go_at_call 32; refine HR.out.mono ?_; intro e w2 hd; obtain ⟨rfl, hd⟩ := hd)
        go_ret
        obtain ⟨V', k1, k2, k3⟩ := hd
        exact ⟨rfl, ⟨gk, gw, V', k1, k2, HF.out, h4⟩, HU2.out.trans k3 (fun b _ e => (HF.out b).2 (.inr (.inr e)))⟩
end Go.Proofs.Ytiahiadipmmgcaa
