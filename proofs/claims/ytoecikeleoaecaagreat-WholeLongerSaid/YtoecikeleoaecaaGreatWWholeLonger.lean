/- The walk of WholeLonger. -/
import Derived.Test.YtoecikeleoaecaaGreatNone12
import Derived.Deep.RegionHeld3
namespace Go.Proofs.YtoecikeleoaecaaGreat
set_option maxRecDepth 4000
open Go.ChangeShapes Go.WideShapes Go.ChangeAt Go.RowKit
open PHist PRing PSat PClamp PBound PFrame PVar PCrc PSign PTree PEv
set_option linter.unusedVariables false
set_option linter.unusedSimpArgs false

theorem u8_nat {a : Int} (h : (Lit.int .u8 a).wf = true) : ∃ k : Nat, a = k ∧ k ≤ 255 := by
  have h1 : 0 ≤ a ∧ a ≤ 255 := by
    simp [Lit.wf, IntKind.min, IntKind.max, IntKind.bits, IntKind.signed] at h
    omega
  exact ⟨a.toNat, by omega, by omega⟩
set_option maxRecDepth 100000 in
set_option maxHeartbeats 4000000 in
theorem walk_WholeLonger (w : World) (c0 : Array Value) (d0 : (((List (Int × Int × Int × Int × Int × Unit)) × Int × Int × Unit) × (List ByteArray) × (List (Bool × Int × Unit)) × Unit)) (w0 : Rd w (.pair (.pair (.sl (.pair (.int .i64) (.pair (.int .i64) (.pair (.int .i64) (.pair (.int .i64) (.pair (.int .i64) .unit)))))) (.pair (.int .i64) (.pair (.int .i64) .unit))) (.pair (.sl .str) (.pair (.sl (.pair .bool (.pair (.int .i64) .unit))) .unit))) c0.toList d0) (a1 : Int) (w1 : (Lit.int .u8 a1).wf = true) :
    Calls Tryz.prog 11 #[.agg c0, .int .u8 a1] w fun e w' => e = .returned (.bool true) ∧ Below w.heap.size w w' := by
  obtain ⟨a, n, c, t, dr, b, m, c2, q, nq, c3, rs, ls, cs, rfl, hC⟩ := Rd.case w0
  clear w0
  obtain ⟨kk, rfl, hkk⟩ := u8_nat w1
  clear w1
  have hbx : Below w.heap.size w (w.alloc (.cells #[.slice a n c, .int .i64 t, .int .i64 dr, .slice b m c2, .slice q nq c3] 28)) := (Below.refl _ _).alloc (Nat.le_refl _) _
  have hA0 := At.alloc w [.slice a n c, .int .i64 t, .int .i64 dr, .slice b m c2, .slice q nq c3] 28
  have hC0 := hC.on hbx
  have hsz : w.heap.size < (w.alloc (.cells #[.slice a n c, .int .i64 t, .int .i64 dr, .slice b m c2, .slice q nq c3] 28)).heap.size := hA0.1
  clear hC
  have HSP := fun wx => Lib.hid (none12 wx)
  go_enter Tryz.func11, Tryz.ntmps11
  go_wp2_with fail
  generalize w.alloc (.cells #[.slice a n c, .int .i64 t, .int .i64 dr, .slice b m c2, .slice q nq c3] 28) = w0 at *
  have HSM := fun wx (hx : Below w0.heap.size w0 wx) => Lib.hid (law_small a n c t dr b m c2 q nq c3 ls wx (hC0.on hx).hlo hC0.hm (fun s hs => hC0.hsl s hs))
  have HA := fun wx (hx : Below w0.heap.size w0 wx) => At.five (hA0.below hx hsz)
  go_wp2_with (go_at_call 38; (with_reducible refine (HSP _).out.mono ?_); rintro e w1 ⟨rfl, hb1⟩; obtain ⟨-, x0, -, x1, -, x2, -, x3, -, x4, -⟩ := HA _ hb1)
  go_at_call 13
  refine (HSM _ hb1).out.mono ?_
  intro e w2 hS
  obtain ⟨z, rfl, hz, hb2'⟩ := hS
  have hb2 := on_below hb1 hb2'
  obtain ⟨-, y0, -, y1, -, y2, -, y3, -, y4, -⟩ := HA _ hb2
  rcases hz with rfl | ⟨rfl, hSm⟩
  · go_wp2
    go_ret
    exact ⟨rfl, on_below hbx hb2⟩
  obtain ⟨K, hKn, hKe⟩ : ∃ K : Nat, K ≤ nq ∧ ((kk ≤ nq ∧ K = kk) ∨ (nq < kk ∧ K = nq)) := by
    by_cases h : kk ≤ nq
    · exact ⟨kk, h, .inl ⟨h, rfl⟩⟩
    · exact ⟨nq, Nat.le_refl _, .inr ⟨by omega, rfl⟩⟩
  obtain ⟨z, l1, l2, hl, h2, hs, hm⟩ := plays hC0 hSm K hKn
  obtain ⟨L, hL⟩ : ∃ L, L = l1 ++ l2 := ⟨_, rfl⟩
  rw [← hL] at hm
  have HS := fun wx c' (hx : Below w0.heap.size w0 wx) => Lib.hid (hs wx c' hx)
  have HM := fun wx (hx : Below w0.heap.size w0 wx) => Lib.hid (hm wx hx)
  have HBX := Lib.hid hbx
  have hl1 : l1.length ≤ 9000 := by omega
  have HLP := fun (a : Option Addr) (c : Nat) (wx : World) (h : RowE wx a l1) => Lib.hid (law_plain a l1.length c l1 wx h rfl (by omega))
  have HSA := fun (B1 B2 : Nat) (v1 v2 : Value) (wx : World) (h1 : Sl B1 wx 8 v1 l1.length (evcs l1)) (h2 : Sl B2 wx 8 v2 l1.length (evcs l1)) => Lib.hid (same_of h1 h2 (by omega))
  have HTK := fun (wx : World) (a : Option Addr) (h : RowE wx a L) => (show RowE wx a l1 from RowE.take (m := l2) (by rw [← hL]; exact h))
  have hq120 : nq ≤ 120 := hSm.2.1
  have HCAP := Lib.hid hC0.hqc
  have HSL := fun w' => part_to (P := Tryz.prog) (a := q) (n := nq) (c := c3) (m := 2) (t := 26) (e := 48) hC0.hc3m Tryz.underlying26 (by intro w; kernel_rfl) K K rfl (Nat.le_trans hKn hC0.hqc) w'
  have hN : l1.length ≤ L.length := by rw [hL, List.length_append]; omega
  have HSL2 := fun (a4 : Option Addr) (c4 : Nat) (h1 : L.length ≤ c4) (h2 : c4 ≤ maxLen) w' => part_to (P := Tryz.prog) (a := a4) (n := L.length) (c := c4) (m := 1) (t := 41) (e := 67) h2 Tryz.underlying41 (by intro w; kernel_rfl) l1.length l1.length rfl (Nat.le_trans hN h1) w'
  clear hL hs hm h2 hSm HSP HSM hC0 x0 x1 x2 x3 x4 hb2' hl hbx
  go_upto_region 5 with fail
  go_cut [5] (fun v wx => v = .int .i64 K ∧ wx = w2)
  case first =>
    rcases hKe with ⟨hk1, rfl⟩ | ⟨hk1, rfl⟩
    · have hk2 : (K : Int) ≤ (nq : Int) := by omega
      have hk3 : (K : Int) ≤ 255 := by omega
      clear HS HM HLP HSA HTK HSL HSL2
      go_wp2_with fail
      go_meet
      exact ⟨congrArg (Value.int .i64) (show min (K : Int) (nq : Int) = K by omega), rfl⟩
    · have hk2 : (K : Int) < (kk : Int) := by omega
      have hk3 : (kk : Int) ≤ 255 := by omega
      clear HS HM HLP HSA HTK HSL HSL2
      go_wp2_with fail
      go_meet
      exact ⟨congrArg (Value.int .i64) (show min (kk : Int) (K : Int) = K by omega), rfl⟩
  case rest =>
    obtain ⟨rfl, rfl⟩ := hcut
    clear hKe hkk
    have HF := fun wx (hx : Below w0.heap.size w0 wx) => (show wx.cell? ⟨w.heap.size, 0, none⟩ = some (.slice a n c) ∧ wx.cell? ⟨w.heap.size, 1, none⟩ = some (.int .i64 t) ∧ wx.cell? ⟨w.heap.size, 2, none⟩ = some (.int .i64 dr) ∧ wx.cell? ⟨w.heap.size, 3, none⟩ = some (.slice b m c2) ∧ wx.cell? ⟨w.heap.size, 4, none⟩ = some (.slice q nq c3) from by obtain ⟨-, g0, -, g1, -, g2, -, g3, -, g4, -⟩ := HA wx hx; exact ⟨g0, g1, g2, g3, g4⟩)
    have hbd := on_below hb2 (Below.refl _ _).drew
    have HS2 := HS _ c3 hbd
    go_upto_region 6 with fail
    go_cut [6, 7] (fun v6 v7 wx => ∃ a3 c3', v6 = .slice a3 l1.length c3' ∧ v7 = .int .i64 z ∧ RowE wx a3 l1 ∧ Below w0.heap.size w0 wx)
    case first =>
      clear HS HM HLP HSA HTK HSL2
      go_region_held3 (fun wx => wx.cell? ⟨w.heap.size, 0, none⟩ = some (.slice a n c) ∧ wx.cell? ⟨w.heap.size, 1, none⟩ = some (.int .i64 t) ∧ wx.cell? ⟨w.heap.size, 2, none⟩ = some (.int .i64 dr) ∧ wx.cell? ⟨w.heap.size, 3, none⟩ = some (.slice b m c2) ∧ wx.cell? ⟨w.heap.size, 4, none⟩ = some (.slice q nq c3))
        (first | (with_reducible exact HF _ hb2) | (with_reducible exact HF _ hbd) | (with_reducible exact HF _ hb3') | fail)
        (first | (go_at_call 16; (with_reducible refine HS2.out.mono ?_); intro e w3 hY; obtain ⟨a3, c3', rfl, -, -, hr3, hb3⟩ := hY; have hb3' := on_below hbd hb3) | fail)
      all_goals (go_wp2_with fail; go_meet)
      all_goals exact ⟨_, _, rfl, rfl, hr3, hb3'⟩
    case rest =>
      obtain ⟨a3, c3', rfl, rfl, hr3, hbc⟩ := hcut
      obtain ⟨g0, g1, g2, g3, g4⟩ := HF _ hbc
      have HM3 := HM _ hbc
      clear HS2 HF HS HM y0 y1 y2 y3 y4
      go_upto_region 10 with (first | (go_at_call 34; (with_reducible refine HM3.out.mono ?_); intro e w4 hY; obtain ⟨a4, c4', rfl, hc4, hm4, hr4, hb4⟩ := hY) | fail)
      have hr3' := hr3.on hb4
      have hr4' := HTK _ _ hr4
      have HSL4 := HSL2 a4 c4' hc4 hm4
      have hb44 := on_below hbc hb4
      have hbd4 : Below w4.heap.size w4 w4.drew := (Below.refl _ _).drew
      have HP1 := HLP a3 c3' _ (hr3'.on hbd4)
      have HP2 := fun wx (hx : Below w4.drew.heap.size w4.drew wx) => HLP a4 c4' wx ((hr4'.on hbd4).on hx)
      have hN' : (l1.length : Int) ≤ (L.length : Int) := by omega
      have hN2 : (0 : Int) ≤ (l1.length : Int) := by omega
      have hd1 : decide ((l1.length : Int) ≤ (L.length : Int)) = true := decide_eq_true hN'
      have hd2 : decide (l1.length ≤ L.length) = true := decide_eq_true hN
      clear HLP HSL2 HTK HM3 hr3 hr4 hr3' hr4' g0 g1 g2 g3 g4 HSL hc4 hm4
      go_region_held3 (fun _ => True) (exact trivial) (first | (go_at_call 18; (with_reducible refine HP1.out.mono ?_); intro e w5 hY; obtain ⟨v5, rfl, hv5, hb5⟩ := hY; have HP3 := HP2 _ hb5) | (go_at_call 18; (with_reducible refine HP3.out.mono ?_); intro e w6 hY; obtain ⟨v6, rfl, hv6, hb6⟩ := hY; have HE := HSA _ _ _ _ _ (hv5.onW hb6) hv6) | (go_at_call 17; (with_reducible refine HE.out.mono ?_); rintro e w7 ⟨rfl, hb7⟩) | fail)
      all_goals (go_wp2_with fail; go_ret)
      all_goals exact ⟨rfl, on_below HBX.out (on_below (on_below (on_below (on_below hb44 hbd4) hb5) hb6) hb7)⟩
end Go.Proofs.YtoecikeleoaecaaGreat
