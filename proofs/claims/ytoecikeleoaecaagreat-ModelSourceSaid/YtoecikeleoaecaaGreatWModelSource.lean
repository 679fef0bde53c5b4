/- The walk of ModelSource. -/
import Derived.Test.YtoecikeleoaecaaGreatPlays
namespace Go.Proofs.YtoecikeleoaecaaGreat
set_option maxRecDepth 4000
open Go.ChangeShapes Go.WideShapes Go.ChangeAt Go.RowKit
open PHist PRing PSat PClamp PBound PFrame PVar PCrc PSign PTree PEv
set_option linter.unusedVariables false
set_option linter.unusedSimpArgs false

set_option maxRecDepth 100000 in
set_option maxHeartbeats 4000000 in
theorem walk_ModelSource (w : World) (c0 : Array Value) (d0 : (((List (Int × Int × Int × Int × Int × Unit)) × Int × Int × Unit) × (List ByteArray) × (List (Bool × Int × Unit)) × Unit)) (w0 : Rd w (.pair (.pair (.sl (.pair (.int .i64) (.pair (.int .i64) (.pair (.int .i64) (.pair (.int .i64) (.pair (.int .i64) .unit)))))) (.pair (.int .i64) (.pair (.int .i64) .unit))) (.pair (.sl .str) (.pair (.sl (.pair .bool (.pair (.int .i64) .unit))) .unit))) c0.toList d0) :
    Calls Tryz.prog 8 #[.agg c0] w fun e w' => e = .returned (.bool true) ∧ Below w.heap.size w w' := by
  obtain ⟨a, n, c, t, dr, b, m, c2, q, nq, c3, rs, ls, cs, rfl, hC⟩ := Rd.case w0
  clear w0
  have hbx : Below w.heap.size w (w.alloc (.cells #[.slice a n c, .int .i64 t, .int .i64 dr, .slice b m c2, .slice q nq c3] 28)) := (Below.refl _ _).alloc (Nat.le_refl _) _
  have hA0 := At.alloc w [.slice a n c, .int .i64 t, .int .i64 dr, .slice b m c2, .slice q nq c3] 28
  have hC0 := hC.on hbx
  have hsz : w.heap.size < (w.alloc (.cells #[.slice a n c, .int .i64 t, .int .i64 dr, .slice b m c2, .slice q nq c3] 28)).heap.size := hA0.1
  clear hC
  have HSP := fun wx => Lib.hid (speaks24 wx)
  go_enter Tryz.func8, Tryz.ntmps8
  go_wp2_with fail
  generalize w.alloc (.cells #[.slice a n c, .int .i64 t, .int .i64 dr, .slice b m c2, .slice q nq c3] 28) = w0 at *
  have HSM := fun wx (hx : Below w0.heap.size w0 wx) => Lib.hid (law_small a n c t dr b m c2 q nq c3 ls wx (hC0.on hx).hlo hC0.hm (fun s hs => hC0.hsl s hs))
  have HA := fun wx (hx : Below w0.heap.size w0 wx) => At.five (hA0.below hx hsz)
  go_wp2_with (go_at_call 32; (with_reducible refine (HSP _).out.mono ?_); rintro e w1 ⟨rfl, hb1⟩; obtain ⟨-, x0, -, x1, -, x2, -, x3, -, x4, -⟩ := HA _ hb1)
  go_at_call 13
  refine (HSM _ hb1).out.mono ?_
  intro e w2 hS
  obtain ⟨z, rfl, hz, hb2'⟩ := hS
  have hb2 := on_below hb1 hb2'
  obtain ⟨-, y0, -, y1, -, y2, -, y3, -, y4, -⟩ := HA _ hb2
  rcases hz with rfl | ⟨rfl, hSm⟩
  · go_wp2
    go_ret
    exact ⟨rfl, on_below hbx hb2⟩
  obtain ⟨z, l1, l2, hl, h2, hs, hm⟩ := plays hC0 hSm nq (Nat.le_refl _)
  have h2' := h2 rfl
  subst h2'
  rw [List.append_nil] at hm
  have HS := fun wx (hx : Below w0.heap.size w0 wx) => Lib.hid (hs wx c3 hx)
  have HM := fun wx (hx : Below w0.heap.size w0 wx) => Lib.hid (hm wx hx)
  have HBX := Lib.hid hbx
  have HLP := fun (a : Option Addr) (c : Nat) (wx : World) (h : RowE wx a l1) => Lib.hid (law_plain a l1.length c l1 wx h rfl (by rw [List.length_nil] at hl; omega))
  have HSA := fun (B1 B2 : Nat) (v1 v2 : Value) (wx : World) (h1 : Sl B1 wx 8 v1 l1.length (evcs l1)) (h2 : Sl B2 wx 8 v2 l1.length (evcs l1)) => Lib.hid (same_of h1 h2 (by rw [List.length_nil] at hl; omega))
  clear hs hm h2 hSm HSP HSM hC0 x0 x1 x2 x3 x4 hb2' hl hbx
  have HS2 := HS _ hb2
  go_wp2_with (first | (go_at_call 16; (with_reducible refine HS2.out.mono ?_); intro e w3 hY; obtain ⟨a3, c3', rfl, -, -, hr3, hb3⟩ := hY; have hb3' := on_below hb2 hb3; have HM3 := HM _ hb3'; obtain ⟨-, x0, -, x1, -, x2, -, x3, -, x4, -⟩ := HA _ hb3') | (go_at_call 34; (with_reducible refine HM3.out.mono ?_); intro e w4 hY; obtain ⟨a4, c4', rfl, -, -, hr4, hb4⟩ := hY; have hb4' := on_below hb3' hb4; have HP1 := HLP a3 c3' _ (hr3.on hb4)) | (go_at_call 18; have i1 := HP2; (with_reducible refine HP2.out.mono ?_); intro e w6 hY; obtain ⟨v6, rfl, hv6, hb6⟩ := hY; have HE := HSA _ _ _ _ _ (hv5.onW hb6) hv6) | (go_at_call 18; (with_reducible refine HP1.out.mono ?_); intro e w5 hY; obtain ⟨v5, rfl, hv5, hb5⟩ := hY; have HP2 := HLP a4 c4' _ (hr4.on hb5)) | (go_at_call 17; (with_reducible refine HE.out.mono ?_); rintro e w7 ⟨rfl, hb7⟩) | fail)
  go_ret
  exact ⟨rfl, on_below HBX.out (on_below (on_below (on_below hb4' hb5) hb6) hb7)⟩
end Go.Proofs.YtoecikeleoaecaaGreat
