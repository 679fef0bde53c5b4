/- The walk of the law EventSorts. -/
import Derived.Test.YtcigklninmddaaaDoorEvIn
namespace Go.Proofs.YtcigklninmddaaaDoor
set_option maxRecDepth 4000
open Go.ChangeShapes Go.WideShapes Go.ChangeAt Go.RowKit
open PWord PQuote PSign PEv
open Go.Lib (itoa)
set_option linter.unusedVariables false
set_option linter.unusedSimpArgs false

theorem info_ifc : (Tryd.prog.info? 24).map (fun i => (i.zero, i.size, i.bytes)) = some (some .nilIface, 1, 16) := by kernel_rfl

set_option maxRecDepth 100000 in
set_option maxHeartbeats 8000000 in
theorem walk_EventSorts (w : World) (he : EnvE w) (a0 : Option Addr) (n0 c0 : Nat) (l0 : List (Int × Int × (Int × Int × ByteArray × Unit) × Bool × Int × Int × Unit)) (w0 : Rd w (.sl (.pair (.int .i64) (.pair (.int .i64) (.pair (.pair (.int .i64) (.pair (.int .i64) (.pair .str .unit))) (.pair .bool (.pair (.int .i64) (.pair (.int .i64) .unit))))))) [.slice a0 n0 c0] l0) :
    Calls Tryd.prog 4 #[.slice a0 n0 c0] w fun e w' => e = .returned (.bool true) ∧ Below w.heap.size w w' := by
  obtain ⟨hn0, hnc, hcm, hrow, hq⟩ := Rd.xs w0
  have HSP := Lib.hid (speaks22 w he)
  clear w0 hq
  by_cases hbig : 100 < n0
  · go_enter Tryd.func4, Tryd.ntmps4
    go_wp2_with (first | (go_at_call 5; refine HSP.out.mono ?_; rintro e w2 ⟨rfl, b2⟩))
    go_ret
    exact ⟨rfl, b2⟩
  have HN := Lib.hid hn0
  clear hn0
  obtain ⟨i0, hi, hz0, hz1, hz2⟩ := info_parts info_ifc
  go_enter Tryd.func4, Tryd.ntmps4
  go_wp2_with (first | (go_at_call 5; refine HSP.out.mono ?_; rintro e w2 ⟨rfl, b2⟩))
  have h00 : Sl w.heap.size w2 1 (.slice none 0 0) 0 (((l0.map xe).take 0).map evv) := Sl.nil _ _ _
  go_loopw [3, 25] (fun v i wr => ∃ k : Nat, i = .int .i64 k ∧ k ≤ n0 ∧ Sl w.heap.size wr 1 v k (((l0.map xe).take k).map evv) ∧ Below w.heap.size w wr) (fun _ i _ => n0 - (intOf i).toNat)
  case atStart => exact ⟨0, rfl, Nat.zero_le _, h00, b2⟩
  case round =>
    clear h00
    obtain ⟨k, rfl, hk, hsl, hb⟩ := hrel
    obtain ⟨av, cv, rfl⟩ := hsl.shape
    by_cases hlt : k < n0
    · have hk1 : k < l0.length := by rw [← HN.out]; exact hlt
      obtain ⟨b, off, rfl, hbl, hcl⟩ := (hrow.below hb).at_ k hk1
      have hk2 : k < (l0.map xe).length := by rw [List.length_map]; exact hk1
      have HE : Hid ((l0.map xe).take (k + 1) = (l0.map xe).take k ++ [xe l0[k]]) := by
        show _ = _
        rw [List.take_succ_eq_append_getElem hk2, List.getElem_map]
      have HTD := fun w => Lib.hid (law_tidy_x l0[k] w)
      have HOF := fun w => Lib.hid (law_of (xe l0[k]) w)
      generalize l0[k] = d at *
      generalize evr (xe d) = er at *
      generalize xe d = ev at *
      obtain ⟨tt, xx, hxx⟩ := evv_ifc ev
      rw [hxx] at HOF
      have HXX := Lib.hid hxx
      clear hxx
      have c0' := hcl 0 (by decide)
      have c1' := hcl 1 (by decide)
      have c2' := hcl 2 (by decide)
      have c3' := hcl 3 (by decide)
      have c4' := hcl 4 (by decide)
      have c5' := hcl 5 (by decide)
      have c6' := hcl 6 (by decide)
      have c7' := hcl 7 (by decide)
      clear hcl hk1 hk2
      unfold xf at HTD
      simp only [xf] at c0' c1' c2' c3' c4' c5' c6' c7'
      simp only [List.getElem?_cons_succ, List.getElem?_cons_zero, Nat.add_zero] at c0' c1' c2' c3' c4' c5' c6' c7'
      generalize hE1 : (l0.map xe).take (k + 1) = E1 at *
      have HE1 := Lib.hid hE1
      clear hE1
      generalize (l0.map xe).take k = E0 at *
      have hwB := hb.size
      have hm1 : k + 1 ≤ maxLen := by unfold maxLen; omega
      go_wp2_with (first | (go_at_call 10; (with_reducible refine (HTD _).out.mono ?_); rintro e w3 ⟨rfl, b3⟩; have hs3 := (hsl.alloc _).onW b3; have hb3 := on_below (hb.alloc hwB _) b3) | (go_at_call 9; (with_reducible refine (HOF _).out.mono ?_); rintro e w4 ⟨rfl, b4⟩; have hs4 := (hs3.onW b4).alloc (.cells #[.iface tt xx] 24); have hb4 := on_below hb3 b4; have hw4 := hb4.size) | (at_builtin; refine wpList_append_sl _ rfl (.tmp 29) (.tmp 33) 34 34 rfl 24 i0 _ 16 Tryd.underlying34 hi hz0 hz1 hz2 rfl rfl hs4 _ 1 [.iface tt xx] rfl (src_oneN Tryd.underlying34 _ (.iface tt xx) _ _ (by simp) rfl) hm1 (by omega) (by simp; omega) ?_; intro v1 w5 k1 k2 k3; obtain ⟨av1, cv1, rfl⟩ := k1.shape))
      exact ⟨⟨k + 1, by go_num, hlt, by rw [HE1.out, HE.out, List.map_append, List.map_cons, List.map_nil, HXX.out]; exact k1, (hb4.alloc hw4 _).upd k2 (by simp; omega) (fun i _ hi => by have := (hsl.lt i hi).1; omega)⟩, by simp [intOf]; omega⟩
    · obtain rfl : k = n0 := by omega
      have hlen : (l0.map xe).length = k := by rw [List.length_map]; exact HN.out.symm
      rw [List.take_of_length_le (by rw [hlen]; exact Nat.le_refl _)] at hsl
      obtain ⟨hkl, a3, c3, hv3, hrow3⟩ := rowe_of_sl hsl
      rw [hlen] at hv3
      cases hv3
      generalize l0.map xe = evs at *
      have HLN := Lib.hid hlen
      clear hsl hrow hkl hlen
      have HO1 := fun w h => Lib.hid (of_element av k cv evs w h HLN.out.symm (by omega))
      have HO2 := fun w h => Lib.hid (of_mark av k cv evs w h HLN.out.symm (by omega))
      have HO3 := fun w h => Lib.hid (of_fault av k cv evs w h HLN.out.symm (by omega))
      have HLA := fun w h => Lib.hid (ev_last av k cv evs w HLN.out.symm (by rw [HLN.out]; omega) h)
      go_wp2_with (first | (go_at_call 11; (with_reducible refine (HO1 _ hrow3).out.mono ?_); rintro e w6 ⟨v6, rfl, hs6, b6⟩; have hrow6 := hrow3.on b6; have hb6 := on_below hb b6) | (go_at_call 12; (with_reducible refine (HO2 _ hrow6).out.mono ?_); rintro e w7 ⟨v7, rfl, hs7, b7⟩; have hrow7 := hrow6.on b7; have hb7 := on_below hb6 b7; have hs67 := hs6.onW b7) | (go_at_call 13; (with_reducible refine (HO3 _ hrow7).out.mono ?_); rintro e w8 ⟨v8, rfl, hs8, b8⟩; have hrow8 := hrow7.on b8; have hb8 := on_below hb7 b8; have hs68 := hs67.onW b8; have hs78 := hs7.onW b8))
      clear HO1 HO2 HO3
      clear hrow3 hrow6 hrow7 hs6 hs67 hs7 b6 b7 b8 hb hb6 hb7
      go_loopw [9, 10, 11, 12, 44] (fun vi vj vk vl vq wr => ∃ q : Nat, vq = .int .i64 q ∧ q ≤ k ∧ vi = .int .i64 (sel 0 (evs.take q)).length ∧ vj = .int .i64 (sel 1 (evs.take q)).length ∧ vk = .int .i64 (sel 2 (evs.take q)).length ∧ vl = .int .i64 (elast (evs.take q)) ∧ Below w8.heap.size w8 wr) (fun _ _ _ _ vq _ => k - (intOf vq).toNat)
      case atStart => exact ⟨0, rfl, Nat.zero_le _, rfl, rfl, rfl, rfl, Below.refl _ _⟩
      case round =>
        obtain ⟨q, rfl, hq, rfl, rfl, rfl, rfl, hbr⟩ := hrel
        by_cases hqk : q < k
        · have hq1 : q < evs.length := by rw [HLN.out]; exact hqk
          obtain ⟨b, off, rfl, hbl, q0⟩ := (hrow8.on hbr).at_ q hq1
          have hx0 := sel_next 0 evs q hq1
          have hx1 := sel_next 1 evs q hq1
          have hx2 := sel_next 2 evs q hq1
          have hxl := elast_next evs q hq1
          obtain ⟨m0, hm0⟩ : ∃ m0, (sel 0 (evs.take q)).length = m0 := ⟨_, rfl⟩
          obtain ⟨m1, hm1⟩ : ∃ m1, (sel 1 (evs.take q)).length = m1 := ⟨_, rfl⟩
          obtain ⟨m2, hm2⟩ : ∃ m2, (sel 2 (evs.take q)).length = m2 := ⟨_, rfl⟩
          obtain ⟨la, hla⟩ : ∃ la, elast (evs.take q) = la := ⟨_, rfl⟩
          rw [hm0, hm1, hm2, hla]
          cases hev : evs[q] with
          | el late p kk t x =>
            rw [hev] at hx0 hx1 hx2 hxl q0
            simp only [evv] at q0
            have hkd : kd evs[q] = 0 := by rw [hev]; rfl
            obtain ⟨hlt2, b6, o6, cap6, rfl, hc6, hbl6, hcl6⟩ := sel_at sz0 (by decide) (hs68.onW hbr) q hq1 hkd
            rw [hev, hm0] at hcl6
            rw [hm0] at hlt2
            have t1 := ta_e_yes p kk t (bstr x) late
            have hy0 : (sel 0 (evs.take (q + 1))).length = m0 + 1 := by rw [hx0, hm0]; rfl
            have hy1 : (sel 1 (evs.take (q + 1))).length = m1 + 0 := by rw [hx1, hm1]; rfl
            have hy2 : (sel 2 (evs.take (q + 1))).length = m2 + 0 := by rw [hx2, hm2]; rfl
            have hyl : elast (evs.take (q + 1)) = la := by rw [hxl, elast_snoc]; exact hla
            have HY := Lib.hid (And.intro hy0 (And.intro hy1 (And.intro hy2 hyl)))
            have hLNb : (sel 0 evs).length ≤ k := by rw [← HLN.out]; exact List.length_filter_le _ _
            generalize (sel 0 evs).length = LN at *
            have HCL := Lib.hid hcl6
            clear hy0 hy1 hy2 hyl hx0 hx1 hx2 hxl hcl6 hkd hq1 hev
            go_wp2
            have hO := (Below.refl wr.heap.size wr).alloc (Nat.le_refl _) (.cells #[.int .i64 p, .int .i64 kk, .int .i64 t, .string (bstr x), .bool late] 41)
            have hZ := At.alloc wr [.int .i64 p, .int .i64 kk, .int .i64 t, .string (bstr x), .bool late] 41
            have y0 := cell_kept hO (HCL.out 0 (by decide))
            have z0 := (hZ.2 0 (by simp)).1
            have y1 := cell_kept hO (HCL.out 1 (by decide))
            have z1 := (hZ.2 1 (by simp)).1
            have y2 := cell_kept hO (HCL.out 2 (by decide))
            have z2 := (hZ.2 2 (by simp)).1
            have y3 := cell_kept hO (HCL.out 3 (by decide))
            have z3 := (hZ.2 3 (by simp)).1
            have y4 := cell_kept hO (HCL.out 4 (by decide))
            have z4 := (hZ.2 4 (by simp)).1
            simp only [vcs, List.getElem?_cons_succ, List.getElem?_cons_zero, Nat.add_zero, Nat.mul_one, ← Nat.add_assoc, List.getElem_cons_succ, List.getElem_cons_zero] at y0 z0 y1 z1 y2 z2 y3 z3 y4 z4
            have hbl6' : b6 < (wr.alloc (.cells #[.int .i64 p, .int .i64 kk, .int .i64 t, .string (bstr x), .bool late] 41)).heap.size := by have := hO.size; omega
            clear hZ
            go_quiet (fail)
            go_wp2
            exact ⟨⟨q + 1, by go_num, hqk, by rw [HY.out.1]; go_num, by rw [HY.out.2.1]; go_num, by rw [HY.out.2.2.1]; go_num, by rw [HY.out.2.2.2], below_drewN (on_below hbr hO) _⟩, by simp [intOf]; omega⟩
          | mark m =>
            rw [hev] at hx0 hx1 hx2 hxl q0
            simp only [evv] at q0
            have hkd : kd evs[q] = 1 := by rw [hev]; rfl
            obtain ⟨hlt2, b6, o6, cap6, rfl, hc6, hbl6, hcl6⟩ := sel_at sz1 (by decide) (hs78.onW hbr) q hq1 hkd
            rw [hev, hm1] at hcl6
            rw [hm1] at hlt2
            have t1 := ta_e_no1 (.agg #[.int .i64 m])
            have t2 := ta_m_yes m
            have hy0 : (sel 0 (evs.take (q + 1))).length = m0 + 0 := by rw [hx0, hm0]; rfl
            have hy1 : (sel 1 (evs.take (q + 1))).length = m1 + 1 := by rw [hx1, hm1]; rfl
            have hy2 : (sel 2 (evs.take (q + 1))).length = m2 + 0 := by rw [hx2, hm2]; rfl
            have hyl : elast (evs.take (q + 1)) = m := by rw [hxl, elast_snoc]
            have HY := Lib.hid (And.intro hy0 (And.intro hy1 (And.intro hy2 hyl)))
            have hLNb : (sel 1 evs).length ≤ k := by rw [← HLN.out]; exact List.length_filter_le _ _
            generalize (sel 1 evs).length = LN at *
            have HCL := Lib.hid hcl6
            clear hy0 hy1 hy2 hyl hx0 hx1 hx2 hxl hcl6 hkd hq1 hev
            go_wp2
            have hO := (Below.refl wr.heap.size wr).alloc (Nat.le_refl _) (.cells #[.int .i64 m] 45)
            have hZ := At.alloc wr [.int .i64 m] 45
            have y0 := cell_kept hO (HCL.out 0 (by decide))
            have z0 := (hZ.2 0 (by simp)).1
            simp only [vcs, List.getElem?_cons_succ, List.getElem?_cons_zero, Nat.add_zero, Nat.mul_one, ← Nat.add_assoc, List.getElem_cons_succ, List.getElem_cons_zero] at y0 z0
            have hbl6' : b6 < (wr.alloc (.cells #[.int .i64 m] 45)).heap.size := by have := hO.size; omega
            clear hZ
            go_quiet (fail)
            go_wp2
            exact ⟨⟨q + 1, by go_num, hqk, by rw [HY.out.1]; go_num, by rw [HY.out.2.1]; go_num, by rw [HY.out.2.2.1]; go_num, by rw [HY.out.2.2.2], below_drewN (on_below hbr hO) _⟩, by simp [intOf]; omega⟩
          | fault p m =>
            rw [hev] at hx0 hx1 hx2 hxl q0
            simp only [evv] at q0
            have hkd : kd evs[q] = 2 := by rw [hev]; rfl
            obtain ⟨hlt2, b6, o6, cap6, rfl, hc6, hbl6, hcl6⟩ := sel_at sz2 (by decide) (hs8.onW hbr) q hq1 hkd
            rw [hev, hm2] at hcl6
            rw [hm2] at hlt2
            have t1 := ta_e_no2 (.agg #[.int .i64 p, .int .i64 m])
            have t2 := ta_m_no2 (.agg #[.int .i64 p, .int .i64 m])
            have t3 := ta_f_yes p m
            have hy0 : (sel 0 (evs.take (q + 1))).length = m0 + 0 := by rw [hx0, hm0]; rfl
            have hy1 : (sel 1 (evs.take (q + 1))).length = m1 + 0 := by rw [hx1, hm1]; rfl
            have hy2 : (sel 2 (evs.take (q + 1))).length = m2 + 1 := by rw [hx2, hm2]; rfl
            have hyl : elast (evs.take (q + 1)) = la := by rw [hxl, elast_snoc]; exact hla
            have HY := Lib.hid (And.intro hy0 (And.intro hy1 (And.intro hy2 hyl)))
            have hLNb : (sel 2 evs).length ≤ k := by rw [← HLN.out]; exact List.length_filter_le _ _
            generalize (sel 2 evs).length = LN at *
            have HCL := Lib.hid hcl6
            clear hy0 hy1 hy2 hyl hx0 hx1 hx2 hxl hcl6 hkd hq1 hev
            go_wp2
            have hO := (Below.refl wr.heap.size wr).alloc (Nat.le_refl _) (.cells #[.int .i64 p, .int .i64 m] 50)
            have hZ := At.alloc wr [.int .i64 p, .int .i64 m] 50
            have y0 := cell_kept hO (HCL.out 0 (by decide))
            have z0 := (hZ.2 0 (by simp)).1
            have y1 := cell_kept hO (HCL.out 1 (by decide))
            have z1 := (hZ.2 1 (by simp)).1
            simp only [vcs, List.getElem?_cons_succ, List.getElem?_cons_zero, Nat.add_zero, Nat.mul_one, ← Nat.add_assoc, List.getElem_cons_succ, List.getElem_cons_zero] at y0 z0 y1 z1
            have hbl6' : b6 < (wr.alloc (.cells #[.int .i64 p, .int .i64 m] 50)).heap.size := by have := hO.size; omega
            clear hZ
            go_quiet (fail)
            go_wp2
            exact ⟨⟨q + 1, by go_num, hqk, by rw [HY.out.1]; go_num, by rw [HY.out.2.1]; go_num, by rw [HY.out.2.2.1]; go_num, by rw [HY.out.2.2.2], below_drewN (on_below hbr hO) _⟩, by simp [intOf]; omega⟩
        · obtain rfl : q = k := by omega
          rw [List.take_of_length_le (by rw [HLN.out]; exact Nat.le_refl _)]
          have hB8 := on_below hb8 hbr
          have hr9 := hrow8.on hbr
          generalize elast evs = LA at *
          obtain ⟨a6, c6, rfl⟩ := hs68.shape
          obtain ⟨a7, c7, rfl⟩ := hs78.shape
          obtain ⟨a8, c8, rfl⟩ := hs8.shape
          go_wp2_with (go_at_call 14; (with_reducible refine (HLA _ hr9).out.mono ?_); rintro e w9 ⟨rfl, b9⟩)
          go_ret
          exact ⟨rfl, on_below hB8 b9⟩
end Go.Proofs.YtcigklninmddaaaDoor
