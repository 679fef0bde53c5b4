/- The walk of SourceFree. -/
import Derived.Test.YtoecikeleoaecaaGreatSpeaks23
import Derived.Test.YtoecikeleoaecaaGreatSrcI
namespace Go.Proofs.YtoecikeleoaecaaGreat
set_option maxRecDepth 4000
open Go.ChangeShapes Go.WideShapes Go.ChangeAt Go.RowKit
open PHist PRing PSat PClamp PBound PFrame PVar PCrc PSign PTree PEv
set_option linter.unusedVariables false
set_option linter.unusedSimpArgs false

set_option maxRecDepth 100000 in
set_option maxHeartbeats 4000000 in
theorem walk_SourceFree (w : World) (c0 : Array Value) (d0 : (((List (Int × Int × Int × Int × Int × Unit)) × Int × Int × Unit) × (List ByteArray) × (List (Bool × Int × Unit)) × Unit)) (w0 : Rd w (.pair (.pair (.sl (.pair (.int .i64) (.pair (.int .i64) (.pair (.int .i64) (.pair (.int .i64) (.pair (.int .i64) .unit)))))) (.pair (.int .i64) (.pair (.int .i64) .unit))) (.pair (.sl .str) (.pair (.sl (.pair .bool (.pair (.int .i64) .unit))) .unit))) c0.toList d0) :
    Calls Tryz.prog 5 #[.agg c0] w fun e w' => e = .returned (.bool true) ∧ Below w.heap.size w w' := by
  obtain ⟨a, n, c, t, dr, b, m, c2, q, nq, c3, rs, ls, cs, rfl, hC⟩ := Rd.case w0
  clear w0
  have hbx : Below w.heap.size w (w.alloc (.cells #[.slice a n c, .int .i64 t, .int .i64 dr, .slice b m c2, .slice q nq c3] 28)) := (Below.refl _ _).alloc (Nat.le_refl _) _
  have hA0 := At.alloc w [.slice a n c, .int .i64 t, .int .i64 dr, .slice b m c2, .slice q nq c3] 28
  have hC0 := hC.on hbx
  have hsz : w.heap.size < (w.alloc (.cells #[.slice a n c, .int .i64 t, .int .i64 dr, .slice b m c2, .slice q nq c3] 28)).heap.size := hA0.1
  clear hC
  have HSP := fun wx => Lib.hid (speaks23 wx)
  go_enter Tryz.func5, Tryz.ntmps5
  go_wp2_with fail
  generalize w.alloc (.cells #[.slice a n c, .int .i64 t, .int .i64 dr, .slice b m c2, .slice q nq c3] 28) = w0 at *
  have HSM := fun wx (hx : Below w0.heap.size w0 wx) => Lib.hid (law_small a n c t dr b m c2 q nq c3 ls wx (hC0.on hx).hlo hC0.hm (fun s hs => hC0.hsl s hs))
  have HA := fun wx (hx : Below w0.heap.size w0 wx) => At.five (hA0.below hx hsz)
  go_wp2_with (go_at_call 12; (with_reducible refine (HSP _).out.mono ?_); rintro e w1 ⟨rfl, hb1⟩; obtain ⟨-, x0, -, x1, -, x2, -, x3, -, x4, -⟩ := HA _ hb1)
  go_at_call 13
  refine (HSM _ hb1).out.mono ?_
  intro e w2 hS
  obtain ⟨z, rfl, hz, hb2'⟩ := hS
  have hb2 := on_below hb1 hb2'
  obtain ⟨-, y0, -, y1, -, y2, -, y3, -, y4, -⟩ := HA _ hb2
  rcases hz with rfl | ⟨rfl, hSm⟩
  · go_wp2
    go_ret
    exact ⟨rfl, on_below hbx hb2⟩
  by_cases hz : nerr rs t dr m = 0
  · have HN := Lib.hid (case_new rs t dr ls a n c b m c2 w0 w2 hb2 hC0.hru hC0.hlo hC0.hn hC0.hm hz hSm.1 hC0.hfit hC0.ht hC0.hd hSm.2.2.2)
    have hpl := new_plen hC0.hm hz
    have hfar := new_far t dr rs (ls.map fun s => s.data.toList)
    have hel := newE_len t rs (ls.map fun s => s.data.toList)
    have hmn := (nerr_zero hz).2
    generalize St.new t dr rs (ls.map fun s => s.data.toList) = s0 at *
    generalize St.newE t rs (ls.map fun s => s.data.toList) = l0 at *
    have HL : Hid (l0.length ≤ 9) := by show l0.length ≤ 9; have := hSm.1; omega
    have hnq : nq ≤ 120 := hSm.2.1
    have hm8 : m ≤ 8 := hSm.1
    have HPL := Lib.hid hpl
    have HQ := Lib.hid hC0.hnq
    have HCI := Lib.hid hC0.hci
    have HCH := Lib.hid hC0.hch
    have HBX := Lib.hid hbx
    clear hpl hel hSm hz hb2' hmn HSM HSP
    clear hC0
    go_wp2_with (go_at_call 14; (with_reducible refine HN.out.mono ?_); intro e w3 hN; obtain ⟨tag, W, ev, V, g, rfl, hI, hb3⟩ := hN)
    go_loopw [5] (fun i wr => ∃ (k : Nat) (tag : Nat → Nat) (W : Nat → Nat → Prop) (ev : Value), k ≤ nq + 1 ∧ ∃ zi : Int, i = .int .i64 zi ∧ zi + 1 = k ∧ SrcI w0 wr tag W ev V g (s0.run (cs.take (k - 1))) (l0 ++ s0.runE (cs.take (k - 1))) l0.length) (fun i _ => nq + 1 - ((intOf i) + 1).toNat)
    case atStart =>
      refine ⟨0, tag, W, ev, Nat.zero_le _, -1, rfl, rfl, ?_⟩
      show SrcI w0 w3 tag W ev V g s0 (l0 ++ []) l0.length
      rw [List.append_nil]
      exact hI
    case round =>
      clear hI
      obtain ⟨k, tag, W, ev, hk, zi, rfl, hzi, hI⟩ := hrel
      obtain ⟨-, z0, -, z1, -, z2, -, z3, -, z4, -⟩ := HA _ hI.new
      by_cases hlt : k = nq + 1
      · obtain rfl : zi = nq := by omega
        have hb5 := hI.new
        clear hI hzi hlt
        go_wp2
        go_ret
        exact ⟨rfl, on_below HBX.out hb5⟩
      rcases k with _ | k
      · obtain rfl : zi = -1 := by omega
        clear hzi hlt
        have hq0 : (-1 : Int) < (nq : Int) := by omega
        have hI0 : SrcI w0 wr tag W ev V g (s0.run (cs.take 0)) (l0 ++ s0.runE (cs.take 0)) l0.length := hI
        clear hI
        go_wp2
        have hf3 := hfar.run (cs.take 0)
        have hn3 := run_len (cs.take 0) s0
        rw [HPL.out] at hn3
        generalize hs3 : s0.run (cs.take 0) = s3 at *
        generalize he3 : l0 ++ s0.runE (cs.take 0) = e3 at *
        have HS3 := Lib.hid hs3
        have HE3 := Lib.hid he3
        have HN3 := Lib.hid hn3
        have HF3 := Lib.hid hf3
        clear hs3 he3 hn3 hf3
        go_loopw [6, 7, 42] (fun f v i wx => ∃ p : Nat, p ≤ m ∧ i = .int .i64 p ∧ f = .bool (s3.freeTo p) ∧ SrcI w0 wx tag W ev V g s3 e3 l0.length) (fun _ _ i _ => m - (intOf i).toNat)
        case atStart => exact ⟨0, Nat.zero_le _, rfl, rfl, hI0⟩
        case round =>
          clear hI0
          obtain ⟨p, hp, rfl, rfl, hJ⟩ := hrel
          obtain ⟨-, u0, -, u1, -, u2, -, u3, -, u4, -⟩ := HA _ hJ.new
          by_cases hpm : p < m
          · cases hfr : s3.freeTo p
            · cases hrr : s3.refused p
              · have hnx := Lib.hid (free_next3 hfr hrr)
                have HR := Lib.hid (hJ.refused p false hrr)
                clear hfr hrr
                by_cases hss : ss s3.ps p < 2
                · have hnx2 := Lib.hid (hnx.out.trans (decide_eq_true hss))
                  clear hnx
                  generalize hgs : ss s3.ps p = y at *
                  have HGS := Lib.hid hgs
                  clear hgs
                  go_wp2_with (first | (go_at_call 29; (with_reducible refine HR.out.mono ?_); rintro e w4 ⟨rfl, hJ2⟩; have HT := Lib.hid (hJ2.status p (by rw [HN3.out]; exact hpm)); rw [HGS.out] at HT) | (go_at_call 25; (with_reducible refine HT.out.mono ?_); rintro e w5 ⟨rfl, rfl⟩))
                  go_roundw
                  case rel => exact ⟨p + 1, by omega, by go_num, by rw [hnx2.out], hJ2⟩
                  case measure => simp [intOf] <;> omega
                · have hnx2 := Lib.hid (hnx.out.trans (decide_eq_false hss))
                  have hss2 : 2 ≤ ss s3.ps p := by omega
                  clear hnx hss
                  generalize hgs : ss s3.ps p = y at *
                  have HGS := Lib.hid hgs
                  clear hgs
                  go_wp2_with (first | (go_at_call 29; (with_reducible refine HR.out.mono ?_); rintro e w4 ⟨rfl, hJ2⟩; have HT := Lib.hid (hJ2.status p (by rw [HN3.out]; exact hpm)); rw [HGS.out] at HT) | (go_at_call 25; (with_reducible refine HT.out.mono ?_); rintro e w5 ⟨rfl, rfl⟩))
                  go_roundw
                  case rel => exact ⟨p + 1, by omega, by go_num, by rw [hnx2.out, decide_eq_false (by omega)], hJ2⟩
                  case measure => simp [intOf] <;> omega
              · have hnx := Lib.hid (free_next2 hfr hrr)
                have HR := Lib.hid (hJ.refused p true hrr)
                clear hfr hrr
                go_wp2_with (first | (go_at_call 29; (with_reducible refine HR.out.mono ?_); rintro e w4 ⟨rfl, hJ2⟩))
                go_roundw
                case rel => exact ⟨p + 1, by omega, by go_num, by rw [hnx.out], hJ2⟩
                case measure => simp [intOf] <;> omega
            · have hnx := Lib.hid (free_next1 hfr)
              clear hfr
              go_wp2
              go_roundw
              case rel => exact ⟨p + 1, by omega, by go_num, by rw [hnx.out], hJ⟩
              case measure => simp [intOf] <;> omega
          · obtain rfl : p = m := by omega
            have hov := over_free hJ.ok HF3.out
            rw [HN3.out] at hov
            cases hfr : s3.freeTo p
            · rw [hfr] at hov
              have HO := Lib.hid (hJ.over true (by rw [HN3.out]; exact hov))
              clear hov hfr
              go_wp2_with (go_at_call 31; (with_reducible refine HO.out.mono ?_); rintro e w4 ⟨rfl, hJ2⟩)
              go_roundw
              case rel => exact ⟨1, _, _, _, Nat.le_add_left 1 nq, 0, by first | rfl | go_num, by omega, by show SrcI w0 _ _ _ _ V g (s0.run (cs.take 0)) (l0 ++ s0.runE (cs.take 0)) l0.length; rw [HS3.out, HE3.out]; exact hJ2⟩
              case measure => simp [intOf] <;> omega
            · rw [hfr] at hov
              have HO := Lib.hid (hJ.over false (by rw [HN3.out]; exact hov))
              clear hov hfr
              go_wp2_with (go_at_call 31; (with_reducible refine HO.out.mono ?_); rintro e w4 ⟨rfl, hJ2⟩)
              go_roundw
              case rel => exact ⟨1, _, _, _, Nat.le_add_left 1 nq, 0, by first | rfl | go_num, by omega, by show SrcI w0 _ _ _ _ V g (s0.run (cs.take 0)) (l0 ++ s0.runE (cs.take 0)) l0.length; rw [HS3.out, HE3.out]; exact hJ2⟩
              case measure => simp [intOf] <;> omega
      · obtain rfl : zi = k := by omega
        have hlt2 : k < nq := by omega
        have hkc : k < cs.length := by rw [← HQ.out]; exact hlt2
        clear hzi hlt
        have hI0 : SrcI w0 wr tag W ev V g (s0.run (cs.take k)) (l0 ++ s0.runE (cs.take k)) l0.length := hI
        clear hI
        have hrow := HCH.out.below hI0.new
        obtain ⟨bq, offq, hq', -, -⟩ := hrow.at_ k hkc
        have HQ' := Lib.hid hq'
        subst hq'
        obtain ⟨hbq, r0, r1⟩ := RowC.cells hrow k hkc
        have hin := HCI.out _ (List.getElem_mem hkc)
        have hrl := runE_len (cs.take k) s0
        rw [List.length_take] at hrl
        have hel : (l0 ++ s0.runE (cs.take k)).length ≤ 90000 := by rw [List.length_append]; have := HL.out; omega
        have HD := Lib.hid (hI0.do_ cs[k] hin hel)
        rw [← run_take s0 cs k hkc, List.append_assoc, ← runE_take s0 cs k hkc] at HD
        clear hrl hel hrow
        generalize hck : cs[k] = x at *
        have HCK := Lib.hid hck
        clear hck
        obtain ⟨ct, cn⟩ := x
        simp only at r0 r1 hin
        go_wp2_with (first | (go_at_call 21; (with_reducible refine HD.out.mono ?_); intro e w4 hD; obtain ⟨v, tag2, W2, ev2, rfl, -, hI3, -, -⟩ := hD; obtain ⟨-, t0, -, t1, -, t2, -, t3, -, t4, -⟩ := HA _ hI3.new))
        have hf3 := hfar.run (cs.take (k + 1))
        have hn3 := run_len (cs.take (k + 1)) s0
        rw [HPL.out] at hn3
        generalize hs3 : s0.run (cs.take (k + 1)) = s3 at *
        generalize he3 : l0 ++ s0.runE (cs.take (k + 1)) = e3 at *
        have HS3 := Lib.hid hs3
        have HE3 := Lib.hid he3
        have HN3 := Lib.hid hn3
        have HF3 := Lib.hid hf3
        clear hs3 he3 hn3 hf3
        go_loopw [6, 7, 42] (fun f v i wx => ∃ p : Nat, p ≤ m ∧ i = .int .i64 p ∧ f = .bool (s3.freeTo p) ∧ SrcI w0 wx tag2 W2 ev2 V g s3 e3 l0.length) (fun _ _ i _ => m - (intOf i).toNat)
        case atStart => exact ⟨0, Nat.zero_le _, rfl, rfl, hI3⟩
        case round =>
          clear hI3
          obtain ⟨p, hp, rfl, rfl, hJ⟩ := hrel
          obtain ⟨-, u0, -, u1, -, u2, -, u3, -, u4, -⟩ := HA _ hJ.new
          by_cases hpm : p < m
          · cases hfr : s3.freeTo p
            · cases hrr : s3.refused p
              · have hnx := Lib.hid (free_next3 hfr hrr)
                have HR := Lib.hid (hJ.refused p false hrr)
                clear hfr hrr
                by_cases hss : ss s3.ps p < 2
                · have hnx2 := Lib.hid (hnx.out.trans (decide_eq_true hss))
                  clear hnx
                  generalize hgs : ss s3.ps p = y at *
                  have HGS := Lib.hid hgs
                  clear hgs
                  go_wp2_with (first | (go_at_call 29; (with_reducible refine HR.out.mono ?_); rintro e w4 ⟨rfl, hJ2⟩; have HT := Lib.hid (hJ2.status p (by rw [HN3.out]; exact hpm)); rw [HGS.out] at HT) | (go_at_call 25; (with_reducible refine HT.out.mono ?_); rintro e w5 ⟨rfl, rfl⟩))
                  go_roundw
                  case rel => exact ⟨p + 1, by omega, by go_num, by rw [hnx2.out], hJ2⟩
                  case measure => simp [intOf] <;> omega
                · have hnx2 := Lib.hid (hnx.out.trans (decide_eq_false hss))
                  have hss2 : 2 ≤ ss s3.ps p := by omega
                  clear hnx hss
                  generalize hgs : ss s3.ps p = y at *
                  have HGS := Lib.hid hgs
                  clear hgs
                  go_wp2_with (first | (go_at_call 29; (with_reducible refine HR.out.mono ?_); rintro e w4 ⟨rfl, hJ2⟩; have HT := Lib.hid (hJ2.status p (by rw [HN3.out]; exact hpm)); rw [HGS.out] at HT) | (go_at_call 25; (with_reducible refine HT.out.mono ?_); rintro e w5 ⟨rfl, rfl⟩))
                  go_roundw
                  case rel => exact ⟨p + 1, by omega, by go_num, by rw [hnx2.out, decide_eq_false (by omega)], hJ2⟩
                  case measure => simp [intOf] <;> omega
              · have hnx := Lib.hid (free_next2 hfr hrr)
                have HR := Lib.hid (hJ.refused p true hrr)
                clear hfr hrr
                go_wp2_with (first | (go_at_call 29; (with_reducible refine HR.out.mono ?_); rintro e w4 ⟨rfl, hJ2⟩))
                go_roundw
                case rel => exact ⟨p + 1, by omega, by go_num, by rw [hnx.out], hJ2⟩
                case measure => simp [intOf] <;> omega
            · have hnx := Lib.hid (free_next1 hfr)
              clear hfr
              go_wp2
              go_roundw
              case rel => exact ⟨p + 1, by omega, by go_num, by rw [hnx.out], hJ⟩
              case measure => simp [intOf] <;> omega
          · obtain rfl : p = m := by omega
            have hov := over_free hJ.ok HF3.out
            rw [HN3.out] at hov
            cases hfr : s3.freeTo p
            · rw [hfr] at hov
              have HO := Lib.hid (hJ.over true (by rw [HN3.out]; exact hov))
              clear hov hfr
              go_wp2_with (go_at_call 31; (with_reducible refine HO.out.mono ?_); rintro e w4 ⟨rfl, hJ2⟩)
              go_roundw
              case rel => exact ⟨k + 2, _, _, _, by omega, k + 1, by first | rfl | go_num, by omega, by show SrcI w0 _ _ _ _ V g (s0.run (cs.take (k + 1))) (l0 ++ s0.runE (cs.take (k + 1))) l0.length; rw [HS3.out, HE3.out]; exact hJ2⟩
              case measure => simp [intOf] <;> omega
            · rw [hfr] at hov
              have HO := Lib.hid (hJ.over false (by rw [HN3.out]; exact hov))
              clear hov hfr
              go_wp2_with (go_at_call 31; (with_reducible refine HO.out.mono ?_); rintro e w4 ⟨rfl, hJ2⟩)
              go_roundw
              case rel => exact ⟨k + 2, _, _, _, by omega, k + 1, by first | rfl | go_num, by omega, by show SrcI w0 _ _ _ _ V g (s0.run (cs.take (k + 1))) (l0 ++ s0.runE (cs.take (k + 1))) l0.length; rw [HS3.out, HE3.out]; exact hJ2⟩
              case measure => simp [intOf] <;> omega
  · have HN := Lib.hid (so_new_none rs t dr ls a n c b m c2 w2 (hC0.hru.below hb2) hC0.hn (by have := hSm.2.2.1; omega) hC0.hm _ rfl hz)
    have hz0 : (nerr rs t dr m != 0) = true := by rw [bne_iff_ne]; exact hz
    clear hz
    generalize nerr rs t dr m = zz at *
    go_wp2_with (go_at_call 14; (with_reducible refine HN.out.mono ?_); rintro e w3 ⟨rfl, hb3⟩)
    go_ret
    exact ⟨rfl, on_below hbx (on_below hb2 hb3)⟩
end Go.Proofs.YtoecikeleoaecaaGreat
