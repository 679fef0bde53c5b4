/- The walk of JudgeNone. -/
import Derived.Test.YtmimfkhkilijcaaGreatKSp25
import Derived.Test.YtmimfkhkilijcaaGreatCase25
import Derived.Test.YtmimfkhkilijcaaGreatKJuC
import Derived.Test.YtmimfkhkilijcaaGreatKJuD
namespace Go.Proofs.YtmimfkhkilijcaaGreat
set_option maxRecDepth 4000
open Go.ChangeShapes Go.WideShapes Go.ChangeAt Go.RowKit
open PHist PRing PSat PClamp PBound PFrame PVar PCrc PSign PTree PEv
set_option linter.unusedVariables false
set_option linter.unusedSimpArgs false

set_option maxRecDepth 100000 in
set_option maxHeartbeats 4000000 in
theorem walk_JudgeNone (w : World) (c0 : Array Value) (d0 : (((List (Int × Int × Int × Int × Int × Unit)) × Int × Int × Unit) × (List ByteArray) × (List (Bool × Int × Unit)) × Unit)) (w0 : Rd w (.pair (.pair (.sl (.pair (.int .i64) (.pair (.int .i64) (.pair (.int .i64) (.pair (.int .i64) (.pair (.int .i64) .unit)))))) (.pair (.int .i64) (.pair (.int .i64) .unit))) (.pair (.sl .str) (.pair (.sl (.pair .bool (.pair (.int .i64) .unit))) .unit))) c0.toList d0) :
    Calls Tryz.prog 4 #[.agg c0] w fun e w' => e = .returned (.bool true) ∧ Below w.heap.size w w' := by
  obtain ⟨a, n, c, t, dr, b, m, c2, q, nq, c3, rs, ls, cs, rfl, hC⟩ := Rd.case w0
  clear w0
  have hbx : Below w.heap.size w (w.alloc (.cells #[.slice a n c, .int .i64 t, .int .i64 dr, .slice b m c2, .slice q nq c3] 28)) := (Below.refl _ _).alloc (Nat.le_refl _) _
  have hA0 := At.alloc w [.slice a n c, .int .i64 t, .int .i64 dr, .slice b m c2, .slice q nq c3] 28
  have hC0 := hC.on hbx
  have hsz : w.heap.size < (w.alloc (.cells #[.slice a n c, .int .i64 t, .int .i64 dr, .slice b m c2, .slice q nq c3] 28)).heap.size := hA0.1
  clear hC
  have HSP := fun wx => Lib.hid (speaks25 wx)
  go_enter Tryz.func4, Tryz.ntmps4
  go_wp2_with fail
  generalize w.alloc (.cells #[.slice a n c, .int .i64 t, .int .i64 dr, .slice b m c2, .slice q nq c3] 28) = w0 at *
  have HSM := fun wx (hx : Below w0.heap.size w0 wx) => Lib.hid (law_small a n c t dr b m c2 q nq c3 ls wx (hC0.on hx).hlo hC0.hm (fun s hs => hC0.hsl s hs))
  have HA := fun wx (hx : Below w0.heap.size w0 wx) => At.five (hA0.below hx hsz)
  go_wp2_with (go_at_call 8; (with_reducible refine (HSP _).out.mono ?_); rintro e w1 ⟨rfl, hb1⟩; obtain ⟨-, x0, -, x1, -, x2, -, x3, -, x4, -⟩ := HA _ hb1)
  go_at_call 9
  refine (HSM _ hb1).out.mono ?_
  intro e w2 hS
  obtain ⟨z, rfl, hz, hb2'⟩ := hS
  have hb2 := on_below hb1 hb2'
  obtain ⟨-, y0, -, y1, -, y2, -, y3, -, y4, -⟩ := HA _ hb2
  rcases hz with rfl | ⟨rfl, hSm⟩
  · go_wp2
    go_ret
    exact ⟨rfl, on_below hbx hb2⟩
  have h4 : ∀ s ∈ ls, s.size ≤ 100000 := fun s hs => Nat.le_trans (hSm.2.2.2 s hs) (by omega)
  have HOR := fun o (ho : orderlyB rs (lgsOf ls) = o) => Lib.hid (ju_orderly rs t dr a n c ls b m c2 w2 (hC0.hru.below hb2) hC0.hn (by have := hSm.2.2.1; omega) hC0.hfit (hC0.hlo.below hb2) hC0.hm (by have := hSm.1; omega) h4 o ho)
  clear h4
  cases hord : orderlyB rs (lgsOf ls)
  · have HO := HOR false hord
    clear HOR hord HSP HSM hSm hC0
    go_wp2_with (go_at_call 15; (with_reducible refine HO.out.mono ?_); rintro e w3 ⟨rfl, hb3⟩)
    go_ret
    exact ⟨rfl, on_below hbx (on_below hb2 hb3)⟩
  have HO := HOR true hord
  clear HOR
  by_cases hz : nerr rs t dr m = 0
  · have HN := fun wx (hx : Below w0.heap.size w0 wx) => Lib.hid (case_new rs t dr ls a n c b m c2 w0 wx hx hC0.hru hC0.hlo hC0.hn hC0.hm hz hSm.1 hC0.hfit hC0.ht hC0.hd hSm.2.2.2)
    have hG := good25 hC0 hSm hz
    have hpl := new_plen hC0.hm hz
    have hel := newE_len t rs (ls.map fun s => s.data.toList)
    have hlate := fun ha => none_late hG.hn hG.ok hord cs ha
    have hmn := (nerr_zero hz).2
    generalize St.new t dr rs (ls.map fun s => s.data.toList) = s0 at *
    generalize St.newE t rs (ls.map fun s => s.data.toList) = l0 at *
    have HL : Hid (l0.length ≤ 9) := by show l0.length ≤ 9; have := hSm.1; omega
    have hnq : nq ≤ 120 := hSm.2.1
    have hm8 : m ≤ 8 := hSm.1
    have HPL := Lib.hid hpl
    have HQ := Lib.hid hC0.hnq
    have HCI := Lib.hid hC0.hci
    have HCH := Lib.hid hC0.hch
    have HBX := Lib.hid hbx
    have HLT := Lib.hid hlate
    clear hpl hel hSm hz hb2' hmn HSP HSM hlate hG hord hbx
    clear hC0
    go_wp2_with (first | (go_at_call 15; (with_reducible refine HO.out.mono ?_); rintro e w3 ⟨rfl, hb3'⟩; have hb3 := on_below hb2 hb3'; have HN3 := HN w3 hb3; obtain ⟨-, u0, -, u1, -, u2, -, u3, -, u4, -⟩ := HA _ hb3) | (go_at_call 16; (with_reducible refine HN3.out.mono ?_); intro e w4 hN; obtain ⟨tag, W, ev, V, g, rfl, hI, hb4'⟩ := hN; have hb4 := on_below hb3 hb4'; obtain ⟨-, v0, -, v1, -, v2, -, v3, -, v4, -⟩ := HA _ hb4))
    go_loopw [34] (fun i wr => ∃ (k : Nat) (tag : Nat → Nat) (W : Nat → Nat → Prop) (ev : Value), k ≤ nq ∧ i = .int .i64 k ∧ SrcI w0 wr tag W ev V g (s0.run (cs.take k)) (l0 ++ s0.runE (cs.take k)) l0.length ∧ Hid (∀ j, 1 ≤ j → j ≤ k → (s0.run (cs.take j)).Awake)) (fun i _ => nq - (intOf i).toNat)
    case atStart =>
      refine ⟨0, tag, W, ev, Nat.zero_le _, rfl, ?_, fun j h1 h2 => by omega⟩
      show SrcI w0 w4 tag W ev V g s0 (l0 ++ []) l0.length
      rw [List.append_nil]
      exact hI
    case round =>
      clear hI
      obtain ⟨k, tag, W, ev, hk, rfl, hI, HAW⟩ := hrel
      obtain ⟨-, z0, -, z1, -, z2, -, z3, -, z4, -⟩ := HA _ hI.new
      by_cases hlt : k < nq
      · have hkc : k < cs.length := by rw [← HQ.out]; exact hlt
        have hrow := HCH.out.below hI.new
        obtain ⟨bq, offq, hq', -, -⟩ := hrow.at_ k hkc
        have HQ' := Lib.hid hq'
        subst hq'
        obtain ⟨hbq, r0, r1⟩ := RowC.cells hrow k hkc
        have hin := HCI.out _ (List.getElem_mem hkc)
        have hrl := runE_len (cs.take k) s0
        rw [List.length_take] at hrl
        have hel : (l0 ++ s0.runE (cs.take k)).length ≤ 90000 := by rw [List.length_append]; have := HL.out; omega
        have hba := (Below.refl wr.heap.size wr).alloc (Nat.le_refl _) (.cells (chc cs[k]).toArray 44)
        have hI2 := hI.on hba
        have HD := Lib.hid (hI2.do_ cs[k] hin hel)
        rw [← run_take s0 cs k hkc, List.append_assoc, ← runE_take s0 cs k hkc] at HD
        clear hrl hel hrow
        generalize hck : cs[k] = x at *
        have HCK := Lib.hid hck
        clear hck
        obtain ⟨ct, cn⟩ := x
        simp only at r0 r1 hin
        simp only [chc] at HD hba hI2
        go_wp2_with (first | (go_at_call 17; (with_reducible refine HD.out.mono ?_); intro e w5 hD; obtain ⟨v, tag2, W2, ev2, rfl, -, hI3, -, -⟩ := hD; obtain ⟨-, t0, -, t1, -, t2, -, t3, -, t4, -⟩ := HA _ hI3.new))
        have hn3 := run_len (cs.take (k + 1)) s0
        rw [HPL.out] at hn3
        generalize hs3 : s0.run (cs.take (k + 1)) = s3 at *
        generalize he3 : l0 ++ s0.runE (cs.take (k + 1)) = e3 at *
        have HS3 := Lib.hid hs3
        have HE3 := Lib.hid he3
        have HN3 := Lib.hid hn3
        clear hs3 he3 hn3
        go_loopw [7, 44] (fun _ i wx => ∃ p : Nat, p ≤ m ∧ i = .int .i64 p ∧ wx = w5 ∧ Hid (∀ j, j < p → ss s3.ps j ≠ 1)) (fun _ i _ => m - (intOf i).toNat)
        case atStart => exact ⟨0, Nat.zero_le _, rfl, rfl, fun j h => (Nat.not_lt_zero _ h).elim⟩
        case round =>
          obtain ⟨p, hp, rfl, rfl, HP⟩ := hrel
          by_cases hpm : p < m
          · have HT := Lib.hid (hI3.status p (by rw [HN3.out]; exact hpm))
            by_cases h1 : ss s3.ps p = 1
            · rw [h1] at HT
              clear h1
              go_wp2_with (first | (go_at_call 18; (with_reducible refine HT.out.mono ?_); rintro e w6 ⟨rfl, rfl⟩))
              go_ret
              exact ⟨rfl, on_below HBX.out hI3.new⟩
            · have HP2 : Hid (∀ j, j < p + 1 → ss s3.ps j ≠ 1) := fun j hj => by
                by_cases e : j = p
                · subst e; exact h1
                · exact HP.out j (by omega)
              generalize ss s3.ps p = y at *
              go_wp2_with (first | (go_at_call 18; (with_reducible refine HT.out.mono ?_); rintro e w6 ⟨rfl, rfl⟩))
              go_roundw
              case rel => exact ⟨p + 1, by omega, by go_num, by trivial, HP2⟩
              case measure => simp [intOf] <;> omega
          · obtain rfl : p = m := by omega
            have HAW2 : Hid (∀ j, 1 ≤ j → j ≤ k + 1 → (s0.run (cs.take j)).Awake) := fun j h1 h2 => by
              by_cases e : j = k + 1
              · subst e
                rw [HS3.out]
                intro i hi
                exact HP.out i (by rw [HN3.out] at hi; exact hi)
              · exact HAW.out j h1 (by omega)
            go_wp2
            go_roundw
            case rel => exact ⟨k + 1, tag2, W2, ev2, by omega, by go_num, by rw [HS3.out, HE3.out]; exact hI3, HAW2⟩
            case measure => simp [intOf] <;> omega
      · obtain rfl : k = nq := by omega
        have hrl := runE_len cs s0
        rw [List.take_of_length_le (by rw [HQ.out]; exact Nat.le_refl _)] at hI
        have hel : (l0 ++ s0.runE cs).length ≤ 100000 := by rw [List.length_append]; have := HL.out; have := HQ.out; omega
        have hlz := HLT.out (fun j h1 h2 => HAW.out j h1 (by rw [HQ.out]; exact h2))
        have HE := Lib.hid (so_events tag W ev V g _ wr hI.src hel)
        rw [show (loOf (s0.run cs) (l0 ++ s0.runE cs) l0.length).evs = l0 ++ s0.runE cs from rfl] at HE
        generalize l0 ++ s0.runE cs = L at *
        have HZ := fun wx (ae : Option Addr) (ce N : Nat) (hN : N = L.length) (hr : RowE wx ae L) => Lib.hid (ju_lates ae N ce L wx hr hN (by omega) 0 hlz)
        have hnw := Lib.hid hI.new
        clear hrl hel hI hlz
        go_wp2_with (first | (go_at_call 20; (with_reducible refine HE.out.mono ?_); rintro e w6 ⟨v, rfl, q1, q2⟩; obtain ⟨-, ae, ce, hv, hEv⟩ := rowe_of_sl q1; subst hv; obtain ⟨N, hN⟩ : ∃ N, L.length = N := ⟨_, rfl⟩; rw [hN]; have HZ1 := HZ w6 ae ce N hN.symm hEv) | (go_at_call 19; (with_reducible refine HZ1.out.mono ?_); rintro e w7 ⟨rfl, hb7⟩))
        go_ret
        exact ⟨rfl, on_below HBX.out (on_below (on_below hnw.out q2) hb7)⟩
  · have HN := fun wx (hx : Below w0.heap.size w0 wx) => Lib.hid (so_new_none rs t dr ls a n c b m c2 wx (hC0.hru.below hx) hC0.hn (by have := hSm.2.2.1; omega) hC0.hm _ rfl hz)
    have hz0 : (nerr rs t dr m != 0) = true := by rw [bne_iff_ne]; exact hz
    clear hz hord
    generalize nerr rs t dr m = zz at *
    go_wp2_with (first | (go_at_call 15; (with_reducible refine HO.out.mono ?_); rintro e w3 ⟨rfl, hb3'⟩; have hb3 := on_below hb2 hb3'; have HN3 := HN w3 hb3; obtain ⟨-, u0, -, u1, -, u2, -, u3, -, u4, -⟩ := HA _ hb3) | (go_at_call 16; (with_reducible refine HN3.out.mono ?_); rintro e w4 ⟨rfl, hb4⟩))
    go_ret
    exact ⟨rfl, on_below hbx (on_below hb3 hb4)⟩
end Go.Proofs.YtmimfkhkilijcaaGreat
