/- The walk of SourceSame. -/
import Derived.Test.YtoecikeleoaecaaGreatSpeaks23
import Derived.Test.YtoecikeleoaecaaGreatTaken
namespace Go.Proofs.YtoecikeleoaecaaGreat
set_option maxRecDepth 4000
open Go.ChangeShapes Go.WideShapes Go.ChangeAt Go.RowKit
open PHist PRing PSat PClamp PBound PFrame PVar PCrc PSign PTree PEv
set_option linter.unusedVariables false
set_option linter.unusedSimpArgs false

set_option maxRecDepth 100000 in
set_option maxHeartbeats 8000000 in
theorem walk_SourceSame (w : World) (c0 : Array Value) (d0 : (((List (Int × Int × Int × Int × Int × Unit)) × Int × Int × Unit) × (List ByteArray) × (List (Bool × Int × Unit)) × Unit)) (w0 : Rd w (.pair (.pair (.sl (.pair (.int .i64) (.pair (.int .i64) (.pair (.int .i64) (.pair (.int .i64) (.pair (.int .i64) .unit)))))) (.pair (.int .i64) (.pair (.int .i64) .unit))) (.pair (.sl .str) (.pair (.sl (.pair .bool (.pair (.int .i64) .unit))) .unit))) c0.toList d0) :
    Calls Tryz.prog 6 #[.agg c0] w fun e w' => e = .returned (.bool true) ∧ Below w.heap.size w w' := by
  obtain ⟨a, n, c, t, dr, b, m, c2, q, nq, c3, rs, ls, cs, rfl, hC⟩ := Rd.case w0
  clear w0
  have hbx : Below w.heap.size w (w.alloc (.cells #[.slice a n c, .int .i64 t, .int .i64 dr, .slice b m c2, .slice q nq c3] 28)) := (Below.refl _ _).alloc (Nat.le_refl _) _
  have hA0 := At.alloc w [.slice a n c, .int .i64 t, .int .i64 dr, .slice b m c2, .slice q nq c3] 28
  have hC0 := hC.on hbx
  have hsz : w.heap.size < (w.alloc (.cells #[.slice a n c, .int .i64 t, .int .i64 dr, .slice b m c2, .slice q nq c3] 28)).heap.size := hA0.1
  clear hC
  have HSP := fun wx => Lib.hid (speaks23 wx)
  go_enter Tryz.func6, Tryz.ntmps6
  go_wp2_with fail
  generalize w.alloc (.cells #[.slice a n c, .int .i64 t, .int .i64 dr, .slice b m c2, .slice q nq c3] 28) = w0 at *
  have HSM := fun wx (hx : Below w0.heap.size w0 wx) => Lib.hid (law_small a n c t dr b m c2 q nq c3 ls wx (hC0.on hx).hlo hC0.hm (fun s hs => hC0.hsl s hs))
  have HA := fun wx (hx : Below w0.heap.size w0 wx) => At.five (hA0.below hx hsz)
  go_wp2_with (go_at_call 12; (with_reducible refine (HSP _).out.mono ?_); rintro e w1 ⟨rfl, hb1⟩; obtain ⟨-, x0, -, x1, -, x2, -, x3, -, x4, -⟩ := HA _ hb1)
  go_at_call 13
  refine (HSM _ hb1).out.mono ?_
  intro e w2 hS
  obtain ⟨z, rfl, hz, hb2'⟩ := hS
  have hb2 := on_below hb1 hb2'
  obtain ⟨-, y0, -, y1, -, y2, -, y3, -, y4, -⟩ := HA _ hb2
  rcases hz with rfl | ⟨rfl, hSm⟩
  · go_wp2
    go_ret
    exact ⟨rfl, on_below hbx hb2⟩
  by_cases hz : nerr rs t dr m = 0
  · have HN := Lib.hid (case_new rs t dr ls a n c b m c2 w0 w2 hb2 hC0.hru hC0.hlo hC0.hn hC0.hm hz hSm.1 hC0.hfit hC0.ht hC0.hd hSm.2.2.2)
    have hpl := new_plen hC0.hm hz
    have hfar := new_far t dr rs (ls.map fun s => s.data.toList)
    have hel := newE_len t rs (ls.map fun s => s.data.toList)
    have hmn := (nerr_zero hz).2
    have HP := fun (wx : World) (hx : Below w0.heap.size w0 wx) (qa : Option Addr) (qc : Nat) (ts : List (Bool × Int)) (nt : Nat) (hnt : nt = ts.length) (hrow : RowG wx 2 chc qa ts) (hin : ∀ x ∈ ts, in64 x.2) (hle : nt ≤ 1000) => Lib.hid (so_play rs t dr ls ts a n c b m c2 qa nt qc wx (hC0.hru.below hx) (hC0.hlo.below hx) hrow hC0.hn hC0.hm hnt hz hSm.1 hC0.hfit hC0.ht hC0.hd hSm.2.2.2 hin hle)
    generalize St.new t dr rs (ls.map fun s => s.data.toList) = s0 at *
    generalize St.newE t rs (ls.map fun s => s.data.toList) = l0 at *
    have HL : Hid (l0.length ≤ 9) := by show l0.length ≤ 9; have := hSm.1; omega
    have hnq : nq ≤ 120 := hSm.2.1
    have hm8 : m ≤ 8 := hSm.1
    have HPL := Lib.hid hpl
    have HQ := Lib.hid hC0.hnq
    have HCI := Lib.hid hC0.hci
    have HCH := Lib.hid hC0.hch
    have HBX := Lib.hid hbx
    clear hpl hel hSm hz hb2' hmn HSM HSP
    clear hC0
    obtain ⟨i0, hi, hz0, hz1, hz2⟩ := info_parts info_ch
    go_wp2_with (go_at_call 14; (with_reducible refine HN.out.mono ?_); intro e w3 hN; obtain ⟨tag, W, ev, V, g, rfl, hI, hb3⟩ := hN; obtain ⟨-, o0, -, o1, -, o2, -, o3, -, o4, -⟩ := HA _ hI.new)
    go_loopw [5, 31] (fun v i wr => ∃ (k : Nat) (tag : Nat → Nat) (W : Nat → Nat → Prop) (ev : Value), k ≤ nq ∧ i = .int .i64 k ∧ SrcT w0 wr tag W ev V g (s0.run (cs.take k)) (l0 ++ s0.runE (cs.take k)) l0.length v (s0.takes (cs.take k))) (fun _ i _ => nq - (intOf i).toNat)
    case atStart =>
      refine ⟨0, tag, W, ev, Nat.zero_le _, rfl, ?_⟩
      show SrcT w0 w3 tag W ev V g s0 (l0 ++ []) l0.length _ []
      rw [List.append_nil]
      exact ⟨hI, Sl.nil _ _ _, fun b hb => by cases hb⟩
    case round =>
      clear hI
      obtain ⟨k, tag, W, ev, hk, rfl, hT⟩ := hrel
      obtain ⟨-, z0, -, z1, -, z2, -, z3, -, z4, -⟩ := HA _ hT.src.new
      by_cases hlt : k < nq
      · have hkc : k < cs.length := by rw [← HQ.out]; exact hlt
        have hrow := HCH.out.below hT.src.new
        obtain ⟨bq, offq, hq', -, -⟩ := hrow.at_ k hkc
        subst hq'
        obtain ⟨hbq, r0, r1⟩ := RowC.cells hrow k hkc
        have hin := HCI.out _ (List.getElem_mem hkc)
        have hrl := runE_len (cs.take k) s0
        rw [List.length_take] at hrl
        have hel : (l0 ++ s0.runE (cs.take k)).length ≤ 90000 := by rw [List.length_append]; have := HL.out; omega
        have htk := takes_len (cs.take k) s0
        rw [List.length_take] at htk
        have hS1 := run_take s0 cs k hkc
        have hE1 := runE_take s0 cs k hkc
        have hT1 := takes_take s0 cs k hkc
        generalize hck : cs[k] = x at *
        have HCK := Lib.hid hck
        clear hck hrow
        obtain ⟨ct, cn⟩ := x
        simp only at r0 r1 hin
        have hn3 : (s0.takes (cs.take k)).length ≤ 120 := by omega
        have HN3 := Lib.hid hn3
        clear hn3 htk hrl
        obtain ⟨at_, ctk, hvt⟩ := hT.row.shape
        subst hvt
        have hbc : Below wr.heap.size wr (wr.alloc (.cells #[.bool ct, .int .i64 cn] 48)) := (Below.refl _ _).alloc (Nat.le_refl _) _
        have hA3 := At.alloc wr [.bool ct, .int .i64 cn] 48
        have hT2 := hT.re.on hbc
        clear hT hbc
        cases ct
        · cases hrf : (s0.run (cs.take k)).refused cn
          · have HTG : Hid (retag tag wr.heap.size 0 wr.heap.size = 0) := retag_new (Nat.le_refl _)

            have HR := Lib.hid (so_refused _ W ev V g _ cn false _ hT2.src.src (Nat.le_refl _) hT2.src.is hrf)
            have hv := vain_p hrf
            clear hrf

            rw [hv] at hT1

            have hN0 := doE_len (s0.run (cs.take k)) (false, cn)
            simp only [Bool.false_eq_true, if_false] at hT1

            clear hv
            generalize hN5 : ((s0.run (cs.take k)).doE (false, cn)).length = N5 at *
            generalize hS5 : s0.run (cs.take (k + 1)) = s5 at *
            generalize hE5 : l0 ++ s0.runE (cs.take (k + 1)) = e5 at *
            generalize hT5 : s0.takes (cs.take (k + 1)) = t5 at *
            generalize s0.takes (cs.take k) = t4 at *
            have HS1 := Lib.hid hS1
            have HE1 := Lib.hid hE1
            have HT1 := Lib.hid hT1.symm
            have HN5 := Lib.hid hN5
            have HS5 := Lib.hid hS5
            have HE5 := Lib.hid hE5
            have HT5 := Lib.hid hT5
            clear hS1 hE1 hT1 hN5 hS5 hE5 hT5

            go_wp2_with (first | (go_at_call 29; (with_reducible refine HR.out.mono ?_); rintro e w9 ⟨rfl, hq3⟩; have hb9 := on_quiet hq3; clear hq3; have hT3 := hT2.on hb9; have HA4 := Lib.hid (hA3.on hb9); have HD := Lib.hid (hT3.does (false, cn) hin hel); rw [← HS1.out, List.append_assoc, ← HE1.out, HE5.out, HN5.out] at HD; obtain ⟨hgc, g0, g1, g2, g3⟩ := HA4.out.two; clear hT3) | (go_at_call 21; (with_reducible refine HD.out.mono ?_); intro e w4 hD; obtain ⟨v5, tag2, W2, ev2, rfl, hL5, hkeep⟩ := hD; obtain ⟨a5, c5, rfl⟩ := hL5.lst.elim fun xs k => k.shape; obtain ⟨hgd, d0, d1, d2, d3⟩ := (hkeep _ _ HTG.out HA4.out).two; clear hkeep) | (at_builtin; refine wpList_append_sl _ rfl (.tmp 64) (.tmp 66) 26 26 rfl 48 i0 _ 16 Tryz.underlying26 hi hz0 hz1 hz2 rfl rfl (hL5.t.row.alloc _) _ 1 [.bool false, .int .i64 cn] rfl (src_cells Tryz.underlying26 _ _ _ _ (by simp) 2 rfl (chc_one (false, cn))) (by have := HN3.out; unfold maxLen; omega) (by have := HN3.out; omega) (by have := hL5.t.src.new.size; simp; omega) ?_; intro v6 w6 k1 k2 k3; have hL6 := hL5.app (x := (false, cn)) k1 k2 k3; rw [HT1.out] at hL6; clear k1 k2 k3 hL5))

            go_loopw [70] (fun i wx => ∃ p : Nat, p ≤ N5 ∧ i = .int .i64 p ∧ SrcL w0 wx (retag tag2 w4.heap.size 0) W2 ev2 V g s5 e5 l0.length v6 t5 (.slice a5 N5 c5) N5) (fun i _ => N5 - (intOf i).toNat)
            case atStart => exact ⟨0, Nat.zero_le _, rfl, hL6⟩
            case round =>
              clear hL6
              obtain ⟨p, hp, rfl, hJ⟩ := hrel
              by_cases hpN : p < N5
              · obtain ⟨gl, off, y, rfl, hgl, f0, f1⟩ := hJ.at_ p hpN
                have hJ2 := Lib.hid (hJ.poke p hpN (.iface 65 (.agg #[.int .i64 0])))
                clear hJ
                go_wp2
                go_roundw
                case rel => exact ⟨p + 1, by omega, by go_num, hJ2.out⟩
                case measure => simp [intOf] <;> omega
              · obtain rfl : p = N5 := by omega
                have hJt := hJ.t
                rw [← HS5.out, ← HE5.out, ← HT5.out] at hJt
                clear hJ
                have HJT := Lib.hid hJt
                clear hJt
                go_wp2
                go_roundw
                case rel => exact ⟨k + 1, _, _, _, by omega, by go_num, HJT.out⟩
                case measure => simp [intOf] <;> omega
          · have HTG : Hid (retag tag wr.heap.size 0 wr.heap.size = 0) := retag_new (Nat.le_refl _)

            have HR := Lib.hid (so_refused _ W ev V g _ cn true _ hT2.src.src (Nat.le_refl _) hT2.src.is hrf)
            have hv := vain_p hrf
            clear hrf

            rw [hv] at hT1

            have hN0 : ((s0.run (cs.take k)).doE (false, cn)).length ≤ 0 := by rw [(vain_same hv).2]; exact Nat.le_refl _
            simp only [if_true, List.append_nil] at hT1

            clear hv
            generalize hN5 : ((s0.run (cs.take k)).doE (false, cn)).length = N5 at *
            generalize hS5 : s0.run (cs.take (k + 1)) = s5 at *
            generalize hE5 : l0 ++ s0.runE (cs.take (k + 1)) = e5 at *
            generalize hT5 : s0.takes (cs.take (k + 1)) = t5 at *
            generalize s0.takes (cs.take k) = t4 at *
            have HS1 := Lib.hid hS1
            have HE1 := Lib.hid hE1
            have HT1 := Lib.hid hT1.symm
            have HN5 := Lib.hid hN5
            have HS5 := Lib.hid hS5
            have HE5 := Lib.hid hE5
            have HT5 := Lib.hid hT5
            clear hS1 hE1 hT1 hN5 hS5 hE5 hT5

            go_wp2_with (first | (go_at_call 29; (with_reducible refine HR.out.mono ?_); rintro e w9 ⟨rfl, hq3⟩; have hb9 := on_quiet hq3; clear hq3; have hT3 := hT2.on hb9; have HA4 := Lib.hid (hA3.on hb9); have HD := Lib.hid (hT3.does (false, cn) hin hel); rw [← HS1.out, List.append_assoc, ← HE1.out, HE5.out, HN5.out] at HD; obtain ⟨hgc, g0, g1, g2, g3⟩ := HA4.out.two; clear hT3) | (go_at_call 21; (with_reducible refine HD.out.mono ?_); intro e w4 hD; obtain ⟨v5, tag2, W2, ev2, rfl, hL5, hkeep⟩ := hD; obtain ⟨a5, c5, rfl⟩ := hL5.lst.elim fun xs k => k.shape; obtain ⟨hgd, d0, d1, d2, d3⟩ := (hkeep _ _ HTG.out HA4.out).two; clear hkeep))
            have hL6 : SrcL w0 w4 tag2 W2 ev2 V g s5 e5 l0.length (.slice at_ t4.length ctk) t5 (.slice a5 N5 c5) N5 := by rw [← HT1.out]; exact hL5
            clear hL5

            go_loopw [70] (fun i wx => ∃ p : Nat, p ≤ N5 ∧ i = .int .i64 p ∧ SrcL w0 wx tag2 W2 ev2 V g s5 e5 l0.length (.slice at_ t4.length ctk) t5 (.slice a5 N5 c5) N5) (fun i _ => N5 - (intOf i).toNat)
            case atStart => exact ⟨0, Nat.zero_le _, rfl, hL6⟩
            case round =>
              clear hL6
              obtain ⟨p, hp, rfl, hJ⟩ := hrel
              by_cases hpN : p < N5
              · exact absurd hpN (by omega)
              · obtain rfl : p = N5 := by omega
                have hJt := hJ.t
                rw [← HS5.out, ← HE5.out, ← HT5.out] at hJt
                clear hJ
                have HJT := Lib.hid hJt
                clear hJt
                go_wp2
                go_roundw
                case rel => exact ⟨k + 1, _, _, _, by omega, by go_num, HJT.out⟩
                case measure => simp [intOf] <;> omega
        · by_cases hneg : cn < 0
          · have HTG : Hid (retag tag wr.heap.size 0 wr.heap.size = 0) := retag_new (Nat.le_refl _)

            have hv := (vain_t (s := s0.run (cs.take k)) (n := cn)).trans (decide_eq_true hneg)

            rw [hv] at hT1

            have hN0 : ((s0.run (cs.take k)).doE (true, cn)).length ≤ 0 := by rw [(vain_same hv).2]; exact Nat.le_refl _
            simp only [if_true, List.append_nil] at hT1

            clear hv
            generalize hN5 : ((s0.run (cs.take k)).doE (true, cn)).length = N5 at *
            generalize hS5 : s0.run (cs.take (k + 1)) = s5 at *
            generalize hE5 : l0 ++ s0.runE (cs.take (k + 1)) = e5 at *
            generalize hT5 : s0.takes (cs.take (k + 1)) = t5 at *
            generalize s0.takes (cs.take k) = t4 at *
            have HS1 := Lib.hid hS1
            have HE1 := Lib.hid hE1
            have HT1 := Lib.hid hT1.symm
            have HN5 := Lib.hid hN5
            have HS5 := Lib.hid hS5
            have HE5 := Lib.hid hE5
            have HT5 := Lib.hid hT5
            clear hS1 hE1 hT1 hN5 hS5 hE5 hT5

            have HA4 := Lib.hid hA3
            have HD := Lib.hid (hT2.does (true, cn) hin hel)
            rw [← HS1.out, List.append_assoc, ← HE1.out, HE5.out, HN5.out] at HD
            clear hT2

            go_wp2_with (first | (go_at_call 21; (with_reducible refine HD.out.mono ?_); intro e w4 hD; obtain ⟨v5, tag2, W2, ev2, rfl, hL5, hkeep⟩ := hD; obtain ⟨a5, c5, rfl⟩ := hL5.lst.elim fun xs k => k.shape; obtain ⟨hgd, d0, d1, d2, d3⟩ := (hkeep _ _ HTG.out HA4.out).two; clear hkeep))
            have hL6 : SrcL w0 w4 tag2 W2 ev2 V g s5 e5 l0.length (.slice at_ t4.length ctk) t5 (.slice a5 N5 c5) N5 := by rw [← HT1.out]; exact hL5
            clear hL5

            go_loopw [70] (fun i wx => ∃ p : Nat, p ≤ N5 ∧ i = .int .i64 p ∧ SrcL w0 wx tag2 W2 ev2 V g s5 e5 l0.length (.slice at_ t4.length ctk) t5 (.slice a5 N5 c5) N5) (fun i _ => N5 - (intOf i).toNat)
            case atStart => exact ⟨0, Nat.zero_le _, rfl, hL6⟩
            case round =>
              clear hL6
              obtain ⟨p, hp, rfl, hJ⟩ := hrel
              by_cases hpN : p < N5
              · exact absurd hpN (by omega)
              · obtain rfl : p = N5 := by omega
                have hJt := hJ.t
                rw [← HS5.out, ← HE5.out, ← HT5.out] at hJt
                clear hJ
                have HJT := Lib.hid hJt
                clear hJt
                go_wp2
                go_roundw
                case rel => exact ⟨k + 1, _, _, _, by omega, by go_num, HJT.out⟩
                case measure => simp [intOf] <;> omega
          · have hneg2 : 0 ≤ cn := by omega
            have HTG : Hid (retag tag wr.heap.size 0 wr.heap.size = 0) := retag_new (Nat.le_refl _)

            have hv := (vain_t (s := s0.run (cs.take k)) (n := cn)).trans (decide_eq_false (by omega))

            rw [hv] at hT1

            have hN0 := doE_len (s0.run (cs.take k)) (true, cn)
            simp only [Bool.false_eq_true, if_false] at hT1

            clear hv
            generalize hN5 : ((s0.run (cs.take k)).doE (true, cn)).length = N5 at *
            generalize hS5 : s0.run (cs.take (k + 1)) = s5 at *
            generalize hE5 : l0 ++ s0.runE (cs.take (k + 1)) = e5 at *
            generalize hT5 : s0.takes (cs.take (k + 1)) = t5 at *
            generalize s0.takes (cs.take k) = t4 at *
            have HS1 := Lib.hid hS1
            have HE1 := Lib.hid hE1
            have HT1 := Lib.hid hT1.symm
            have HN5 := Lib.hid hN5
            have HS5 := Lib.hid hS5
            have HE5 := Lib.hid hE5
            have HT5 := Lib.hid hT5
            clear hS1 hE1 hT1 hN5 hS5 hE5 hT5

            have HA4 := Lib.hid hA3
            have HD := Lib.hid (hT2.does (true, cn) hin hel)
            rw [← HS1.out, List.append_assoc, ← HE1.out, HE5.out, HN5.out] at HD
            clear hT2

            go_wp2_with (first | (go_at_call 21; (with_reducible refine HD.out.mono ?_); intro e w4 hD; obtain ⟨v5, tag2, W2, ev2, rfl, hL5, hkeep⟩ := hD; obtain ⟨a5, c5, rfl⟩ := hL5.lst.elim fun xs k => k.shape; obtain ⟨hgd, d0, d1, d2, d3⟩ := (hkeep _ _ HTG.out HA4.out).two; clear hkeep) | (at_builtin; refine wpList_append_sl _ rfl (.tmp 64) (.tmp 66) 26 26 rfl 48 i0 _ 16 Tryz.underlying26 hi hz0 hz1 hz2 rfl rfl (hL5.t.row.alloc _) _ 1 [.bool true, .int .i64 cn] rfl (src_cells Tryz.underlying26 _ _ _ _ (by simp) 2 rfl (chc_one (true, cn))) (by have := HN3.out; unfold maxLen; omega) (by have := HN3.out; omega) (by have := hL5.t.src.new.size; simp; omega) ?_; intro v6 w6 k1 k2 k3; have hL6 := hL5.app (x := (true, cn)) k1 k2 k3; rw [HT1.out] at hL6; clear k1 k2 k3 hL5))

            go_loopw [70] (fun i wx => ∃ p : Nat, p ≤ N5 ∧ i = .int .i64 p ∧ SrcL w0 wx (retag tag2 w4.heap.size 0) W2 ev2 V g s5 e5 l0.length v6 t5 (.slice a5 N5 c5) N5) (fun i _ => N5 - (intOf i).toNat)
            case atStart => exact ⟨0, Nat.zero_le _, rfl, hL6⟩
            case round =>
              clear hL6
              obtain ⟨p, hp, rfl, hJ⟩ := hrel
              by_cases hpN : p < N5
              · obtain ⟨gl, off, y, rfl, hgl, f0, f1⟩ := hJ.at_ p hpN
                have hJ2 := Lib.hid (hJ.poke p hpN (.iface 65 (.agg #[.int .i64 0])))
                clear hJ
                go_wp2
                go_roundw
                case rel => exact ⟨p + 1, by omega, by go_num, hJ2.out⟩
                case measure => simp [intOf] <;> omega
              · obtain rfl : p = N5 := by omega
                have hJt := hJ.t
                rw [← HS5.out, ← HE5.out, ← HT5.out] at hJt
                clear hJ
                have HJT := Lib.hid hJt
                clear hJt
                go_wp2
                go_roundw
                case rel => exact ⟨k + 1, _, _, _, by omega, by go_num, HJT.out⟩
                case measure => simp [intOf] <;> omega
      · obtain rfl : k = nq := by omega
        rw [List.take_of_length_le (by rw [HQ.out]; exact Nat.le_refl _)] at hT
        obtain ⟨qa, qc, rfl, hrow⟩ := rowg_of_sl hT.row rfl (fun x => rfl)
        have htl := takes_len cs s0
        have htr := (takes_run cs s0).2
        have hmem := fun x hx => HCI.out x (takes_mem cs s0 x hx)
        have hqq := HQ.out
        have HPx := HP wr hT.src.new qa qc (s0.takes cs) _ rfl hrow hmem (by omega)
        rw [htr] at HPx
        have hrl := runE_len cs s0
        have hel : (l0 ++ s0.runE cs).length ≤ 100000 := by rw [List.length_append]; have := HL.out; omega
        have HEV := fun wx (hx : Below wr.heap.size wr wx) => Lib.hid (so_events tag W ev V g _ wx (hT.on hx).src.src hel)
        have HWR := Lib.hid hT.src.new
        clear hT hrow htl htr hmem hqq hrl HP HCI HCH
        generalize s0.takes cs = tk at *
        have HEL := Lib.hid hel
        rw [show (loOf (s0.run cs) (l0 ++ s0.runE cs) l0.length).evs = l0 ++ s0.runE cs from rfl] at HEV
        generalize hEE : l0 ++ s0.runE cs = EE at *
        have HEE := Lib.hid hEE
        clear hel hEE
        go_wp2_with (first | (go_at_call 16; (with_reducible refine HPx.out.mono ?_); intro e w5 hY; obtain ⟨v5, rfl, q1, q2⟩ := hY; obtain ⟨-, a5, c5, rfl, hr5⟩ := rowe_of_sl q1; have HA5 := Lib.hid (law_plain a5 _ c5 EE w5 hr5 rfl HEL.out); clear q1 hr5) | (go_at_call 18; (with_reducible refine HA5.out.mono ?_); intro e w6 hY; obtain ⟨v6, rfl, s1, s2⟩ := hY; obtain ⟨a6, c6, rfl, hr6⟩ := rowg_of_sl s1 rfl evc_len; have hb6 := on_below q2 s2; have HE6 := HEV _ hb6; clear s1 HA5) | (go_at_call 24; (with_reducible refine HE6.out.mono ?_); intro e w7 hY; obtain ⟨v7, rfl, q3, q4⟩ := hY; obtain ⟨-, a7, c7, rfl, hr7⟩ := rowe_of_sl q3; have HA7 := Lib.hid (law_plain a7 _ c7 EE w7 hr7 rfl HEL.out); clear q3 hr7 HE6) | (go_at_call 18; (with_reducible refine HA7.out.mono ?_); intro e w8 hY; obtain ⟨v8, rfl, s3, s4⟩ := hY; obtain ⟨a8, c8, rfl, hr8⟩ := rowg_of_sl s3 rfl evc_len; have HSM := Lib.hid (ref_same22 EE a6 a8 _ c6 c8 w8 ((hr6.below q4).below s4) hr8 rfl HEL.out); clear s3 HA7 hr6 hr8) | (go_at_call 17; (with_reducible refine HSM.out.mono ?_); rintro e w9 ⟨rfl, hb9⟩))
        go_ret
        exact ⟨rfl, on_below HBX.out (on_below HWR.out (on_below hb6 (on_below q4 (on_below s4 hb9))))⟩
  · have HN := Lib.hid (so_new_none rs t dr ls a n c b m c2 w2 (hC0.hru.below hb2) hC0.hn (by have := hSm.2.2.1; omega) hC0.hm _ rfl hz)
    have hz0 : (nerr rs t dr m != 0) = true := by rw [bne_iff_ne]; exact hz
    clear hz
    generalize nerr rs t dr m = zz at *
    go_wp2_with (go_at_call 14; (with_reducible refine HN.out.mono ?_); rintro e w3 ⟨rfl, hb3⟩)
    go_ret
    exact ⟨rfl, on_below hbx (on_below hb2 hb3)⟩
end Go.Proofs.YtoecikeleoaecaaGreat
