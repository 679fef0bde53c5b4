/- The walk of JudgeEnds. -/
import Derived.Test.YtmimfkhkilijcaaGreatKSp25
import Derived.Test.YtmimfkhkilijcaaGreatCase25
import Derived.Test.YtmimfkhkilijcaaGreatKJuC
import Derived.Test.YtmimfkhkilijcaaGreatRndP
import Derived.Test.YtmimfkhkilijcaaGreatAppNil
import Derived.Test.YtmimfkhkilijcaaGreatKLogR
import Derived.Deep.RegionHeld3
import Derived.Deep.DeepCutAuto
namespace Go.Proofs.YtmimfkhkilijcaaGreat
set_option maxRecDepth 4000
open Go.ChangeShapes Go.WideShapes Go.ChangeAt Go.RowKit
open PHist PRing PSat PClamp PBound PFrame PVar PCrc PSign PTree PEv
set_option linter.unusedVariables false
set_option linter.unusedSimpArgs false

theorem upd_after {w wp w8 : World} {S : Nat → Prop} (h : Below w.heap.size w wp) (hu : Upd S wp w8) (hs : ∀ i, S i → w.heap.size ≤ i) : Below w.heap.size w w8 := h.upd hu h.size (fun i _ hi => hs i hi)
set_option maxRecDepth 100000 in
set_option maxHeartbeats 4000000 in
theorem walk_JudgeEnds (w : World) (c0 : Array Value) (d0 : (((List (Int × Int × Int × Int × Int × Unit)) × Int × Int × Unit) × (List ByteArray) × (List (Bool × Int × Unit)) × Unit)) (w0 : Rd w (.pair (.pair (.sl (.pair (.int .i64) (.pair (.int .i64) (.pair (.int .i64) (.pair (.int .i64) (.pair (.int .i64) .unit)))))) (.pair (.int .i64) (.pair (.int .i64) .unit))) (.pair (.sl .str) (.pair (.sl (.pair .bool (.pair (.int .i64) .unit))) .unit))) c0.toList d0) :
    Calls Tryz.prog 5 #[.agg c0] w fun e w' => e = .returned (.bool true) ∧ Below w.heap.size w w' := by
  obtain ⟨a, n, c, t, dr, b, m, c2, q, nq, c3, rs, ls, cs, rfl, hC⟩ := Rd.case w0
  clear w0
  have hbx : Below w.heap.size w (w.alloc (.cells #[.slice a n c, .int .i64 t, .int .i64 dr, .slice b m c2, .slice q nq c3] 28)) := (Below.refl _ _).alloc (Nat.le_refl _) _
  have hA0 := At.alloc w [.slice a n c, .int .i64 t, .int .i64 dr, .slice b m c2, .slice q nq c3] 28
  have hC0 := hC.on hbx
  have hsz : w.heap.size < (w.alloc (.cells #[.slice a n c, .int .i64 t, .int .i64 dr, .slice b m c2, .slice q nq c3] 28)).heap.size := hA0.1
  clear hC
  have HSP := fun wx => Lib.hid (speaks25 wx)
  go_enter Tryz.func5, Tryz.ntmps5
  go_wp2_with fail
  generalize w.alloc (.cells #[.slice a n c, .int .i64 t, .int .i64 dr, .slice b m c2, .slice q nq c3] 28) = w0 at *
  have HSM := fun wx (hx : Below w0.heap.size w0 wx) => Lib.hid (law_small a n c t dr b m c2 q nq c3 ls wx (hC0.on hx).hlo hC0.hm (fun s hs => hC0.hsl s hs))
  have HA := fun wx (hx : Below w0.heap.size w0 wx) => At.five (hA0.below hx hsz)
  go_wp2_with (go_at_call 8; (with_reducible refine (HSP _).out.mono ?_); rintro e w1 ⟨rfl, hb1⟩; obtain ⟨-, x0, -, x1, -, x2, -, x3, -, x4, -⟩ := HA _ hb1)
  go_at_call 9
  refine (HSM _ hb1).out.mono ?_
  intro e w2 hS
  obtain ⟨z, rfl, hz, hb2'⟩ := hS
  have hb2 := on_below hb1 hb2'
  obtain ⟨-, y0, -, y1, -, y2, -, y3, -, y4, -⟩ := HA _ hb2
  rcases hz with rfl | ⟨rfl, hSm⟩
  · go_wp2
    go_ret
    exact ⟨rfl, on_below hbx hb2⟩
  have hm8 : m ≤ 8 := hSm.1
  have hnq : nq ≤ 120 := hSm.2.1
  have hln : (ls.map fun s => s.data.toList).length = m := by rw [List.length_map]; exact hC0.hm.symm
  have hfew : ∀ l ∈ (ls.map fun s => s.data.toList), (parse l).1.length ≤ 400 := fun l hl => by
    obtain ⟨s, hs, rfl⟩ := List.mem_map.1 hl
    have h4 := hSm.2.2.2 s hs
    obtain ⟨h1, h2, h3, -⟩ := parse_spec s.data.toList.length s.data.toList (Nat.le_refl _)
    have hb := (build_big (parse s.data.toList).1).1
    rw [h2, List.length_take] at hb
    have h5 : s.data.toList.length = s.size := by simp
    omega
  have hRle : m + recsIn (ls.map fun s => s.data.toList) ≤ 3208 := by
    have := recsIn_le hfew
    rw [hln] at this
    omega
  have hR0 : m = 0 → recsIn (ls.map fun s => s.data.toList) = 0 := fun h0 => by
    have := recsIn_le hfew
    rw [hln, h0] at this
    omega
  have hstep : ∀ k (hk : k < ls.length), recsIn ((ls.map fun s => s.data.toList).take (k + 1)) = recsIn ((ls.map fun s => s.data.toList).take k) + (parse ls[k].data.toList).1.length := fun k hk => by
    rw [recsIn_take k (by rw [List.length_map]; exact hk), List.getElem_map]
  have hmono : ∀ k, k ≤ m → m + recsIn ((ls.map fun s => s.data.toList).take k) ≤ 3208 := fun k hk => by
    have := recsIn_le (ls := (ls.map fun s => s.data.toList).take k) (fun l hl => hfew l (List.mem_of_mem_take hl))
    rw [List.length_take, hln] at this
    have h9 : min k m ≤ 8 := by omega
    have : 400 * min k m ≤ 3200 := by omega
    omega
  have HST := Lib.hid hstep
  have HMO := Lib.hid hmono
  have HLN := Lib.hid hln
  have HSM2 := Lib.hid hSm
  have HCC := Lib.hid hC0
  have HM := Lib.hid hC0.hm
  have HLO := Lib.hid hC0.hlo
  have HCH := Lib.hid hC0.hch
  have HBX := Lib.hid hbx
  have HQ := Lib.hid hC0.hnq
  have HCI := Lib.hid hC0.hci
  clear hstep hmono hln hfew hSm hC0 HSP HSM hbx
  go_wp2_with fail
  go_loopw [3, 20] (fun v i wr => ∃ k : Nat, k ≤ m ∧ i = .int .i64 k ∧ v = .int .i64 ((m + recsIn ((ls.map fun s => s.data.toList).take k) : Nat) : Int) ∧ Below w0.heap.size w0 wr) (fun _ i _ => m - (intOf i).toNat)
  case atStart => exact ⟨0, Nat.zero_le _, rfl, rfl, hb2⟩
  case round =>
    obtain ⟨k, hk, rfl, rfl, hb⟩ := hrel
    obtain ⟨-, z0, -, z1, -, z2, -, z3, -, z4, -⟩ := HA _ hb
    by_cases hlt : k < m
    · have hkl : k < ls.length := by rw [← HM.out]; exact hlt
      have hrow := HLO.out.below hb
      obtain ⟨bs, offs, hs', -, -⟩ := hrow.at_ k hkl
      have HS' := Lib.hid hs'
      subst hs'
      obtain ⟨hbb, r0⟩ := hrow.cell k hkl
      have hst := HST.out k hkl
      have hmo := HMO.out (k + 1) hlt
      have hsz := HSM2.out.2.2.2 _ (List.getElem_mem hkl)
      generalize ls[k] = s at *
      have HP := Lib.hid (ref_parse s wr (by omega))
      rw [hst] at hmo
      have HS2 := Lib.hid hst
      clear hst hrow
      generalize recsIn ((ls.map fun s => s.data.toList).take k) = X at *
      generalize parse s.data.toList = pr at *
      obtain ⟨rs2, pn, pe⟩ := pr
      simp only at hmo
      go_wp2_with (go_at_call 21; (with_reducible refine HP.out.mono ?_); intro e w4 h4; obtain ⟨a4, c4, rfl, q1, q2, -⟩ := h4)
      rename_i hKK
      refine hKK _ _ ?_
      clear hKK
      go_simp
      go_wp2
      go_roundw
      case rel => exact ⟨k + 1, by omega, by go_num, by rw [HS2.out]; go_num, on_below hb q2⟩
      case measure => simp [intOf] <;> omega
    · obtain rfl : k = m := by omega
      have hX := HMO.out k (Nat.le_refl _)
      have hXe : (ls.map fun s => s.data.toList).take k = ls.map fun s => s.data.toList := List.take_of_length_le (by rw [HLN.out]; exact Nat.le_refl _)
      rw [hXe] at hX ⊢
      clear hXe
      have HR := Lib.hid hRle
      have HRR : Hid ((1 ≤ k ∧ 1 ≤ k + recsIn (ls.map fun s => s.data.toList)) ∨ (k = 0 ∧ k + recsIn (ls.map fun s => s.data.toList) = 0)) := by
        show _ ∨ _
        rcases Nat.eq_zero_or_pos k with h0 | h0
        · exact .inr ⟨h0, by rw [hR0 h0, h0]⟩
        · exact .inl ⟨h0, by omega⟩
      have HXR : Hid (recsIn (ls.map fun s => s.data.toList) ≤ k + recsIn (ls.map fun s => s.data.toList)) := Nat.le_add_left _ _
      generalize hRg : k + recsIn (ls.map fun s => s.data.toList) = R at *
      clear hRg hR0 hRle
      have HRD := fun wx => Lib.hid (ch_round25 k R (by omega) (by omega) HRR.out wx)
      have hNle : R * k ≤ 25664 := Nat.le_trans (Nat.mul_le_mul hX hm8) (by omega)
      have hrl := rounds_len k R
      have hrin := rounds_in k R (by omega)
      obtain ⟨N, hN⟩ : ∃ N, R * k = N := ⟨_, rfl⟩
      unfold RoundP25 at HRD
      rw [hN] at hNle hrl
      simp only [hN] at HRD
      have HRL := Lib.hid hrl
      have HRI := Lib.hid hrin
      clear hN hrl hrin
      have hql := HQ.out
      have HQR : Hid (∀ wx, Below wr.heap.size wr wx → RowG wx 2 chc q cs) := fun wx hx => HCH.out.below (on_below hb hx)
      have HQL : Hid (cs.length = nq) := HQ.out.symm
      obtain ⟨i0, hi0, hz0, hz1, hz2⟩ := info_parts info_chP
      have HONE : Hid (∀ u ∈ (rounds k R).flatMap chc, u.oneCell' = true) := fun u hu => by
        obtain ⟨y, -, hy⟩ := List.mem_flatMap.1 hu
        simp only [chc, List.mem_cons, List.not_mem_nil, or_false] at hy
        rcases hy with rfl | rfl <;> rfl
      have HROW : Hid (∀ wx ax cx, Sl wr.heap.size wx 2 (.slice ax (nq + N) cx) (nq + N) (cs.flatMap chc ++ (rounds k R).flatMap chc) → RowG wx 2 chc ax (cs ++ rounds k R)) := fun wx ax cx hs => by
        rw [← List.flatMap_append] at hs
        obtain ⟨a', c', e, h⟩ := rowg_of_sl hs (by rw [List.length_append, HQL.out, HRL.out]) (fun _ => rfl)
        cases e
        exact h
      clear hql
      go_wp2_with fail
      go_cut [6] (fun v wx => ∃ ax cx, v = .slice ax (nq + N) cx ∧ RowG wx 2 chc ax (cs ++ rounds k R) ∧ Below wr.heap.size wr wx)
      case first =>
        have HAF : Hid (∀ wx, Below wr.heap.size wr wx → wx.cell? ⟨w.heap.size, 3, none⟩ = some (.slice b k c2) ∧ wx.cell? ⟨w.heap.size, 4, none⟩ = some (.slice q nq c3)) := fun wx hx => ⟨cell_kept hx z3, cell_kept hx z4⟩
        go_region_held3 (fun wx => wx.cell? ⟨w.heap.size, 3, none⟩ = some (.slice b k c2) ∧ wx.cell? ⟨w.heap.size, 4, none⟩ = some (.slice q nq c3)) (((with_reducible refine HAF.out _ ?_); (repeat (first | (with_reducible exact Below.refl _ _) | (with_reducible refine on_below ?_ hba) | (with_reducible refine on_below ?_ hbb) | (with_reducible exact hb8) | (with_reducible refine bA ?_ _) | (with_reducible refine bD ?_))))) (first | (go_at_call 22; (with_reducible refine (HRD _).out.mono ?_); intro e w6 h6; obtain ⟨aR, cR, rfl, qR, hba⟩ := h6) | (refine step_append_nil25 rfl (.tmp 31) (.tmp 33) 26 26 rfl (B := wr.heap.size) 44 i0 (.agg #[.bool false, .int .i64 0]) 16 Tryz.underlying26 hi0 hz0 hz1 hz2 rfl _ (.slice q nq c3) nq (cs.flatMap chc) rfl rfl (by first | exact Nat.le_refl _ | exact hba.size) (by simp) (src_rowg25 Tryz.underlying26 _ q nq c3 2 (by omega) chc (fun _ => rfl) (by intro x u hu; simp only [chc, List.mem_cons, List.not_mem_nil, or_false] at hu; rcases hu with rfl | rfl <;> rfl) cs (HQR.out _ (by (repeat (first | (with_reducible exact Below.refl _ _) | (with_reducible refine on_below ?_ hba) | (with_reducible refine on_below ?_ hbb) | (with_reducible exact hb8) | (with_reducible refine bA ?_ _) | (with_reducible refine bD ?_))))) HQL.out) (by unfold maxLen; omega) (by omega) (by first | (simp; done) | (have := hba.size; simp; omega)) ?_; intro a1 c1 w7 k1 hbb) | (refine step_append_own25 rfl (.tmp 34) (.tmp 39) 26 26 rfl 44 i0 (.agg #[.bool false, .int .i64 0]) 16 Tryz.underlying26 hi0 hz0 hz1 hz2 rfl (.slice a1 nq c1) (.slice aR N cR) (B := wr.heap.size) (n := nq) (xs := cs.flatMap chc) N ((rounds k R).flatMap chc) rfl rfl (by first | exact k1 | exact k1.onW hba) (by first | exact src_sl qR Tryz.underlying26 HONE.out | exact src_sl (qR.onW hbb) Tryz.underlying26 HONE.out | exact src_sl ((qR.alloc _).onW hbb) Tryz.underlying26 HONE.out) (by unfold maxLen; omega) (by omega) (by refine (show Below wr.heap.size wr _ from ?_).size; (repeat (first | (with_reducible exact Below.refl _ _) | (with_reducible refine on_below ?_ hba) | (with_reducible refine on_below ?_ hbb) | (with_reducible exact hb8) | (with_reducible refine bA ?_ _) | (with_reducible refine bD ?_)))) ?_; intro a2 c2' w8 r1 r2 r3; have hb8 : Below wr.heap.size wr w8 := upd_after (by (repeat (first | (with_reducible exact Below.refl _ _) | (with_reducible refine on_below ?_ hba) | (with_reducible refine on_below ?_ hbb) | (with_reducible exact hb8) | (with_reducible refine bA ?_ _) | (with_reducible refine bD ?_)))) r2 (fun i hi => (k1.lt i hi).1)) | fail)
        all_goals (go_wp2_with fail; go_meet)
        all_goals exact ⟨a2, c2', rfl, HROW.out _ _ _ r1, hb8⟩
      case rest =>
        obtain ⟨ax, cx, rfl, hCS, hbc⟩ := hcut
        rename World => wc
        have hbc0 := on_below hb hbc
        obtain ⟨-, u0, -, u1, -, u2, -, u3, -, u4, -⟩ := HA _ hbc0
        have hC0 := HCC.out
        have hSm := HSM2.out
        by_cases hz : nerr rs t dr k = 0
        · have hG := good25 hC0 hSm hz
          have hmn := (nerr_zero hz).2
          have hlen : nq + N = (cs ++ rounds k R).length := by rw [List.length_append, HRL.out, HQ.out]
          have hcin : ∀ x ∈ cs ++ rounds k R, in64 x.2 := fun x hx => by
            rcases List.mem_append.1 hx with hx | hx
            · exact HCI.out x hx
            · exact HRI.out x hx
          have HPY := Lib.hid (so_play rs t dr ls (cs ++ rounds k R) a n c b k c2 ax (nq + N) cx wc (hC0.hru.below hbc0) (hC0.hlo.below hbc0) hCS hC0.hn hC0.hm hlen hz hSm.1 hC0.hfit hC0.ht hC0.hd hSm.2.2.2 hcin (by omega))
          have hE := newE_len t rs (ls.map fun s => s.data.toList)
          have hE2 := runE_len (cs ++ rounds k R) (St.new t dr rs (ls.map fun s => s.data.toList))
          have hwh := whole_true hG.hn hG.ok cs R HXR.out
          rw [← hmn] at hwh
          generalize hL : St.newE t rs (ls.map fun s => s.data.toList) ++ (St.new t dr rs (ls.map fun s => s.data.toList)).runE (cs ++ rounds k R) = L at *
          have hll : L.length ≤ 90000 := by
            rw [← hL, List.length_append]
            have := hG.h8
            omega
          have h4 : ∀ s ∈ ls, s.size ≤ 100000 := fun s hs => Nat.le_trans (hSm.2.2.2 s hs) (by omega)
          have HWH := fun wx (hx : Below w0.heap.size w0 wx) (ae : Option Addr) (ce M : Nat) (hM : M = L.length) (hr : RowE wx ae L) => Lib.hid (ju_whole ae M ce L b k c2 ls wx hr hM (by omega) (HLO.out.below hx) HM.out (by omega) h4 true hwh)
          clear hG hE hE2 hwh hL h4 hlen hcin hCS hSm hC0 hz hmn z0 z1 z2 z3 z4
          go_wp2_with (first | (go_at_call 10; (with_reducible refine HPY.out.mono ?_); intro e w9 hP; obtain ⟨v, rfl, q1, q2⟩ := hP; have hb9 := on_below hbc0 q2; obtain ⟨-, v0, -, v1, -, v2, -, v3, -, v4, -⟩ := HA _ hb9; obtain ⟨-, ae, ce, hv, hEv⟩ := rowe_of_sl q1; subst hv; obtain ⟨M, hM⟩ : ∃ M, L.length = M := ⟨_, rfl⟩; rw [hM]; have HW1 := HWH w9 hb9 ae ce M hM.symm hEv) | (go_at_call 23; (with_reducible refine HW1.out.mono ?_); rintro e wz ⟨rfl, hbz⟩))
          go_ret
          exact ⟨rfl, on_below HBX.out (on_below hb9 hbz)⟩
        · have HN := Lib.hid (so_play_none rs t dr ls a n c b k c2 (.slice ax (nq + N) cx) wc (hC0.hru.below hbc0) hC0.hn (by have := hSm.2.2.1; omega) hC0.hm _ rfl hz)
          have hz0 : (nerr rs t dr k != 0) = true := by rw [bne_iff_ne]; exact hz
          clear hz hC0 hSm
          generalize nerr rs t dr k = zz at *
          go_wp2_with (go_at_call 10; (with_reducible refine HN.out.mono ?_); rintro e w9 ⟨rfl, hb9⟩)
          go_ret
          exact ⟨rfl, on_below HBX.out (on_below hbc0 hb9)⟩
end Go.Proofs.YtmimfkhkilijcaaGreat
