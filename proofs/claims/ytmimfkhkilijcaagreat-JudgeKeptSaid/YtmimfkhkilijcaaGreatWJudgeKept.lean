/- The walk of JudgeKept. -/
import Derived.Test.YtmimfkhkilijcaaGreatKSp25
import Derived.Test.YtmimfkhkilijcaaGreatCase25
import Derived.Test.YtmimfkhkilijcaaGreatKJuC
import Derived.Test.YtmimfkhkilijcaaGreatJuNear2
import Derived.Test.YtmimfkhkilijcaaGreatJuOrd
namespace Go.Proofs.YtmimfkhkilijcaaGreat
set_option maxRecDepth 4000
open Go.ChangeShapes Go.WideShapes Go.ChangeAt Go.RowKit
open PHist PRing PSat PClamp PBound PFrame PVar PCrc PSign PTree PEv
set_option linter.unusedVariables false
set_option linter.unusedSimpArgs false

theorem info_ev25k : (Tryz.prog.info? 61).map (fun i => (i.zero, i.size, i.bytes)) = some (some .nilIface, 1, 16) := by kernel_rfl
set_option maxRecDepth 100000 in
set_option maxHeartbeats 8000000 in
theorem walk_JudgeKept (w : World) (c0 : Array Value) (d0 : (((List (Int × Int × Int × Int × Int × Unit)) × Int × Int × Unit) × (List ByteArray) × (List (Bool × Int × Unit)) × Unit)) (w0 : Rd w (.pair (.pair (.sl (.pair (.int .i64) (.pair (.int .i64) (.pair (.int .i64) (.pair (.int .i64) (.pair (.int .i64) .unit)))))) (.pair (.int .i64) (.pair (.int .i64) .unit))) (.pair (.sl .str) (.pair (.sl (.pair .bool (.pair (.int .i64) .unit))) .unit))) c0.toList d0) (a1 : Option Addr) (n1 c1 : Nat) (l1 : List (Int × Int × (Int × Int × ByteArray × Unit) × Bool × Int × Int × Unit)) (w1 : Rd w (.sl (.pair (.int .i64) (.pair (.int .i64) (.pair (.pair (.int .i64) (.pair (.int .i64) (.pair .str .unit))) (.pair .bool (.pair (.int .i64) (.pair (.int .i64) .unit))))))) [.slice a1 n1 c1] l1) :
    Calls Tryz.prog 7 #[.agg c0, .slice a1 n1 c1] w fun e w' => e = .returned (.bool true) ∧ Below w.heap.size w w' := by
  obtain ⟨a, n, c, t, dr, b, m, c2, q, nq, c3, rs, ls, cs, rfl, hC⟩ := Rd.case w0
  obtain ⟨hn1, hnc1, hcm1, hrow, hq⟩ := Rd.xs25 w1
  clear w0 w1
  have hbx : Below w.heap.size w (w.alloc (.cells #[.slice a n c, .int .i64 t, .int .i64 dr, .slice b m c2, .slice q nq c3] 28)) := (Below.refl _ _).alloc (Nat.le_refl _) _
  have hA0 := At.alloc w [.slice a n c, .int .i64 t, .int .i64 dr, .slice b m c2, .slice q nq c3] 28
  have hC0 := hC.on hbx
  have hrow0 := hrow.below hbx
  have hsz : w.heap.size < (w.alloc (.cells #[.slice a n c, .int .i64 t, .int .i64 dr, .slice b m c2, .slice q nq c3] 28)).heap.size := hA0.1
  clear hC hrow
  have HSP := fun wx => Lib.hid (speaks25 wx)
  have HN := Lib.hid hn1
  have HQ := Lib.hid hq
  have HCM := Lib.hid hcm1
  clear hn1 hq hcm1
  go_enter Tryz.func7, Tryz.ntmps7
  go_wp2_with fail
  generalize w.alloc (.cells #[.slice a n c, .int .i64 t, .int .i64 dr, .slice b m c2, .slice q nq c3] 28) = w0 at *
  have HSM := fun wx (hx : Below w0.heap.size w0 wx) => Lib.hid (law_small a n c t dr b m c2 q nq c3 ls wx (hC0.on hx).hlo hC0.hm (fun s hs => hC0.hsl s hs))
  have HA := fun wx (hx : Below w0.heap.size w0 wx) => At.five (hA0.below hx hsz)
  go_wp2_with (go_at_call 8; (with_reducible refine (HSP _).out.mono ?_); rintro e w1 ⟨rfl, hb1⟩; obtain ⟨-, x0, -, x1, -, x2, -, x3, -, x4, -⟩ := HA _ hb1)
  go_at_call 9
  refine (HSM _ hb1).out.mono ?_
  intro e w2 hS
  obtain ⟨z, rfl, hz, hb2'⟩ := hS
  have hb2 := on_below hb1 hb2'
  obtain ⟨-, y0, -, y1, -, y2, -, y3, -, y4, -⟩ := HA _ hb2
  clear HSP HSM x0 x1 x2 x3 x4
  rcases hz with rfl | ⟨rfl, hSm⟩
  · go_wp2
    go_ret
    exact ⟨rfl, on_below hbx hb2⟩
  by_cases g1 : 60 < n1
  · have g2 : (60 : Int) < (n1 : Int) := by omega
    go_wp2
    go_ret
    exact ⟨rfl, on_below hbx hb2⟩
  have g2 : (n1 : Int) ≤ 60 := by omega
  by_cases g3 : dr < 0
  · go_wp2
    go_ret
    exact ⟨rfl, on_below hbx hb2⟩
  by_cases g5 : 50 < n
  · have g6 : (50 : Int) < (n : Int) := by omega
    go_wp2
    go_ret
    exact ⟨rfl, on_below hbx hb2⟩
  have g6 : (n : Int) ≤ 50 := by omega
  obtain ⟨k0, hk, hx0, hx1, hx2⟩ := info_parts info_ev25k
  obtain ⟨L, hL⟩ : ∃ L, l1.map xe25 = L := ⟨_, rfl⟩
  have hLl : L.length = n1 := by rw [← hL, List.length_map]; exact HN.out.symm
  have HLL := Lib.hid hLl
  have HLX := Lib.hid hL
  have HSM := Lib.hid hSm
  clear hL hLl hSm
  have hw2 := hb2.size
  go_wp2
  clear y0 y1 y2 y3 y4
  go_loopw [5, 35] (fun A i wr => ∃ k : Nat, i = .int .i64 k ∧ k ≤ n1 ∧ Sl w2.heap.size wr 1 A k ((L.take k).map evv) ∧ Hid (∀ j (hj : j < l1.length), j < k → l1[j].2.2.1.2.2.1.size ≤ 100) ∧ Below w2.heap.size w2 wr) (fun _ i _ => n1 - (intOf i).toNat)
  case atStart => exact ⟨0, rfl, Nat.zero_le _, Sl.nil _ _ _, fun j _ h => (Nat.not_lt_zero _ h).elim, Below.refl _ _⟩
  case round =>
    obtain ⟨k, rfl, hkn, hJ, HTX, hb⟩ := hrel
    have hwB := hb.size
    obtain ⟨aA, cA, rfl⟩ := hJ.shape
    by_cases hlt : k < n1
    · have hkl : k < l1.length := by rw [← HN.out]; exact hlt
      have hkL : k < L.length := by rw [HLL.out]; exact hlt
      have hro := hrow0.below (on_below hb2 hb)
      obtain ⟨b1, off, rfl, -, -⟩ := hro.at_ k hkl
      have hev : L[k] = xe25 l1[k] := by simp only [← HLX.out, List.getElem_map]
      have hT := List.take_succ_eq_append_getElem hkL
      rw [hev] at hT
      obtain ⟨hbl, p0, p1, p2, p3, p4, p5, p6, p7⟩ := RowX.cells hro k hkl rfl
      have HTN : Hid (l1[k].2.2.1.2.2.1.size ≤ 100 → ∀ j (hj : j < l1.length), j < k + 1 → l1[j].2.2.1.2.2.1.size ≤ 100) := fun h j hj hjk => by
        by_cases e : j = k
        · subst e; exact h
        · exact HTX.out j hj (by omega)
      generalize l1[k] = d at *
      obtain ⟨kind, part, ⟨rk, rt, x, u1⟩, late, at_, er, u2⟩ := d
      simp only at p0 p1 p2 p3 p4 p5 p6 p7
      have HTT := Lib.hid hT
      have hxe : xe25 (kind, part, (rk, rt, x, u1), late, at_, er, u2) = evof25 kind part rk rt x.data.toList late at_ er := rfl
      rw [hxe] at HTT
      clear hT hev hro HTX hxe
      have hba := (Below.refl wr.heap.size wr).alloc (Nat.le_refl _) (.cells #[.int .i64 kind, .int .i64 part, .int .i64 rk, .int .i64 rt, .string x, .bool late, .int .i64 at_, .int .i64 er] 59)
      have hbB := hb.trans (hba.mono hwB)
      by_cases hxs : x.size ≤ 100
      · have hxI : (x.size : Int) ≤ 100 := by omega
        have HTN2 := Lib.hid (HTN.out hxs)
        have HOF := fun wx => Lib.hid (law_ofx kind part rk rt x late at_ er wx)
        have hJa := hJ.onW hba
        have hlen1 : k + 1 ≤ maxLen := by unfold maxLen; omega
        generalize evof25 kind part rk rt x.data.toList late at_ er = E at *
        clear HTN hxs
        cases E with
        | mark nn =>
          have HOF2 : ∀ wx, Hid (Calls Tryz.prog 24 #[.agg #[.int .i64 kind, .int .i64 part, .int .i64 rk, .int .i64 rt, .string x, .bool late, .int .i64 at_, .int .i64 er]] wx fun e w' => e = .returned (.iface 79 (.agg #[.int .i64 nn])) ∧ Below wx.heap.size wx w') := HOF
          clear HOF
          go_wp2_with (first | (go_at_call 24; (with_reducible refine (HOF2 _).out.mono ?_); rintro e wO ⟨rfl, hbO⟩; have hJO := hJa.onW hbO; have hbxO := on_below hbB hbO; have hwO := hbxO.size) | (at_builtin; refine wpList_append_sl _ rfl (.tmp 44) (.tmp 47) 31 31 rfl 61 k0 _ 16 Tryz.underlying31 hk hx0 hx1 hx2 rfl rfl (hJO.alloc _) _ 1 [.iface 79 (.agg #[.int .i64 nn])] rfl (src_oneN Tryz.underlying31 _ _ _ _ rfl rfl) hlen1 (by omega) (by simp; omega) ?_; intro A1 w5 k1 k2 k3; obtain ⟨aB, cB, rfl⟩ := k1.shape) | fail)
          go_roundw
          case rel => exact ⟨k + 1, by go_num, hlt, by rw [HTT.out, List.map_append]; exact k1, HTN2, (hbxO.alloc hwO _).upd k2 (by simp; omega) (fun i _ hi => (hJ.lt i hi).1)⟩
          case measure => simp [intOf] <;> omega
        | fault pp ee =>
          have HOF2 : ∀ wx, Hid (Calls Tryz.prog 24 #[.agg #[.int .i64 kind, .int .i64 part, .int .i64 rk, .int .i64 rt, .string x, .bool late, .int .i64 at_, .int .i64 er]] wx fun e w' => e = .returned (.iface 123 (.agg #[.int .i64 pp, .int .i64 ee])) ∧ Below wx.heap.size wx w') := HOF
          clear HOF
          go_wp2_with (first | (go_at_call 24; (with_reducible refine (HOF2 _).out.mono ?_); rintro e wO ⟨rfl, hbO⟩; have hJO := hJa.onW hbO; have hbxO := on_below hbB hbO; have hwO := hbxO.size) | (at_builtin; refine wpList_append_sl _ rfl (.tmp 44) (.tmp 47) 31 31 rfl 61 k0 _ 16 Tryz.underlying31 hk hx0 hx1 hx2 rfl rfl (hJO.alloc _) _ 1 [.iface 123 (.agg #[.int .i64 pp, .int .i64 ee])] rfl (src_oneN Tryz.underlying31 _ _ _ _ rfl rfl) hlen1 (by omega) (by simp; omega) ?_; intro A1 w5 k1 k2 k3; obtain ⟨aB, cB, rfl⟩ := k1.shape) | fail)
          go_roundw
          case rel => exact ⟨k + 1, by go_num, hlt, by rw [HTT.out, List.map_append]; exact k1, HTN2, (hbxO.alloc hwO _).upd k2 (by simp; omega) (fun i _ hi => (hJ.lt i hi).1)⟩
          case measure => simp [intOf] <;> omega
        | el ll pp kk tt xx =>
          have HOF2 : ∀ wx, Hid (Calls Tryz.prog 24 #[.agg #[.int .i64 kind, .int .i64 part, .int .i64 rk, .int .i64 rt, .string x, .bool late, .int .i64 at_, .int .i64 er]] wx fun e w' => e = .returned (.iface 81 (.agg #[.int .i64 pp, .int .i64 kk, .int .i64 tt, .string (bstr xx), .bool ll])) ∧ Below wx.heap.size wx w') := HOF
          clear HOF
          go_wp2_with (first | (go_at_call 24; (with_reducible refine (HOF2 _).out.mono ?_); rintro e wO ⟨rfl, hbO⟩; have hJO := hJa.onW hbO; have hbxO := on_below hbB hbO; have hwO := hbxO.size) | (at_builtin; refine wpList_append_sl _ rfl (.tmp 44) (.tmp 47) 31 31 rfl 61 k0 _ 16 Tryz.underlying31 hk hx0 hx1 hx2 rfl rfl (hJO.alloc _) _ 1 [.iface 81 (.agg #[.int .i64 pp, .int .i64 kk, .int .i64 tt, .string (bstr xx), .bool ll])] rfl (src_oneN Tryz.underlying31 _ _ _ _ rfl rfl) hlen1 (by omega) (by simp; omega) ?_; intro A1 w5 k1 k2 k3; obtain ⟨aB, cB, rfl⟩ := k1.shape) | fail)
          go_roundw
          case rel => exact ⟨k + 1, by go_num, hlt, by rw [HTT.out, List.map_append]; exact k1, HTN2, (hbxO.alloc hwO _).upd k2 (by simp; omega) (fun i _ hi => (hJ.lt i hi).1)⟩
          case measure => simp [intOf] <;> omega
      · have hxI : (100 : Int) < (x.size : Int) := by omega
        clear HTN
        go_wp2
        go_ret
        exact ⟨rfl, on_below hbx (on_below hb2 hbB)⟩
    · obtain rfl : k = n1 := by omega
      have e : L.take k = L := List.take_of_length_le (by rw [HLL.out]; exact Nat.le_refl _)
      rw [e] at hJ
      clear e
      have hok : ∀ e ∈ L, Ev.ok e := fun e he => by
        rw [← HLX.out] at he
        obtain ⟨d, hd, rfl⟩ := List.mem_map.1 he
        exact HQ.out d hd
      obtain ⟨-, aA2, cA2, hve, hE⟩ := rowe_of_sl hJ
      rw [HLL.out] at hve
      cases hve
      have hb3 := on_below hb2 hb
      obtain ⟨hm8, hnq, hn5, h400⟩ := HSM.out
      have h4 : ∀ s ∈ ls, s.size ≤ 4000 := fun s hs => Nat.le_trans (h400 s hs) (by omega)
      have h6 : ∀ s ∈ ls, s.size ≤ 100000 := fun s hs => Nat.le_trans (h400 s hs) (by omega)
      have hsx : ∀ d ∈ l1, d.2.2.1.2.2.1.size ≤ 4096 := fun d hd => by
        obtain ⟨j, hj, rfl⟩ := List.mem_iff_getElem.1 hd
        exact Nat.le_trans (HTX.out j hj (by rw [HN.out]; exact hj)) (by omega)
      obtain ⟨oa, ob, hab⟩ : ∃ oa ob, plainB (lgsOf ls) L = (oa, ob) := ⟨_, _, rfl⟩
      have hpl := hab
      rw [plain_is] at hpl
      obtain ⟨hka, hwb⟩ := tup2 hpl
      obtain ⟨od, hod⟩ : ∃ o, driftB rs dr L = o := ⟨_, rfl⟩
      obtain ⟨oo, hoo⟩ : ∃ o, orderlyB rs (lgsOf ls) = o := ⟨_, rfl⟩
      have HPLN := Lib.hid (law_plain a1 k c1 l1 wr (hrow0.below hb3) HN.out (by omega) HQ.out b m c2 ls (hC0.on hb3).hlo hC0.hm (by omega) h4 oa ob (by rw [HLX.out]; exact hab))
      have HKP := fun wx (hx : Below wr.heap.size wr wx) => Lib.hid (ju_kept aA k cA L b m c2 ls wx (hE.on hx) HLL.out.symm (by omega) ((hC0.on hb3).on hx).hlo hC0.hm (by omega) h6 oa hka)
      have HWH := fun wx (hx : Below wr.heap.size wr wx) => Lib.hid (ju_whole aA k cA L b m c2 ls wx (hE.on hx) HLL.out.symm (by omega) ((hC0.on hb3).on hx).hlo hC0.hm (by omega) h6 ob hwb)
      have HDR := fun wx (hx : Below wr.heap.size wr wx) => Lib.hid (ju_drifted rs t dr a n c wx ((hC0.on hb3).on hx).hru hC0.hn (by omega) hC0.hfit hC0.hd aA k cA L (hE.on hx) HLL.out.symm (by omega) hok od hod)
      have HNE := fun wx (hx : Below wr.heap.size wr wx) => Lib.hid (law_near rs t dr a n c wx ((hC0.on hb3).on hx).hru hC0.hn (by omega) hC0.hfit hC0.hd a1 k c1 l1 ((hrow0.below hb3).below hx) HN.out (by omega) HQ.out hsx od (by rw [HLX.out]; exact hod))
      have HOR := fun wx (hx : Below wr.heap.size wr wx) => Lib.hid (ju_orderly rs t dr a n c ls b m c2 wx ((hC0.on hb3).on hx).hru hC0.hn (by omega) hC0.hfit ((hC0.on hb3).on hx).hlo hC0.hm (by omega) h6 oo hoo)
      have HOL := fun wx (hx : Below wr.heap.size wr wx) => Lib.hid (law_orderly rs t dr a n c ls b m c2 q nq c3 wx ((hC0.on hb3).on hx).hru hC0.hn (by omega) hC0.hfit ((hC0.on hb3).on hx).hlo hC0.hm (by omega) h4 oo hoo)
      have HAF : Hid (∀ wx, Below wr.heap.size wr wx → wx.cell? ⟨w.heap.size, 0, none⟩ = some (.slice a n c) ∧ wx.cell? ⟨w.heap.size, 1, none⟩ = some (.int .i64 t) ∧ wx.cell? ⟨w.heap.size, 2, none⟩ = some (.int .i64 dr) ∧ wx.cell? ⟨w.heap.size, 3, none⟩ = some (.slice b m c2) ∧ wx.cell? ⟨w.heap.size, 4, none⟩ = some (.slice q nq c3)) := fun wx hx => by
        obtain ⟨-, x0, -, x1, -, x2, -, x3, -, x4, -⟩ := HA wx (on_below hb3 hx)
        exact ⟨x0, x1, x2, x3, x4⟩
      obtain ⟨-, y0, -, y1, -, y2, -, y3, -, y4, -⟩ := HA _ hb3
      clear hJ hok hE hab hpl hka hwb hod hoo h4 h6 hsx h400 HA hC0 hrow0 HTX
      go_wp2_with (first | (go_at_call 28; (with_reducible refine HPLN.out.mono ?_); rintro e w3 ⟨rfl, hc3⟩; obtain ⟨z0, z1, z2, z3, z4⟩ := HAF.out _ hc3) | fail)
      clear y0 y1 y2 y3 y4 HPLN
      have hbZ := on_below hbx (on_below hb3 hc3)
      go_region_held3 (fun wx => wx.cell? ⟨w.heap.size, 0, none⟩ = some (.slice a n c) ∧ wx.cell? ⟨w.heap.size, 1, none⟩ = some (.int .i64 t) ∧ wx.cell? ⟨w.heap.size, 2, none⟩ = some (.int .i64 dr) ∧ wx.cell? ⟨w.heap.size, 3, none⟩ = some (.slice b m c2) ∧ wx.cell? ⟨w.heap.size, 4, none⟩ = some (.slice q nq c3)) (((with_reducible refine HAF.out _ ?_); (repeat (first | (with_reducible assumption) | (with_reducible refine nA ?_ _) | (with_reducible refine nD ?_))))) (first | (go_at_call 13; (with_reducible refine (HKP _ (by (repeat (first | (with_reducible assumption) | (with_reducible refine nA ?_ _) | (with_reducible refine nD ?_))))).out.mono ?_); rintro e wa ⟨rfl, hq1⟩; have hr1 : Below wr.heap.size wr wa := on_below (by (repeat (first | (with_reducible assumption) | (with_reducible refine nA ?_ _) | (with_reducible refine nD ?_)))) hq1) | (go_at_call 23; (with_reducible refine (HWH _ (by (repeat (first | (with_reducible assumption) | (with_reducible refine nA ?_ _) | (with_reducible refine nD ?_))))).out.mono ?_); rintro e wb ⟨rfl, hq2⟩; have hr2 : Below wr.heap.size wr wb := on_below (by (repeat (first | (with_reducible assumption) | (with_reducible refine nA ?_ _) | (with_reducible refine nD ?_)))) hq2) | (go_at_call 14; (with_reducible refine (HDR _ (by (repeat (first | (with_reducible assumption) | (with_reducible refine nA ?_ _) | (with_reducible refine nD ?_))))).out.mono ?_); rintro e wc ⟨rfl, hq3⟩; have hr3 : Below wr.heap.size wr wc := on_below (by (repeat (first | (with_reducible assumption) | (with_reducible refine nA ?_ _) | (with_reducible refine nD ?_)))) hq3) | (go_at_call 29; (with_reducible refine (HNE _ (by (repeat (first | (with_reducible assumption) | (with_reducible refine nA ?_ _) | (with_reducible refine nD ?_))))).out.mono ?_); rintro e wd ⟨rfl, hq4⟩; have hr4 : Below wr.heap.size wr wd := on_below (by (repeat (first | (with_reducible assumption) | (with_reducible refine nA ?_ _) | (with_reducible refine nD ?_)))) hq4) | (go_at_call 15; (with_reducible refine (HOR _ (by (repeat (first | (with_reducible assumption) | (with_reducible refine nA ?_ _) | (with_reducible refine nD ?_))))).out.mono ?_); rintro e we ⟨rfl, hq5⟩; have hr5 : Below wr.heap.size wr we := on_below (by (repeat (first | (with_reducible assumption) | (with_reducible refine nA ?_ _) | (with_reducible refine nD ?_)))) hq5) | (go_at_call 30; (with_reducible refine (HOL _ (by (repeat (first | (with_reducible assumption) | (with_reducible refine nA ?_ _) | (with_reducible refine nD ?_))))).out.mono ?_); rintro e wf ⟨rfl, hq6⟩; have hr6 : Below wr.heap.size wr wf := on_below (by (repeat (first | (with_reducible assumption) | (with_reducible refine nA ?_ _) | (with_reducible refine nD ?_)))) hq6) | fail)
      go_wp2
      go_ret
      exact ⟨by simp, on_below hbx (on_below hb3 hr6)⟩
end Go.Proofs.YtmimfkhkilijcaaGreat
