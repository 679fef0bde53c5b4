/- The walk of PunctMute. -/
import Derived.Test.YthpnkjnieljdiaaSpeaks11
import Derived.Test.YthpnkjnieljdiaaRecs
import Derived.Test.YthpnkjnieljdiaaWPunctNows
namespace Go.Proofs.Ythpnkjnieljdiaa
open Go.ChangeShapes Go.WideShapes Go.ChangeAt Go.RowKit
open PSign PClamp
set_option linter.unusedVariables false
set_option linter.unusedSimpArgs false

set_option maxHeartbeats 4000000 in
theorem walk_PunctMute (w : World) (a0 : Int) (w0 : (Lit.int .i64 a0).wf = true) (a1 : Option Addr) (n1 c1 : Nat) (l1 : List (Int × Int × ByteArray × Unit)) (w1 : Rd w (.sl (.pair (.int .i64) (.pair (.int .i64) (.pair .str .unit)))) [.slice a1 n1 c1] l1) :
    Calls Try.prog 4 #[.int .i64 a0, .slice a1 n1 c1] w fun e w' => e = .returned (.bool true) ∧ Below w.heap.size w w' := by
  obtain ⟨hn0, hcap, hr, hxm⟩ := Rd.recs w1
  have hb := bounds_i64 w0
  have hln : (l1.map toR).length = n1 := (@List.length_map _ _ l1 toR).trans hn0.symm
  generalize hrs : (List.map toR l1 : List PFrame.R) = rs at *
  clear hrs w1 w0 hn0
  have HN := Lib.hid hln
  clear hln
  by_cases hbig : 100 < n1
  · go_enter Try.func4, Try.ntmps4
    go_wp2_with (go_at_call 8; refine (speaks11 _).mono ?_; rintro e w2 ⟨rfl, hb2⟩)
    go_ret
    exact ⟨rfl, hb2⟩
  have hsm : n1 ≤ 100 := by omega
  have HP := fun w' => Lib.hid (pu_new a0 w')
  go_enter Try.func4, Try.ntmps4
  go_wp2_with (go_at_call 8; refine (speaks11 _).mono ?_; rintro e w2 ⟨rfl, hb2⟩)
  go_wp2_with (go_at_call 9; refine (HP _).out.mono ?_; rintro e w3 ⟨rfl, rfl⟩)
  have hsz := hb2.size
  have hc0 := (ClampC.made w2 [.int .i64 a0] 35).alloc (.cells #[.int .i64 0, .bool false, .int .i64 a0] 35)
  have hd0 := ClampC.made (w2.alloc (.cells #[.int .i64 0, .bool false, .int .i64 a0] 35)) [.int .i64 a0] 35
  rw [show (w2.alloc (.cells #[.int .i64 0, .bool false, .int .i64 a0] 35)).heap.size = w2.heap.size + 1 by simp] at hd0
  have hb0 := (hb2.alloc hb2.size (.cells #[.int .i64 0, .bool false, .int .i64 a0] 35)).alloc (by simp; omega) (.cells #[.int .i64 0, .bool false, .int .i64 a0] 35)
  go_loopw [20] (fun i wr => ∃ (k : Nat) (m : Int), k ≤ n1 ∧ i = .int .i64 k ∧ ClampC wr w2.heap.size m [.int .i64 a0] ∧ ClampC wr (w2.heap.size + 1) m [.int .i64 a0] ∧ Below w.heap.size w wr) (fun i _ => n1 - (intOf i).toNat)
  case atStart => exact ⟨0, _, Nat.zero_le _, rfl, hc0, hd0, hb0⟩
  case round =>
    obtain ⟨k, m, hk, rfl, hcl, hdl, hbw⟩ := hrel
    by_cases hlt : k < n1
    · have hk1 : k < rs.length := by rw [HN.out]; exact hlt
      obtain ⟨b, off, rfl, hbb, p0, p1, p2⟩ := (hr.on hbw).at_ k hk1
      have htm := (hr.tm rs[k] (List.getElem_mem hk1)).2
      generalize rs[k] = r at *
      obtain ⟨k1, t1, x1⟩ := r
      simp only at p0 p1 p2 htm
      have hsx : (bstr x1).size = x1.length := size_bstr' x1
      have hb1 := hbw.alloc hbw.size (.cells #[.int .i64 k1, .int .i64 t1, .string (bstr x1)] 27)
      by_cases hx : 200 < x1.length
      · go_wp2
        go_ret
        exact ⟨rfl, hb1⟩
      · have hcl1 := hcl.alloc (.cells #[.int .i64 k1, .int .i64 t1, .string (bstr x1)] 27)
        have hdl1 := hdl.alloc (.cells #[.int .i64 k1, .int .i64 t1, .string (bstr x1)] 27)
        have hA := At.alloc wr [.int .i64 k1, .int .i64 t1, .string (bstr x1)] 27
        have hgl := hcl.lt
        have hdlt := hdl.lt
        obtain ⟨o, ho⟩ : ∃ o, says k1 (bstr x1) a0 = o := ⟨_, rfl⟩
        obtain ⟨M, hM⟩ : ∃ M, rz o m t1 = M := ⟨_, rfl⟩
        have HSY := fun w' => Lib.hid (pu_says k1 t1 (bstr x1) a0 w' hb o ho)
        have HSN := fun w' h => Lib.hid (pu_seen w2.heap.size m a0 k1 t1 (bstr x1) w' h hb o ho M hM)
        have HSD := fun w' h => Lib.hid (pu_seen (w2.heap.size + 1) m a0 k1 t1 (bstr x1) w' h hb o ho M hM)
        have HNW := fun w' (h : ClampC w' w2.heap.size M [.int .i64 a0]) => Lib.hid (cl_now w2.heap.size _ _ w' h)
        have HND := fun w' (h : ClampC w' (w2.heap.size + 1) M [.int .i64 a0]) => Lib.hid (cl_now (w2.heap.size + 1) _ _ w' h)
        have hmm : o = false → m = M := fun h => by rw [← hM]; simp [rz, h]
        have hMM : (M != M) = false := by simp
        clear hM ho
        cases o
        · have hmm := hmm rfl
          subst hmm
          go_wp2_with (go_at_call 12; refine (HSN _ hcl1).out.mono ?_; rintro e w3 ⟨rfl, hcl3, hu3⟩; have hA3 := hA.upd hu3 (by omega); obtain ⟨r3, t0, z0, t1', z1, t2, z2⟩ := hA3.three; have hdl3 := hdl1.upd hu3 (by omega); have hbw3 := hb1.upd hu3 hb1.size (fun i _ h => by omega))
          go_wp2_with (go_at_call 11; refine (HSY _).out.mono ?_; rintro e w4 ⟨rfl, hb4⟩; have hcl4 := hcl3.on hb4; have hdl4 := hdl3.on hb4; have hbw4 := on_below hbw3 hb4)
          go_wp2
          go_region_with (first | (go_at_call 13; first | ((with_reducible refine (HNW _ (hcl4.drew)).out.mono ?_); rintro e w6 ⟨rfl, rfl⟩) | ((with_reducible refine (HND _ (hdl4.drew)).out.mono ?_); rintro e w6 ⟨rfl, rfl⟩)))
          all_goals (go_wp2; go_roundw)
          case rel => exact ⟨k + 1, m, by omega, by go_num, by first | exact hcl4.drew | exact hcl4.drew.drew | exact hcl4.drewN _, by first | exact hdl4.drew | exact hdl4.drew.drew | exact hdl4.drewN _, by first | exact on_below hbw4 ((Below.refl _ _).drew) | exact below_drewN hbw4 _⟩
          case measure => simp [intOf]; omega
        · clear hmm
          go_wp2_with (go_at_call 12; refine (HSN _ hcl1).out.mono ?_; rintro e w3 ⟨rfl, hcl3, hu3⟩; have hA3 := hA.upd hu3 (by omega); obtain ⟨r3, t0, z0, t1', z1, t2, z2⟩ := hA3.three; have hdl3 := hdl1.upd hu3 (by omega); have hbw3 := hb1.upd hu3 hb1.size (fun i _ h => by omega); have hsz3 := hu3.size)
          go_wp2_with (go_at_call 11; refine (HSY _).out.mono ?_; rintro e w4 ⟨rfl, hb4⟩; have hcl4 := hcl3.on hb4; have hdl4 := hdl3.on hb4; have hbw4 := on_below hbw3 hb4; have hA4 := hA3.on hb4; obtain ⟨r4, v0, y0, v1', y1, v2, y2⟩ := hA4.three)
          go_wp2_with (go_at_call 12; refine (HSD _ hdl4).out.mono ?_; rintro e w5 ⟨rfl, hdl5, hu5⟩; have hcl5 := hcl4.upd hu5 (by omega); have hbw5 := hbw4.upd hu5 hbw4.size (fun i _ h => by omega))
          go_wp2
          go_region_with (first | (go_at_call 13; first | ((with_reducible refine (HNW _ (hcl5.drew)).out.mono ?_); rintro e w6 ⟨rfl, rfl⟩) | ((with_reducible refine (HND _ (hdl5.drew)).out.mono ?_); rintro e w6 ⟨rfl, rfl⟩)))
          all_goals (go_wp2; go_roundw)
          case rel => exact ⟨k + 1, M, by omega, by go_num, by first | exact hcl5.drew | exact hcl5.drew.drew | exact hcl5.drewN _, by first | exact hdl5.drew | exact hdl5.drew.drew | exact hdl5.drewN _, by first | exact on_below hbw5 ((Below.refl _ _).drew) | exact below_drewN hbw5 _⟩
          case measure => simp [intOf]; omega
    · obtain rfl : k = n1 := by omega
      go_wp2
      go_ret
      exact ⟨rfl, hbw⟩
end Go.Proofs.Ythpnkjnieljdiaa
