/- The walk of PunctNows. -/
import Derived.Test.YthpnkjnieljdiaaSpeaks11
import Derived.Test.YthpnkjnieljdiaaRecs
namespace Go.Proofs.Ythpnkjnieljdiaa
open Go.ChangeShapes Go.WideShapes Go.ChangeAt Go.RowKit
open PSign PClamp
set_option linter.unusedVariables false
set_option linter.unusedSimpArgs false

theorem size_bstr' (l : List UInt8) : (bstr l).size = l.length := by simp [ByteArray.size]

set_option maxHeartbeats 4000000 in
theorem walk_PunctNows (w : World) (a0 : Int) (w0 : (Lit.int .i64 a0).wf = true) (a1 : Option Addr) (n1 c1 : Nat) (l1 : List (Int × Int × ByteArray × Unit)) (w1 : Rd w (.sl (.pair (.int .i64) (.pair (.int .i64) (.pair .str .unit)))) [.slice a1 n1 c1] l1) :
    Calls Try.prog 3 #[.int .i64 a0, .slice a1 n1 c1] w fun e w' => e = .returned (.bool true) ∧ Below w.heap.size w w' := by
  obtain ⟨hn0, hcap, hr, hxm⟩ := Rd.recs w1
  have hb := bounds_i64 w0
  have hln : (l1.map toR).length = n1 := (@List.length_map _ _ l1 toR).trans hn0.symm
  generalize hrs : (List.map toR l1 : List PFrame.R) = rs at *
  clear hrs w1 w0 hn0
  have HN := Lib.hid hln
  clear hln
  by_cases hbig : 100 < n1
  · go_enter Try.func3, Try.ntmps3
    go_wp2_with (go_at_call 8; refine (speaks11 _).mono ?_; rintro e w2 ⟨rfl, hb2⟩)
    go_ret
    exact ⟨rfl, hb2⟩
  have hsm : n1 ≤ 100 := by omega
  have HP := fun w' => Lib.hid (pu_new a0 w')
  go_enter Try.func3, Try.ntmps3
  go_wp2_with (go_at_call 8; refine (speaks11 _).mono ?_; rintro e w2 ⟨rfl, hb2⟩)
  go_wp2_with (go_at_call 9; refine (HP _).out.mono ?_; rintro e w3 ⟨rfl, rfl⟩)
  have hc0 := ClampC.made w2 [.int .i64 a0] 35
  have hb0 := hb2.alloc hb2.size (.cells #[.int .i64 0, .bool false, .int .i64 a0] 35)
  go_loopw [6, 19] (fun z i wr => ∃ (k : Nat) (m : Int), k ≤ n1 ∧ i = .int .i64 k ∧ z = .int .i64 m ∧ ClampC wr w2.heap.size m [.int .i64 a0] ∧ Below w.heap.size w wr) (fun _ i _ => n1 - (intOf i).toNat)
  case atStart => exact ⟨0, _, Nat.zero_le _, rfl, rfl, hc0, hb0⟩
  case round =>
    obtain ⟨k, m, hk, rfl, rfl, hcl, hbw⟩ := hrel
    have hsz := hb2.size
    by_cases hlt : k < n1
    · have hk1 : k < rs.length := by rw [HN.out]; exact hlt
      obtain ⟨b, off, rfl, hbb, p0, p1, p2⟩ := (hr.on hbw).at_ k hk1
      have htm := (hr.tm rs[k] (List.getElem_mem hk1)).2
      generalize rs[k] = r at *
      obtain ⟨k1, t1, x1⟩ := r
      simp only at p0 p1 p2 htm
      have hsx : (bstr x1).size = x1.length := size_bstr' x1
      have hb1 := hbw.alloc hbw.size (.cells #[.int .i64 k1, .int .i64 t1, .string (bstr x1)] 27)
      by_cases hx : 200 < x1.length
      · go_wp2
        go_ret
        exact ⟨rfl, hb1⟩
      · have hcl1 := hcl.alloc (.cells #[.int .i64 k1, .int .i64 t1, .string (bstr x1)] 27)
        have hA := At.alloc wr [.int .i64 k1, .int .i64 t1, .string (bstr x1)] 27
        have hRH := fun w' => Lib.hid (ref_has (bstr x1) a0 w' (by omega))
        obtain ⟨o, ho⟩ : ∃ o, says k1 (bstr x1) a0 = o := ⟨_, rfl⟩
        obtain ⟨M, hM⟩ : ∃ M, rz o m t1 = M := ⟨_, rfl⟩
        have HSY := fun w' => Lib.hid (pu_says k1 t1 (bstr x1) a0 w' hb o ho)
        have HSN := fun w' h => Lib.hid (pu_seen w2.heap.size m a0 k1 t1 (bstr x1) w' h hb o ho M hM)
        have HNW := fun w' (h : ClampC w' w2.heap.size M [.int .i64 a0]) => Lib.hid (cl_now w2.heap.size _ _ w' h)
        have hmx : o = true → max m t1 = M := fun h => by rw [← hM]; unfold rz; simp only [h, true_and]; split <;> omega
        have hmm : o = false → m = M := fun h => by rw [← hM]; simp [rz, h]
        have hoo : (o != o) = false := by simp
        have hMM : (M != M) = false := by simp
        by_cases hk2 : k1 = 2
        · obtain rfl : o = true := by rw [← ho]; simp [says, hk2]
          have hmx := hmx rfl
          clear hmm hM ho hRH
          subst hk2
          go_wp2_with (go_at_call 11; refine (HSY _).out.mono ?_; rintro e w4 ⟨rfl, hb4⟩; obtain ⟨r4, u0, y0, u1, y1, u2, y2⟩ := (hA.on hb4).three; have hcl4 := hcl1.on hb4; have hbw4 := on_below hb1 hb4)
          go_wp2_with (go_at_call 12; refine (HSN _ hcl4).out.mono ?_; rintro e w5 ⟨rfl, hcl5, hu5⟩; have hbw5 := hbw4.upd hu5 hbw4.size (fun i _ h => by omega))
          go_wp2_with (go_at_call 13; refine (HNW _ hcl5).out.mono ?_; rintro e w6 ⟨rfl, rfl⟩)
          go_roundw
          case rel => exact ⟨k + 1, M, by omega, by go_num, by first | rfl | rw [hmx], hcl5, hbw5⟩
          case measure => simp [intOf]; omega
        · have hkk : (k1 == 2) = false := by simpa using hk2
          have hh : hasn (signs (bstr x1).data.toList) a0 = o := by rw [← ho]; simp [says, hk2]
          rw [hh] at hRH
          clear hh ho hk2
          cases o
          · have hmm := hmm rfl
            subst hmm
            clear hmx hM
            go_wp2_with (go_at_call 10; refine (hRH _).out.mono ?_; rintro e w3 ⟨rfl, hb3⟩; have hA3 := hA.on hb3; obtain ⟨r3, t0, z0, t1', z1, t2, z2⟩ := hA3.three; have hcl3 := hcl1.on hb3; have hbw3 := on_below hb1 hb3)
            go_wp2_with (go_at_call 11; refine (HSY _).out.mono ?_; rintro e w4 ⟨rfl, hb4⟩; obtain ⟨r4, u0, y0, u1, y1, u2, y2⟩ := (hA3.on hb4).three; have hcl4 := hcl3.on hb4; have hbw4 := on_below hbw3 hb4)
            go_wp2_with (go_at_call 12; refine (HSN _ hcl4).out.mono ?_; rintro e w5 ⟨rfl, hcl5, hu5⟩; have hbw5 := hbw4.upd hu5 hbw4.size (fun i _ h => by omega))
            go_wp2_with (go_at_call 13; refine (HNW _ hcl5).out.mono ?_; rintro e w6 ⟨rfl, rfl⟩)
            go_roundw
            case rel => exact ⟨k + 1, m, by omega, by go_num, rfl, hcl5, hbw5⟩
            case measure => simp [intOf]; omega
          · have hmx := hmx rfl
            clear hmm hM
            go_wp2_with (go_at_call 10; refine (hRH _).out.mono ?_; rintro e w3 ⟨rfl, hb3⟩; have hA3 := hA.on hb3; obtain ⟨r3, t0, z0, t1', z1, t2, z2⟩ := hA3.three; have hcl3 := hcl1.on hb3; have hbw3 := on_below hb1 hb3)
            go_wp2_with (go_at_call 11; refine (HSY _).out.mono ?_; rintro e w4 ⟨rfl, hb4⟩; obtain ⟨r4, u0, y0, u1, y1, u2, y2⟩ := (hA3.on hb4).three; have hcl4 := hcl3.on hb4; have hbw4 := on_below hbw3 hb4)
            go_wp2_with (go_at_call 12; refine (HSN _ hcl4).out.mono ?_; rintro e w5 ⟨rfl, hcl5, hu5⟩; have hbw5 := hbw4.upd hu5 hbw4.size (fun i _ h => by omega))
            go_wp2_with (go_at_call 13; refine (HNW _ hcl5).out.mono ?_; rintro e w6 ⟨rfl, rfl⟩)
            go_roundw
            case rel => exact ⟨k + 1, M, by omega, by go_num, by first | rfl | rw [hmx], hcl5, hbw5⟩
            case measure => simp [intOf]; omega
    · obtain rfl : k = n1 := by omega
      have HG := Lib.hid (pu_sign w2.heap.size _ a0 _ hcl)
      go_wp2_with (go_at_call 14; refine HG.out.mono ?_; rintro e w4 ⟨rfl, rfl⟩)
      go_ret
      exact ⟨rfl, hbw⟩
end Go.Proofs.Ythpnkjnieljdiaa
