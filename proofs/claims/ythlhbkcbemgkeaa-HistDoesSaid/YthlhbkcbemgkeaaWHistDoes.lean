/- The walk of the law HistDoes. -/
import Derived.Test.YthlhbkcbemgkeaaDoes
namespace Go.Proofs.Ythlhbkcbemgkeaa
open Go.ChangeShapes Go.WideShapes Go.ChangeAt Go.RowKit
open PHist
set_option linter.unusedVariables false
set_option linter.unusedSimpArgs false

theorem percent_eq (l : List Int) (p : Nat) : least (fun x => decide (p * l.length ≤ cnt l x * 100)) l = (((srt l)[prank l.length p - 1]?).getD 0, ((srt l)[prank l.length p - 1]?).isSome) := by
  rw [percent_rank]
  by_cases h : prank l.length p - 1 < (srt l).length
  · rw [dif_pos h, List.getElem?_eq_getElem h]; rfl
  · rw [dif_neg h, List.getElem?_eq_none (by omega)]; rfl

set_option maxRecDepth 100000 in
set_option maxHeartbeats 8000000 in
theorem walk_HistDoes (w : World) (a0 : Option Addr) (n0 c0 : Nat) (l0 : List (Bool × Int × Unit)) (w0 : Rd w (.sl (.pair .bool (.pair (.int .i64) .unit))) [.slice a0 n0 c0] l0) (a1 : Int) (w1 : (Lit.int .i64 a1).wf = true) :
    Calls Try.prog 5 #[.slice a0 n0 c0, .int .i64 a1] w fun e w' => e = .returned (.bool true) ∧ Below w.heap.size w w' := by
  obtain ⟨hn, hc, hcm, hl⟩ := Rd.acts w0
  obtain ⟨i1, i2⟩ := bounds_i64 w1
  clear w0 w1
  generalize l0.map toA = acts at *
  by_cases hbig : 60 < n0
  · go_enter Try.func5, Try.ntmps5
    go_wp2_with (first | (go_at_call 20; refine (speaks8 _).mono ?_; rintro e w1 ⟨rfl, b1⟩))
    go_ret
    exact ⟨rfl, b1⟩
  subst hn
  obtain ⟨i0, hi0, hz0, hz1, hz2⟩ := info_parts info_int
  go_enter Try.func5, Try.ntmps5
  go_wp2_with (first | (go_at_call 20; refine (speaks8 _).mono ?_; rintro e w1 ⟨rfl, b1⟩))
  go_loopw [6, 30] (fun v i wr => ∃ (k : Nat) (L : List Int) (a : Option Addr) (c : Nat), k ≤ acts.length ∧ i = .int .i64 k ∧ v = .slice a L.length c ∧ L.length ≤ c ∧ L.length ≤ k ∧ Ds w wr w1.heap.size L a L) (fun _ i _ => acts.length - (intOf i).toNat)
  case atStart => exact ⟨0, [], none, 0, Nat.zero_le _, rfl, rfl, Nat.le_refl _, Nat.le_refl _, Ds.start w w1 b1⟩
  case round =>
    obtain ⟨k, L, a, c, hk, rfl, rfl, hmc, hLk, hds⟩ := hrel
    by_cases hlt : k < acts.length
    · obtain ⟨b, off, rfl, hb, x0, x1⟩ := (hl.below hds.bel).at_ k hlt
      have hnb := bounds_i64 (hl.wf _ (List.getElem_mem hlt))
      generalize acts[k] = act at *
      obtain ⟨o, n⟩ := act
      simp only at x0 x1 hnb
      have hdl := Dl.start hds o n
      have hg8 : Hid True := Lib.hid trivial
      cases o with
      | true =>
        by_cases hmem : n ∈ L
        · have hwl : (wout n L).length + 1 = L.length := by have := (wout_perm n L hmem).length_eq; simpa using this
          have HPW := Lib.hid (wout_perm n L hmem)
          have HWO := Lib.hid (hdl.without c n hmc hmem (by omega))
          go_wp2_with (go_at_call 21; (with_reducible refine HWO.out.mono ?_); rintro e w3 ⟨a3, m3, c3, rfl, hm3, hmc3, hd3⟩; obtain ⟨y0, y1⟩ := hd3.cells)
          go_wp2_with (go_at_call 22; (refine (hd3.rem (by omega) n HPW.out).mono ?_); rintro e w4 ⟨rfl, hd4⟩; have hs4 := hd4.ds)
          go_wp2_with (go_at_call 24; (refine (hs4.len (wout n L).length rfl).mono ?_); rintro e w5 ⟨rfl, rfl⟩)
          go_roundw
          case rel => exact ⟨k + 1, wout n L, a3, c3, by omega, by go_num, rfl, by omega, by omega, hs4⟩
          case measure => simp [intOf]; omega
        · have HWO := Lib.hid (hdl.without_none c n hmem (by omega))
          have hwb := hds.bel
          go_wp2_with (go_at_call 21; (with_reducible refine HWO.out.mono ?_); rintro e w3 ⟨rfl, rfl⟩; obtain ⟨y0, y1⟩ := hdl.cells)
          go_wp2_with (go_at_call 22; (refine (hdl.rem_none (by omega) n hmem).mono ?_); rintro e w4 ⟨rfl, hd4⟩; have hs4 := hd4.ds)
          go_wp2_with (go_at_call 24; (refine (hs4.len L.length rfl).mono ?_); rintro e w5 ⟨rfl, rfl⟩)
          go_roundw
          case rel => exact ⟨k + 1, L, a, c, by omega, by go_num, rfl, by omega, by omega, hs4⟩
          case measure => simp [intOf]; omega
      | false =>
        go_wp2_with (go_at_call 23; (refine (hdl.add (by omega) n).mono ?_); rintro e w4 ⟨rfl, hd4⟩; obtain ⟨y0, y1⟩ := hd4.cells)
        have hrow4 := hd4.ds.row
        have hgl := hd4.lt
        have hbdL : ∀ y ∈ L ++ [n], -9223372036854775808 ≤ y ∧ y ≤ 9223372036854775807 := fun y hy => by
          rcases List.mem_append.1 hy with h | h
          · exact bounds_i64 (hrow4.wf y h)
          · rw [List.mem_singleton.1 h]; exact hnb
        have HBD := Lib.hid hbdL
        have HR4 := Lib.hid hrow4
        clear hbdL hrow4
        go_cut [6] (fun v wx => ∃ az cz, v = .slice az (L.length + 1) cz ∧ L.length + 1 ≤ cz ∧ Ds w wx w1.heap.size (L ++ [n]) az (L ++ [n]))
        case first =>
          go_region_law (first | (refine step_append_empty rfl (.tmp 52) (.tmp 53) 22 22 rfl (B := w4.heap.size) 3 i0 (.int .i64 0) 8 Try.underlying22 hi0 hz0 hz1 hz2 rfl _ (.slice a L.length c) L.length (iv L) rfl rfl (by first | exact Nat.le_refl _ | (simp; done) | (simp; omega)) (by first | (simp; done) | (simp; omega)) (src_ints Try.underlying22 _ a L.length c L (HR4.out.below (by repeat (first | exact Below.refl _ _ | refine bA ?_ _ | refine bD ?_))) rfl) (by unfold maxLen; omega) (by omega) (by first | (simp; done) | (simp; omega)) ?_; intro av cv wv kv bv; have hbv : Below w4.heap.size w4 wv := on_below (by repeat (first | exact Below.refl _ _ | refine bA ?_ _ | refine bD ?_)) bv; obtain ⟨yv0, yv1⟩ := (hd4.below hbv).cells; have hgv := (hd4.below hbv).lt) | (refine step_append_sl rfl (.tmp 54) (.tmp 57) 22 22 rfl 3 i0 (.int .i64 0) 8 Try.underlying22 hi0 hz0 hz1 hz2 rfl (.slice av L.length cv) _ 1 [.int .i64 n] rfl rfl (B := w4.heap.size) (xs := iv L) (n := L.length) (by first | exact kv | exact kv.alloc _) (src_cell Try.underlying22 (by first | exact at_new _ _ _ _ (by first | rfl | (simp; done)) | exact (at_new _ _ _ _ (by first | rfl | (simp; done))).drew.on bv | exact (at_kept (at_new _ _ _ _ (by first | rfl | (simp; done))) _).drew.on bv) rfl) (by unfold maxLen; omega) (by omega) (by first | exact hbv.size | (have := hbv.size; simp; omega)) ?_; intro az cz wz kz uz; have hbz : Below w4.heap.size w4 wz := Below.upd (by first | exact hbv | exact bA hbv _) uz (by first | exact hbv.size | (have := hbv.size; simp; omega)) (fun i hi hk => (kv.lt i hk).1); have hfz := Lib.hid (hd4.fresh hbz (by rw [iv_snoc]; exact kz) HBD.out); clear uz kz hbz))
          all_goals (
            obtain ⟨hsz, _, hcz⟩ := hfz.out
            have hsz2 := Lib.hid (hsz.perm (List.perm_append_singleton n L).symm)
            clear bv kv hbv yv0 yv1 hgv y0 y1 HBD HR4 hfz hsz
            go_wp2_with fail
            go_meet
            exact ⟨az, cz, rfl, hcz, hsz2.out⟩)
        case rest =>
          obtain ⟨az, cz, rfl, hcz, hsz2⟩ := hcut
          go_wp2_with (go_at_call 24; (refine (hsz2.len (L.length + 1) (by simp)).mono ?_); rintro e w5 ⟨rfl, rfl⟩)
          go_roundw
          case rel => exact ⟨k + 1, L ++ [n], az, cz, by omega, by go_num, by rw [List.length_append]; rfl, by rw [List.length_append]; exact hcz, by rw [List.length_append]; simp; omega, hsz2⟩
          case measure => simp [intOf]; omega
    · have hL60 : L.length ≤ 60 := by omega
      go_wp2
      go_loopw [11] (fun i wx => ∃ p : Nat, p ≤ L.length + 2 ∧ i = .int .i64 p ∧ Ds w wx w1.heap.size L a L) (fun i _ => L.length + 2 - (intOf i).toNat)
      case atStart => exact ⟨0, by omega, rfl, hds⟩
      case round =>
        obtain ⟨p, hp, rfl, hdx⟩ := hrel
        have hsl := srt_len L
        by_cases hpl : p ≤ L.length + 1
        · have HR := hdx.row
          by_cases hp0 : p = 0
          · subst hp0
            have HRK := Lib.hid (hdx.low 0 (by omega))
            have HLE := fun wy (h : RowI wy .i64 a L) => Lib.hid (ref_least a L.length c L 1 1 rfl wy rfl h)
            generalize least (fun x => decide (1 ≤ cnt L x)) L = lz at *
            obtain ⟨z, bz⟩ := lz
            go_wp2_with (first | (go_at_call 25; (refine HRK.out.mono ?_); rintro e w5 ⟨rfl, hd5, b5⟩; have hr5 := hd5.row) | (go_at_call 26; (refine (HLE _ hr5).out.mono ?_); rintro e w6 ⟨rfl, rfl⟩))
            go_roundw
            case rel => exact ⟨1, by omega, by go_num, hd5⟩
            case measure => (simp [intOf] <;> omega)
          · have hlr := least_rank L p (by omega)
            by_cases hpn : p ≤ L.length
            · obtain ⟨x, hx⟩ : ∃ x, (srt L)[p - 1]? = some x := ⟨_, List.getElem?_eq_getElem (by omega)⟩
              have hlr2 : least (fun x => decide (p ≤ cnt L x)) L = (x, true) := by
                obtain ⟨h1, h2⟩ := List.getElem?_eq_some_iff.1 hx
                rw [hlr, dif_pos h1, h2]
              have HRK := Lib.hid (hdx.rank p p rfl (some x) (by omega) (by omega) hx x true rfl rfl)
              have HLE := fun wy (h : RowI wy .i64 a L) => Lib.hid (ref_least a L.length c L p p rfl wy rfl h)
              rw [hlr2] at HLE
              clear hlr hlr2 hx
              have hxx : (x != x) = false := by simp
              go_wp2_with (first | (go_at_call 25; (refine HRK.out.mono ?_); rintro e w5 ⟨rfl, hd5, b5⟩; have hr5 := hd5.row) | (go_at_call 26; (refine (HLE _ hr5).out.mono ?_); rintro e w6 ⟨rfl, rfl⟩))
              go_roundw
              case rel => exact ⟨p + 1, by omega, by go_num, hd5⟩
              case measure => simp [intOf]; omega
            · have HRK := Lib.hid (hdx.rank p p rfl none (by omega) (by omega) (List.getElem?_eq_none (by omega)) 0 false rfl rfl)
              have HLE := fun wy (h : RowI wy .i64 a L) => Lib.hid (ref_least a L.length c L p p rfl wy rfl h)
              clear hlr
              generalize least (fun x => decide (p ≤ cnt L x)) L = lz at *
              obtain ⟨z, bz⟩ := lz
              go_wp2_with (first | (go_at_call 25; (refine HRK.out.mono ?_); rintro e w5 ⟨rfl, hd5, b5⟩; have hr5 := hd5.row) | (go_at_call 26; (refine (HLE _ hr5).out.mono ?_); rintro e w6 ⟨rfl, rfl⟩))
              go_roundw
              case rel => exact ⟨p + 1, by omega, by go_num, hd5⟩
              case measure => simp [intOf]; omega
        · go_wp2
          go_loopw [99] (fun i wx => ∃ p : Nat, p ≤ 101 ∧ i = .int .i64 p ∧ Ds w wx w1.heap.size L a L) (fun i _ => 101 - (intOf i).toNat)
          case atStart => exact ⟨0, by omega, rfl, hdx⟩
          case round =>
            obtain ⟨q, hq, rfl, hdy⟩ := hrel
            by_cases hql : q < 101
            · have hpe := percent_eq L q
              have HPC := Lib.hid (hdy.percent q (by omega) (by omega) _ rfl)
              have HLE := fun wy (h : RowI wy .i64 a L) => Lib.hid (ref_percent a L.length c L q q rfl wy rfl h (by omega) (by omega))
              rw [hpe] at HLE
              clear hpe
              generalize (srt L)[prank L.length q - 1]? = o at *
              generalize o.getD 0 = z at *
              generalize o.isSome = bz at *
              have hzz : (z != z) = false := by simp
              have hbb : (bz != bz) = false := by simp
              go_wp2_with (first | (go_at_call 27; (refine HPC.out.mono ?_); rintro e w5 ⟨rfl, hd5, b5⟩; have hr5 := hd5.row) | (go_at_call 28; (refine (HLE _ hr5).out.mono ?_); rintro e w6 ⟨rfl, rfl⟩))
              go_roundw
              case rel => exact ⟨q + 1, by omega, by go_num, hd5⟩
              case measure => simp [intOf]; omega
            · by_cases hk1 : a1 < 1
              · have HRK := Lib.hid (hdy.low a1 hk1)
                go_wp2_with (go_at_call 25; (refine HRK.out.mono ?_); rintro e w5 ⟨rfl, hd5, b5⟩; have hb5 := hd5.bel)
                all_goals (go_ret; exact ⟨ret_true (by simp), hb5⟩)
              · obtain ⟨kk, rfl⟩ : ∃ kk : Nat, a1 = kk := ⟨a1.toNat, by omega⟩
                by_cases hkn : kk ≤ L.length
                · obtain ⟨x, hx⟩ : ∃ x, (srt L)[kk - 1]? = some x := ⟨_, List.getElem?_eq_getElem (by omega)⟩
                  have HRK := Lib.hid (hdy.rank kk kk rfl (some x) (by omega) (by omega) hx x true rfl rfl)
                  clear hx
                  go_wp2_with (go_at_call 25; (refine HRK.out.mono ?_); rintro e w5 ⟨rfl, hd5, b5⟩; have hb5 := hd5.bel)
                  all_goals (go_ret; exact ⟨ret_true (by simp), hb5⟩)
                · have HRK := Lib.hid (hdy.rank kk kk rfl none (by omega) (by omega) (List.getElem?_eq_none (by omega)) 0 false rfl rfl)
                  go_wp2_with (go_at_call 25; (refine HRK.out.mono ?_); rintro e w5 ⟨rfl, hd5, b5⟩; have hb5 := hd5.bel)
                  all_goals (go_ret; exact ⟨ret_true (by simp), hb5⟩)
end Go.Proofs.Ythlhbkcbemgkeaa
