/- The walk of AlignDoes. -/
import Derived.Test.YtcenodjifafdeaaKAlign
import Derived.BigQuiet
import Derived.Deep.LoopGhost
import Derived.Deep.DeepCutAuto
namespace Go.Proofs.Ytcenodjifafdeaa
set_option maxRecDepth 4000
open Go.ChangeShapes Go.WideShapes Go.ChangeAt Go.RowKit
open PSat PAlign
set_option linter.unusedVariables false
set_option linter.unusedSimpArgs false

theorem flt_step (R : List Int) (p : Int → Bool) (k : Nat) (h : k < R.length) : (R.take (k + 1)).filter p = (R.take k).filter p ++ (if p R[k] = true then [R[k]] else []) := by
  rw [List.take_succ_eq_append_getElem h, List.filter_append]
  congr 1
  cases hp : p R[k] <;> simp [hp]
theorem same_rows {w w' : World} (h : ∃ n, w' = w.drewN n) : Below w.heap.size w w' := on_quiet h

set_option maxRecDepth 100000 in
set_option maxHeartbeats 4000000 in
theorem walk_AlignDoes (w : World) (a0 : Int) (w0 : (Lit.int .i64 a0).wf = true) (a1 : Int) (w1 : (Lit.int .i64 a1).wf = true) (a2 : Option Addr) (n2 c2 : Nat) (l2 : List (Bool × Int × Int × Unit)) (w2 : Rd w (.sl (.pair .bool (.pair (.int .i64) (.pair (.int .i64) .unit)))) [.slice a2 n2 c2] l2) :
    Calls Try.prog 5 #[.int .i64 a0, .int .i64 a1, .slice a2 n2 c2] w fun e w' => e = .returned (.bool true) ∧ Below w.heap.size w w' := by
  have hR : n2 = l2.length ∧ n2 ≤ c2 ∧ c2 ≤ maxLen ∧ RowG w 3 actA a2 l2 ∧ ∀ x ∈ l2, actAq x := Rd.rowG (s := .pair .bool (.pair (.int .i64) (.pair (.int .i64) .unit))) 3 rfl (by decide) actA actAq (fun w cs d h => Rd.actA h) w2
  obtain ⟨rfl, -, -, hl, hq'⟩ := hR
  have HQ := Lib.hid hq'
  have h0 : -9223372036854775808 ≤ a0 ∧ a0 ≤ 9223372036854775807 := bounds_i64 w0
  have h1 := bounds_i64 w1
  clear w0 w1 w2 hq'
  by_cases hneg : a0 < 0
  · go_enter Try.func5, Try.ntmps5
    go_wp2_with (go_at_call 17; refine (speaks18 _).mono ?_; rintro e w1 ⟨rfl, hb1⟩)
    go_ret
    exact ⟨rfl, hb1⟩
  have hneg2 : 0 ≤ a0 := by omega
  clear hneg
  by_cases hbign : 100 < a1
  · go_enter Try.func5, Try.ntmps5
    go_wp2_with (go_at_call 17; refine (speaks18 _).mono ?_; rintro e w1 ⟨rfl, hb1⟩)
    go_ret
    exact ⟨rfl, hb1⟩
  have hbign2 : a1 ≤ 100 := by omega
  clear hbign
  by_cases hbig : 100 < l2.length
  · go_enter Try.func5, Try.ntmps5
    go_wp2_with (go_at_call 17; refine (speaks18 _).mono ?_; rintro e w1 ⟨rfl, hb1⟩)
    go_ret
    exact ⟨rfl, hb1⟩
  have hbig2 : l2.length ≤ 100 := by omega
  clear hbig
  obtain ⟨n, hn⟩ : ∃ n : Nat, max a1 0 = (n : Int) := ⟨(max a1 0).toNat, by omega⟩
  have hn3 : n ≤ 100 := by omega
  have hif : (if a1 < 0 then (0 : Int) else a1) = (n : Int) := by split <;> omega
  have hR0 : inR a0 := h0
  have HR0 := Lib.hid hR0
  have HN := fun w' => Lib.hid (al_new a0 a1 n w' hR0 hn (by omega))
  have hmk := run_make_row' (P := Try.prog) 47 3 (.int .i64 0) 8 Try.underlying47 (by kernel_rfl) rfl .i64 .i64 n (by omega) (by omega)
  clear hn hR0
  go_enter Try.func5, Try.ntmps5
  go_wp2_with (go_at_call 17; refine (speaks18 _).mono ?_; rintro e w1 ⟨rfl, hb1⟩)
  go_wp2_with (go_at_call 18; refine (HN _).out.mono ?_; intro e w2 h2; obtain ⟨g, gl, rfl, i2⟩ := AlI.made hb1 h2)
  have hw2 := i2.new.size
  have hgl2 := i2.al.ls.lt
  have hg2 := i2.al.at_.1
  have ho2 := own_rowI w2 (.int .i64 0) n 3
  have i3 := i2.alloc (.cells (madeCells #[.int .i64 0] n) 3)
  clear HN hmk hif i2
  go_loopw [42] (fun i wr => ∃ k : Nat, k ≤ n ∧ i = .int .i64 k ∧ Own wr w2.heap.size 0 n (fun j => if j < k then .int .i64 (-9223372036854775808) else .int .i64 0) ∧ AlI w wr g gl n a0 (-9223372036854775808) (fun _ => -9223372036854775808)) (fun i _ => n - (intOf i).toNat)
  case atStart => exact ⟨0, Nat.zero_le _, rfl, ho2.congr (fun j _ => by simp), i3⟩
  case round =>
    clear i3 ho2
    obtain ⟨k, hk, rfl, ho, hI⟩ := hrel
    by_cases hlt : k < n
    · have ho2 := ho.fill hlt
      have hcc := ho.cell k hlt
      have hff := ho.free k hlt
      have hll := ho.lt
      have hi2 : AlI w (wr.setCell ⟨w2.heap.size, 0 + k, none⟩ (.int .i64 (-9223372036854775808))) g gl n a0 (-9223372036854775808) (fun _ => -9223372036854775808) := hI.upd ((Upd.refl (fun b => b = w2.heap.size) wr).setCell (p := ⟨w2.heap.size, 0 + k, none⟩) (fun _ => rfl) _) (fun b e => by omega)
      rw [Nat.zero_add] at ho2 hcc hff hi2
      have HO2 := Lib.hid ho2
      have HI2 := Lib.hid hi2
      clear ho hI ho2 hi2
      go_wp2
      go_roundw
      case rel => exact ⟨k + 1, by omega, by go_num, HO2.out, HI2.out⟩
      case measure => simp [intOf]; omega
    · obtain rfl : k = n := by omega
      have hA : Ad w wr g gl w2.heap.size k a0 (-9223372036854775808) (fun _ => -9223372036854775808) := ⟨hI, ho.congr (fun j hj => if_pos hj), by omega, by omega, hw2, fun j _ => by unfold inR; omega⟩
      obtain ⟨gr, hgr⟩ : ∃ gr, w2.heap.size = gr := ⟨_, rfl⟩
      rw [hgr] at hA
      obtain ⟨n, hnk⟩ : ∃ n, n = k := ⟨k, rfl⟩
      rw [hgr]
      clear ho hI hgr hw2 hgl2 hg2
      subst hnk
      go_wp2
      go_loopg [10, 51] l2.length (fun q sg i wr => ∃ (k : Nat) (G : Int) (L : Nat → Int), k ≤ l2.length ∧ q = l2.length - k ∧ i = .int .i64 k ∧ sg = .int .i64 G ∧ Hid (inR G) ∧ Ad w wr g gl gr n a0 G L)
      case atStart => exact ⟨0, _, _, Nat.zero_le _, rfl, rfl, rfl, Lib.hid (by unfold inR; omega), hA⟩
      case round =>
        clear hA
        obtain ⟨k, G, L, hk2, hq, rfl, rfl, HG, hA⟩ := hrel
        have HQQ := Lib.hid hq
        clear hq
        by_cases hlt2 : k < l2.length
        · obtain ⟨b, off, rfl, hb', hc⟩ := (hl.below hA.al.new).at_ k hlt2
          have hxb := HQ.out _ (List.getElem_mem hlt2)
          generalize l2[k] = x at *
          obtain ⟨All, I, N, u⟩ := x
          have p0 := hc 0 (by decide)
          have p1 := hc 1 (by decide)
          have p2 := hc 2 (by decide)
          simp [actA] at p0 p1 p2
          obtain ⟨hIb, hNb⟩ := hxb
          simp only at hIb hNb
          have hT := At.alloc wr [.bool All, .int .i64 I, .int .i64 N] 49
          have hA1 := hA.alloc (.cells #[.bool All, .int .i64 I, .int .i64 N] 49)
          obtain ⟨hg, r0, y0, r1, y1, r2, y2⟩ := hT.three
          have HAT := Lib.hid hT
          have hlr := hA.lo.lt
          have hlg := hA.al.al.at_.1
          have hll := hA.al.al.ls.lt
          have HFT : Hid (¬ (wr.heap.size = g ∨ wr.heap.size = gl)) := Lib.hid (by omega)
          have HNE : Hid (gr ≠ wr.heap.size) := Lib.hid (by omega)
          clear hc hT y0 y1 y2 hA
          go_upto_if 56 with fail
          go_cut [10] (fun sg wx => ∃ (G : Int) (L : Nat → Int), sg = .int .i64 G ∧ Hid (inR G) ∧ Ad w wx g gl gr n a0 G L)
          case first =>
            cases All
            · by_cases hin : 0 ≤ I ∧ I < (n : Int)
              · obtain ⟨i, rfl⟩ : ∃ i : Nat, I = i := ⟨I.toNat, by omega⟩
                have hin : i < n := by omega
                have HC := Lib.hid (al_local g gl n a0 G L i N _ hA1.al.al hin)
                have HA1 := Lib.hid hA1
                clear hA1
                go_wp2_with (go_at_call 23; (with_reducible refine HC.out.mono ?_); rintro e w4 ⟨rfl, h4⟩; have hA5 := HA1.out.loc i hin N hNb h4; have hT4 := HAT.out.upd h4.2 HFT.out; obtain ⟨hg4, u0, z0, u1, z1, u2, z2⟩ := hT4.three; have ho4 := HA1.out.lo.upd h4.2 (fun e => by have := HA1.out.n1; have := HA1.out.n2; omega); have hl4 := ho4.lt; have c4 := ho4.cell i hin; have f4 := ho4.free i hin; rw [Nat.zero_add] at c4 f4; clear h4)
                go_meet
                exact ⟨G, _, rfl, HG, hA5⟩
              · have HIN := Lib.hid hin
                rcases (show I < 0 ∨ (n : Int) ≤ I by omega) with hI | hI
                · clear hin
                  have HC := Lib.hid (al_local_none g gl n a0 G L I N _ hA1.al.al HIN.out)
                  have HA1 := Lib.hid hA1
                  clear hA1
                  go_wp2_with (go_at_call 23; (with_reducible refine HC.out.mono ?_); rintro e w4 ⟨rfl, rfl⟩)
                  go_meet
                  exact ⟨G, L, rfl, HG, HA1.out⟩
                · have hI0 : (0 : Int) ≤ I := by omega
                  have hdn : decide (I < (n : Int)) = false := decide_eq_false (by omega)
                  clear hin
                  have HC := Lib.hid (al_local_none g gl n a0 G L I N _ hA1.al.al HIN.out)
                  have HA1 := Lib.hid hA1
                  clear hA1
                  go_wp2_with (go_at_call 23; (with_reducible refine HC.out.mono ?_); rintro e w4 ⟨rfl, rfl⟩)
                  go_meet
                  exact ⟨G, L, rfl, HG, HA1.out⟩
            · obtain ⟨i0, hi0, hz0, hz1, hz2⟩ := info_parts info_int
              have HAD := fun w' => Lib.hid (ref_add G a0 w' HG.out h0)
              have HAD2 := fun w' => Lib.hid (ref_add N a0 w' hNb h0)
              have HLM := fun w' (h : Ad w w' g gl gr n a0 G L) => Lib.hid (lim_c gr n n L (add G a0) w' h.lo h.bL (by omega))
              have HGL := fun w' (h : Ad w w' g gl gr n a0 G L) => Lib.hid (al_global g gl n a0 G N L w' h.al.al hNb)
              have hbl := btw_len L (add G a0) 9223372036854775807 n
              have hmem : Hid (∀ x ∈ btw L (add G a0) 9223372036854775807 n, ∃ j : Nat, x = j ∧ j < n) := Lib.hid (fun x hx => by obtain ⟨j, h1, h2, _⟩ := btw_mem _ _ _ _ _ hx; exact ⟨j, h1, h2⟩)
              have hflt : Hid ((btw L (add G a0) 9223372036854775807 n).filter (fun x => decide (L x.toNat ≤ add N a0)) = btw L (add G a0) (add N a0) n) := Lib.hid (btw_filter n (fun j hj => (hA1.bL j hj).2))
              have hbl2 := btw_len L (add G a0) (add N a0) n
              have HM2 : Hid (∀ {B : Nat} {w : World} {v : Value}, Sl B w 1 v (btw L (add G a0) (add N a0) n).length (iv (btw L (add G a0) (add N a0) n)) → ∃ ad c, v = .slice ad (btw L (add G a0) (add N a0) n).length c ∧ RowI w .i64 ad (btw L (add G a0) (add N a0) n)) := Lib.hid (fun h => btw_rowi h (by omega))
              have HA1 := Lib.hid hA1
              clear hA1
              generalize btw L (add G a0) 9223372036854775807 n = R1 at *
              generalize btw L (add G a0) (add N a0) n = R2 at *
              generalize add G a0 = M1 at *
              generalize add N a0 = M2 at *
              go_wp2_with (first | (go_at_call 20; (with_reducible refine (HAD _).out.mono ?_); rintro e w3 ⟨rfl, rfl⟩) | (go_at_call 19; (with_reducible refine (HLM _ HA1.out).out.mono ?_); intro e w4 h4; obtain ⟨ad, c, rfl, hr4, hb4⟩ := h4; have hA4 := HA1.out.on hb4; have hT4 := HAT.out.on hb4; obtain ⟨hg4, u0, z0, u1, z1, u2, z2⟩ := hT4.three; clear z0 z1 z2))
              clear HAD HLM r0 r1 r2 hg p0 p1 p2 hlr hlg hll
              have hsz4 := hA4.al.new.size
              go_loopg [14, 66] R1.length (fun q v i wr => ∃ k : Nat, k ≤ R1.length ∧ q = R1.length - k ∧ i = .int .i64 k ∧ Sl w4.heap.size wr 1 v ((R1.take k).filter (fun x => decide (L x.toNat ≤ M2))).length (iv ((R1.take k).filter (fun x => decide (L x.toNat ≤ M2)))) ∧ Below w4.heap.size w4 wr)
              case atStart => exact ⟨0, Nat.zero_le _, rfl, rfl, Sl.nil _ _ _, Below.refl _ _⟩
              case round =>
                obtain ⟨m, hm, hqm, rfl, hs, hb⟩ := hrel
                have HQM := Lib.hid hqm
                clear hqm
                have hA5 := hA4.on hb
                by_cases hltm : m < R1.length
                · obtain ⟨j, hj, hjn⟩ := hmem.out _ (List.getElem_mem hltm)
                  obtain ⟨rb, ro, rfl, hrb, hrc⟩ := (hr4.below hb).at_ m hltm
                  have hst := flt_step R1 (fun x => decide (L x.toNat ≤ M2)) m hltm
                  rw [hj] at hst hrc
                  have hln : ((R1.take m).filter (fun x => decide (L x.toNat ≤ M2))).length ≤ m := Nat.le_trans (List.length_filter_le _ _) (by rw [List.length_take]; omega)
                  have HST := Lib.hid hst
                  obtain ⟨cj, -⟩ := hA5.cell j hjn
                  have hlr5 := hA5.lo.lt
                  have hsz := hb.size
                  have HB5 : Hid (∀ q, Below w4.heap.size w4 (wr.drewN q)) := Lib.hid (fun q => hb.upd (S := fun _ => False) ((Upd.refl _ _).drewN q) hsz (fun _ _ h => h.elim))
                  clear hst hj hA5
                  generalize hRF : (R1.take m).filter (fun x => decide (L x.toNat ≤ M2)) = RF at *
                  clear hRF
                  by_cases hx : L j ≤ M2
                  · have hB2 : Hid ((R1.take (m + 1)).filter (fun x => decide (L x.toNat ≤ M2)) = RF ++ [(j : Int)]) := Lib.hid (by rw [HST.out, if_pos (by simpa using hx)])
                    generalize L j = y at *
                    go_wp2
                    go_quiet ((go_at_call 20; (with_reducible refine (HAD2 _).out.mono ?_); rintro e wq ⟨rfl, rfl⟩; exact ⟨rfl, _, rfl⟩))
                    have hm1 : RF.length + 1 ≤ maxLen := by unfold maxLen; omega
                    go_wp2_with (at_builtin; refine wpList_append_sl _ rfl (.tmp 78) (.tmp 80) 47 47 rfl 3 i0 (.int .i64 0) 8 Try.underlying47 hi0 hz0 hz1 hz2 rfl rfl ((hs.drewN _).alloc _) _ 1 [.int .i64 j] rfl (src_oneN Try.underlying47 _ (.int .i64 j) _ _ (by simp) rfl) hm1 (by omega) (by simp; omega) ?_; intro v1 w5 k1 k2 k3)
                    go_roundg (R1.length - (m + 1))
                    case measure => (have := HQM.out; omega)
                    case rel => exact ⟨m + 1, by omega, rfl, by go_num, by rw [hB2.out, List.length_append, iv_snoc]; exact k1, ((HB5.out _).alloc (by simp; omega) _).upd k2 (by simp; omega) (fun i _ h => (hs.lt i h).1)⟩
                  · have hB2 : Hid ((R1.take (m + 1)).filter (fun x => decide (L x.toNat ≤ M2)) = RF) := Lib.hid (by rw [HST.out, if_neg (by simpa using hx), List.append_nil])
                    have hx2 : M2 < L j := by omega
                    clear hx
                    generalize L j = y at *
                    go_wp2
                    go_quiet ((go_at_call 20; (with_reducible refine (HAD2 _).out.mono ?_); rintro e wq ⟨rfl, rfl⟩; exact ⟨rfl, _, rfl⟩))
                    go_wp2
                    go_roundg (R1.length - (m + 1))
                    case measure => (have := HQM.out; omega)
                    case rel => exact ⟨m + 1, by omega, rfl, by go_num, by rw [hB2.out]; exact hs.drewN _, HB5.out _⟩
                · obtain rfl : m = R1.length := by omega
                  rw [List.take_of_length_le (Nat.le_refl _), hflt.out] at hs
                  have hown := fun (b : Nat) hb => hs.lt b hb
                  obtain ⟨ad5, c5, rfl, hr5⟩ := HM2.out hs
                  have hown2 : Hid (∀ p, ad5 = some p → ¬ (p.block = g ∨ p.block = gl)) := Lib.hid (fun p hp => by
                    have h3 := (hown p.block (by simp [Value.ownBlock, hp])).1
                    have := hA4.al.al.at_.1
                    have := hA4.al.al.ls.lt
                    omega)
                  have hT5 := hT4.on hb
                  obtain ⟨hg5, v0, z0, v1, z1, v2, z2⟩ := hT5.three
                  have HA5 := Lib.hid hA5
                  have HSM := fun a1 c1 w' h1 h2 => Lib.hid (ref_sameI R2 a1 ad5 c1 c5 _ _ w' h1 h2 rfl rfl (by omega))
                  clear hown hs hA5 hA4 hT4 hT5 hi0 hz0 hz1 hz2
                  go_wp2_with (first | (go_at_call 22; (with_reducible refine (HGL _ HA5.out).out.mono ?_); intro e w6 h6; obtain ⟨ad6, c6, rfl, hr6, h6⟩ := h6; have hA6 := HA5.out.glob h6; have hr7 := hr5.upd h6.2 hown2.out) | (go_at_call 21; (with_reducible refine (HSM _ _ _ hr6 hr7).out.mono ?_); rintro e w7 ⟨rfl, hm7⟩; have hA7 := hA6.on (on_quiet hm7); clear hm7))
                  go_meet
                  exact ⟨N, L, rfl, Lib.hid hNb, hA7⟩
          case rest =>
            obtain ⟨G, L, rfl, HG, hA⟩ := hcut
            have HAD := fun w' => Lib.hid (ref_add G a0 w' HG.out h0)
            have HLM := fun w' (h : Ad w w' g gl gr n a0 G L) => Lib.hid (lim_c gr n n L (add G a0) w' h.lo h.bL (by omega))
            have HLI := fun w' (h : Ad w w' g gl gr n a0 G L) => Lib.hid (al_limit g gl n a0 G L w' h.al.al)
            have HHE := fun w' (h : Ad w w' g gl gr n a0 G L) => Lib.hid (al_held g gl n a0 G L w' h.al.al)
            have hbl := btw_len L (add G a0) 9223372036854775807 n
            have HPN := fun w' i (h : Ad w w' g gl gr n a0 G L) (hi : ¬ (0 ≤ i ∧ i < (n : Int))) => Lib.hid (al_paused_none g gl n a0 G L i w' h.al.al hi)
            have HPA := fun w' i (h : Ad w w' g gl gr n a0 G L) (hi : i < n) => Lib.hid (al_paused g gl n a0 G L i w' h.al.al hi)
            have HA := Lib.hid hA
            clear hA
            generalize btw L (add G a0) 9223372036854775807 n = R1 at *
            generalize add G a0 = M1 at *
            have HSM := fun a1 a2 c1 c2 w' h1 h2 => Lib.hid (ref_sameI R1 a1 a2 c1 c2 _ _ w' h1 h2 rfl rfl (by omega))
            have hMM : (M1 != M1) = false := by simp
            go_wp2_with (first | (go_at_call 20; (with_reducible refine (HAD _).out.mono ?_); rintro e w3 ⟨rfl, rfl⟩) | (go_at_call 19; (with_reducible refine (HLM _ HA.out).out.mono ?_); intro e w4 h4; obtain ⟨ad, c, rfl, hr4, hb4⟩ := h4; have hA4 := HA.out.on hb4))
            go_wp2_with (go_at_call 24; (with_reducible refine (HLI _ hA4).out.mono ?_); rintro e w5 ⟨rfl, hm5⟩; have hA5 := hA4.on (on_quiet hm5); have hr5 := hr4.below (on_quiet hm5); clear hm5)
            go_wp2_with (first | (go_at_call 20; (with_reducible refine (HAD _).out.mono ?_); rintro e w3 ⟨rfl, rfl⟩) | (go_at_call 25; (with_reducible refine (HHE _ hA5).out.mono ?_); intro e w6 h6; obtain ⟨ad6, c6, rfl, hr6, hb6⟩ := h6; have hA6 := hA5.on hb6; have hr5b := hr5.below hb6))
            go_wp2_with (go_at_call 21; (with_reducible refine (HSM _ _ _ _ _ hr6 hr5b).out.mono ?_); rintro e w7 ⟨rfl, hm7⟩; have hA7 := hA6.on (on_quiet hm7); clear hm7)
            go_wp2_with (go_at_call 26; (with_reducible refine (HPN _ (-1) hA7 (by omega)).out.mono ?_); rintro e w8 ⟨rfl, hm8⟩; have hA8 := hA7.on (on_quiet hm8); clear hm8)
            go_wp2_with (go_at_call 26; (with_reducible refine (HPN _ (n : Int) hA8 (by omega)).out.mono ?_); rintro e w9 ⟨rfl, hm9⟩; have hA9 := hA8.on (on_quiet hm9); clear hm9)
            clear hA4 hA5 hA6 hA7 hA8 hr4 hr5 hr5b hr6 HLM HHE HSM HPN HAD hb4 hb6 HA
            go_loopg [145] n (fun q i wr => ∃ j : Nat, j ≤ n ∧ q = n - j ∧ i = .int .i64 j ∧ Ad w wr g gl gr n a0 G L)
            case atStart => exact ⟨0, Nat.zero_le _, rfl, rfl, hA9⟩
            case round =>
              clear hA9
              obtain ⟨j, hj, hqj, rfl, hA⟩ := hrel
              have HQJ := Lib.hid hqj
              clear hqj
              by_cases hltj : j < n
              · obtain ⟨cj, -⟩ := hA.cell j hltj
                have hlr := hA.lo.lt
                have HA := Lib.hid hA
                have HP := fun w' (h : Ad w w' g gl gr n a0 G L) => HPA w' j h hltj
                clear hA HPA
                generalize L j = y at *
                by_cases hy : M1 < y
                · rw [decide_eq_true hy] at HP
                  go_wp2_with (first | (go_at_call 26; (with_reducible refine (HP _ HA.out).out.mono ?_); rintro e w5 ⟨rfl, hm5⟩; have hA5 := HA.out.on (on_quiet hm5); clear hm5) | (go_at_call 24; (with_reducible refine (HLI _ hA5).out.mono ?_); rintro e w6 ⟨rfl, hm6⟩; have hA6 := hA5.on (on_quiet hm6); clear hm6))
                  go_roundg (n - (j + 1))
                  case measure => (have := HQJ.out; omega)
                  case rel => exact ⟨j + 1, by omega, rfl, by go_num, hA6⟩
                · rw [decide_eq_false hy] at HP
                  have hy2 : y ≤ M1 := by omega
                  clear hy
                  go_wp2_with (first | (go_at_call 26; (with_reducible refine (HP _ HA.out).out.mono ?_); rintro e w5 ⟨rfl, hm5⟩; have hA5 := HA.out.on (on_quiet hm5); clear hm5) | (go_at_call 24; (with_reducible refine (HLI _ hA5).out.mono ?_); rintro e w6 ⟨rfl, hm6⟩; have hA6 := hA5.on (on_quiet hm6); clear hm6))
                  go_roundg (n - (j + 1))
                  case measure => (have := HQJ.out; omega)
                  case rel => exact ⟨j + 1, by omega, rfl, by go_num, hA6⟩
              · obtain rfl : j = n := by omega
                go_wp2
                go_roundg (l2.length - (k + 1))
                case measure => (have := HQQ.out; omega)
                case rel => exact ⟨k + 1, G, L, by omega, rfl, by go_num, rfl, HG, hA⟩
        · have hb9 := hA.al.new
          obtain rfl : k = l2.length := by omega
          go_wp2
          go_ret
          exact ⟨rfl, hb9⟩
end Go.Proofs.Ytcenodjifafdeaa
