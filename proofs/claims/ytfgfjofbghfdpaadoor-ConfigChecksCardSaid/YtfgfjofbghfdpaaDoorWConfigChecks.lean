/- The walk of the law ConfigChecks. -/
import Derived.Test.YtfgfjofbghfdpaaDoorSpeaks19
import Derived.Test.YtfgfjofbghfdpaaDoorCfgIn
namespace Go.Proofs.YtfgfjofbghfdpaaDoor
set_option maxRecDepth 4000
open Go.ChangeShapes Go.WideShapes Go.ChangeAt Go.RowKit
open PWord
set_option linter.unusedVariables false
set_option linter.unusedSimpArgs false

theorem make_rul (n : Nat) (hn : n ≤ 1000000) (w : World) : (Instr.makeSlice 22 (.int .i64 n) (.int .i64 n)).run Tryd.prog w = .ok (.slice (some ⟨w.heap.size, 0, none⟩) n n) (w.alloc (.cells (madeCells #[.int .i64 0, .int .i64 0, .int .i64 0, .int .i64 0, .int .i64 0] (n * 5)) 31)) := by
  obtain ⟨i0, hi, hz0, hz1, hz2⟩ := info_parts info_rul
  have h := run_make (P := Tryd.prog) w 22 31 i0 (.agg #[.int .i64 0, .int .i64 0, .int .i64 0, .int .i64 0, .int .i64 0]) Tryd.underlying22 hi hz0 .i64 .i64 n n (by omega) (by omega) (by rw [hz2]; omega) (by omega)
  rw [hz1, show (Value.agg #[.int .i64 0, .int .i64 0, .int .i64 0, .int .i64 0, .int .i64 0]).cells = #[.int .i64 0, .int .i64 0, .int .i64 0, .int .i64 0, .int .i64 0] from rfl] at h
  simpa using h
theorem zero_cells (n i : Nat) (h : i < n) : (madeCells #[.int .i64 0, .int .i64 0, .int .i64 0, .int .i64 0, .int .i64 0] n)[i]? = some (.int .i64 0) := by
  have hm : i % 5 < 5 := Nat.mod_lt _ (by omega)
  simp only [madeCells, Array.getElem?_map, Array.getElem?_range, h, if_true, Option.map_some]
  show some ((#[.int .i64 0, .int .i64 0, .int .i64 0, .int .i64 0, .int .i64 0] : Array Value)[i % 5]!) = _
  generalize i % 5 = j at hm
  match j, hm with
  | 0, _ => rfl
  | 1, _ => rfl
  | 2, _ => rfl
  | 3, _ => rfl
  | 4, _ => rfl
/-- Rules that are nothing but noughts. -/
theorem zero_rules (n : Nat) (w : World) : RowU (w.alloc (.cells (madeCells #[.int .i64 0, .int .i64 0, .int .i64 0, .int .i64 0, .int .i64 0] (n * 5)) 31)) (some ⟨w.heap.size, 0, none⟩) (List.replicate n zRul) := by
  refine ⟨fun i hi => ⟨w.heap.size, 0, rfl, by simp, fun j hj => ?_⟩⟩
  have hi' : i < n := by simpa using hi
  rw [cell_of_row _ w.heap.size _ _ _ (0, 0) (heap_alloc_new w _), zero_cells _ _ (by omega), List.getElem_replicate]
  match j, hj with
  | 0, _ => rfl
  | 1, _ => rfl
  | 2, _ => rfl
  | 3, _ => rfl
  | 4, _ => rfl
theorem firstErr_zero : ∀ n, firstErr (List.replicate n zRul) = 0
  | 0 => rfl
  | n + 1 => by
    rw [List.replicate_succ]
    show (if rcheck zRul ≠ 0 then rcheck zRul else firstErr (List.replicate n zRul)) = 0
    rw [firstErr_zero n]
    rfl

/-- The two sources of the law, where they lie. -/
structure Ck (w0 : World) (c : Cfg) (a : Option Addr) (n cap g q N m : Nat) (w : World) : Prop where
  box : At w g [.slice a n cap, .int .i64 c.timeout, .int .i64 c.drift]
  dox : At w q [.slice (some ⟨N, 0, none⟩) m m, .int .i64 1, .int .i64 0]
  row : RowU w a c.rules
  zer : RowU w (some ⟨N, 0, none⟩) (List.replicate m zRul)
  bel : Below w0.heap.size w0 w
theorem Ck.on {w0 : World} {c : Cfg} {a : Option Addr} {n cap g q N m : Nat} {w w' : World} (h : Ck w0 c a n cap g q N m w) (hb : Below w.heap.size w w') : Ck w0 c a n cap g q N m w' :=
  ⟨h.box.on hb, h.dox.on hb, h.row.below hb, h.zer.below hb, on_below h.bel hb⟩
theorem Ck.drew {w0 : World} {c : Cfg} {a : Option Addr} {n cap g q N m : Nat} {w : World} (h : Ck w0 c a n cap g q N m w) : Ck w0 c a n cap g q N m w.drew := h.on ⟨rfl, rfl, rfl, Nat.le_refl _, fun _ _ => rfl⟩
theorem Ck.facts {w0 : World} {c : Cfg} {a : Option Addr} {n cap g q N m : Nat} {w : World} (h : Ck w0 c a n cap g q N m w) :
    w.cell? ⟨g, 0, none⟩ = some (.slice a n cap) ∧ w.cell? ⟨g, 1, none⟩ = some (.int .i64 c.timeout) ∧ w.cell? ⟨g, 2, none⟩ = some (.int .i64 c.drift) ∧
      w.cell? ⟨q, 0, none⟩ = some (.slice (some ⟨N, 0, none⟩) m m) ∧ w.cell? ⟨q, 1, none⟩ = some (.int .i64 1) ∧ w.cell? ⟨q, 2, none⟩ = some (.int .i64 0) := by
  obtain ⟨_, c0, _, c1, _, c2, _⟩ := h.box.three
  obtain ⟨_, d0, _, d1, _, d2, _⟩ := h.dox.three
  exact ⟨c0, c1, c2, d0, d1, d2⟩

set_option maxRecDepth 100000 in
set_option maxHeartbeats 20000000 in
theorem walk_ConfigChecks (w : World) (he : EnvW w) (hnm : Names w) (c0 : Array Value) (d0 : ((List (Int × Int × Int × Int × Int × Unit)) × Int × Int × Unit)) (w0 : Rd w (.pair (.sl (.pair (.int .i64) (.pair (.int .i64) (.pair (.int .i64) (.pair (.int .i64) (.pair (.int .i64) .unit)))))) (.pair (.int .i64) (.pair (.int .i64) .unit))) c0.toList d0) (a1 : Int) (w1 : (Lit.int .u8 a1).wf = true) :
    Calls Tryd.prog 3 #[.agg c0, .int .u8 a1] w fun e w' => e = .returned (.bool true) ∧ Below w.heap.size w w' := by
  obtain ⟨a, n, cap, c, rfl, hf, hn, hnc, hcm, hr⟩ := Rd.cfg w0
  clear w0 hf hcm
  have hA := At.alloc w [.slice a n cap, .int .i64 c.timeout, .int .i64 c.drift] 24
  have hb0 : Below w.heap.size w (w.alloc (.cells #[.slice a n cap, .int .i64 c.timeout, .int .i64 c.drift] 24)) := (Below.refl _ _).alloc (Nat.le_refl _) _
  have HSP := Lib.hid (speaks19 _ (he.on hb0) (hnm.on hb0))
  have HA := Lib.hid hA
  have HB0 := Lib.hid hb0
  have HRO := Lib.hid hr
  by_cases hl : n ≤ 5000
  · have hl' : ¬ (5000 : Int) < n := by omega
    have hu8 : 0 ≤ a1 ∧ a1 ≤ 255 := by
      have h := w1
      simp [Lit.wf, IntKind.min, IntKind.max, IntKind.bits, IntKind.signed] at h
      omega
    obtain ⟨h1u, h2u⟩ := hu8
    obtain ⟨r, hr1⟩ : ∃ r : Nat, a1 % 12 = (r : Int) := ⟨(a1 % 12).toNat, by omega⟩
    have hr2 : a1.tmod 12 = (r : Int) := by rw [Int.tmod_eq_emod_of_nonneg h1u]; exact hr1
    obtain ⟨m, hm⟩ : ∃ m : Nat, 4090 + r = m := ⟨_, rfl⟩
    have hmI : 4090 + (r : Int) = (m : Int) := by omega
    have hm1 : 4090 ≤ m := by omega
    have hm2 : m ≤ 4101 := by omega
    have hmk := make_rul m (by omega)
    obtain ⟨z, hz⟩ : ∃ z, ccheck c.rules c.timeout c.drift = z := ⟨_, rfl⟩
    have HCA := Lib.hid (fun w (h : RowU w a c.rules) => cf_check c.rules c.timeout c.drift a n cap w h hn (by omega) z hz)
    have HCB := Lib.hid (fun w (h : RowU w a c.rules) => ref_check19 c.rules c.timeout c.drift a n cap w h hn (by omega) z hz)
    have hnd : n < 1000000 := by omega
    clear hz hm hA hb0 hr hn
    by_cases hbig : m ≤ 4096
    · have hbI : (m : Int) ≤ 4096 := by omega
      have HCC := Lib.hid (fun N w (h : RowU w (some ⟨N, 0, none⟩) (List.replicate m zRul)) => cf_check (List.replicate m zRul) 1 0 (some ⟨N, 0, none⟩) m m w h (by simp) (by omega) 0 (by unfold ccheck; rw [List.length_replicate, if_neg (by omega), if_neg (by omega)]; exact firstErr_zero m))
      go_enter Tryd.func3, Tryd.ntmps3
      go_wp2_with (first | (go_at_call 11; refine HSP.out.mono ?_; rintro e w2 ⟨rfl, hb2⟩; have hA2 := HA.out.on hb2; obtain ⟨hg, e0, y0, e1, y1, e2, y2⟩ := hA2.three))
      have hK : Ck ((w2.alloc (.cells (madeCells #[.int .i64 0, .int .i64 0, .int .i64 0, .int .i64 0, .int .i64 0] (m * 5)) 31)).alloc (.cells #[.slice (some ⟨w2.heap.size, 0, none⟩) m m, .int .i64 1, .int .i64 0] 24)) c a n cap w.heap.size (w2.heap.size + 1) w2.heap.size m ((w2.alloc (.cells (madeCells #[.int .i64 0, .int .i64 0, .int .i64 0, .int .i64 0, .int .i64 0] (m * 5)) 31)).alloc (.cells #[.slice (some ⟨w2.heap.size, 0, none⟩) m m, .int .i64 1, .int .i64 0] 24)) := by
        have hbW : Below w2.heap.size w2 ((w2.alloc (.cells (madeCells #[.int .i64 0, .int .i64 0, .int .i64 0, .int .i64 0, .int .i64 0] (m * 5)) 31)).alloc (.cells #[.slice (some ⟨w2.heap.size, 0, none⟩) m m, .int .i64 1, .int .i64 0] 24)) := ((Below.refl _ _).alloc (Nat.le_refl _) _).alloc (by simp) _
        have hD := At.alloc (w2.alloc (.cells (madeCells #[.int .i64 0, .int .i64 0, .int .i64 0, .int .i64 0, .int .i64 0] (m * 5)) 31)) [.slice (some ⟨w2.heap.size, 0, none⟩) m m, .int .i64 1, .int .i64 0] 24
        rw [show (w2.alloc (.cells (madeCells #[.int .i64 0, .int .i64 0, .int .i64 0, .int .i64 0, .int .i64 0] (m * 5)) 31)).heap.size = w2.heap.size + 1 by simp] at hD
        exact ⟨hA2.on hbW, hD, ((HRO.out.below HB0.out).below hb2).below hbW, (zero_rules m w2).below ((Below.refl _ _).alloc (Nat.le_refl _) _), Below.refl _ _⟩
      have hbT : Below w.heap.size w ((w2.alloc (.cells (madeCells #[.int .i64 0, .int .i64 0, .int .i64 0, .int .i64 0, .int .i64 0] (m * 5)) 31)).alloc (.cells #[.slice (some ⟨w2.heap.size, 0, none⟩) m m, .int .i64 1, .int .i64 0] 24)) := (on_below HB0.out hb2).trans ((((Below.refl _ _).alloc (Nat.le_refl _) _).alloc (by simp) _).mono (on_below HB0.out hb2).size)
      clear hA2 e0 e1 e2 y0 y1 y2 hmk
      generalize hN : w2.heap.size = N at *
      generalize (w2.alloc (.cells (madeCells #[.int .i64 0, .int .i64 0, .int .i64 0, .int .i64 0, .int .i64 0] (m * 5)) 31)).alloc (.cells #[.slice (some ⟨N, 0, none⟩) m m, .int .i64 1, .int .i64 0] 24) = w3 at *
      obtain ⟨f0, f1, f2, f3, f4, f5⟩ := hK.facts
      go_cut [4] (fun v wx => v = .bool true ∧ Below w3.heap.size w3 wx)
      case first =>
        go_region_with (first | (go_at_call 12; first | ((with_reducible refine (HCA.out _ (by first | exact hK.row | exact hK.drew.row | exact kB.row | exact kB.drew.row | exact hK.drew.drew.row | exact kB.drew.drew.row)).mono ?_); rintro e wa ⟨rfl, hba⟩; have kA : Ck w3 c a n cap w.heap.size (N + 1) N m wa := (by first | exact hK.on hba | exact hK.drew.on hba | exact kB.on hba | exact kB.drew.on hba | exact hK.drew.drew.on hba | exact kB.drew.drew.on hba); obtain ⟨p0, p1, p2, p3, p4, p5⟩ := kA.facts) | ((with_reducible refine (HCC.out _ _ (by first | exact kA.zer | exact kA.drew.zer | exact kB.zer | exact kB.drew.zer | exact kA.drew.drew.zer | exact kB.drew.drew.zer)).mono ?_); rintro e wc ⟨rfl, hbc⟩; have kC : Ck w3 c a n cap w.heap.size (N + 1) N m wc := (by first | exact kA.on hbc | exact kA.drew.on hbc | exact kB.on hbc | exact kB.drew.on hbc | exact kA.drew.drew.on hbc | exact kB.drew.drew.on hbc); obtain ⟨q0, q1, q2, q3, q4, q5⟩ := kC.facts)) | (go_at_call 13; ((with_reducible refine (HCB.out _ (by first | exact hK.row | exact hK.drew.row | exact kA.row | exact kA.drew.row | exact hK.drew.drew.row | exact kA.drew.drew.row)).mono ?_); rintro e wb ⟨rfl, hbb⟩; have kB : Ck w3 c a n cap w.heap.size (N + 1) N m wb := (by first | exact hK.on hbb | exact hK.drew.on hbb | exact kA.on hbb | exact kA.drew.on hbb | exact hK.drew.drew.on hbb | exact kA.drew.drew.on hbb); obtain ⟨r0, r1, r2, r3, r4, r5⟩ := kB.facts)))
        all_goals (go_wp2_with fail; go_meet; exact ⟨by simp, by first | exact kC.bel | exact kC.drew.bel⟩)
      case rest =>
        obtain ⟨rfl, hb9⟩ := hcut
        go_wp2
        go_ret
        exact ⟨rfl, on_below hbT hb9⟩
    · have hbI : ¬ (m : Int) ≤ 4096 := by omega
      have hdec : decide ((m : Int) ≤ 4096) = false := by simp; omega
      have HCC := Lib.hid (fun N w (h : RowU w (some ⟨N, 0, none⟩) (List.replicate m zRul)) => cf_check (List.replicate m zRul) 1 0 (some ⟨N, 0, none⟩) m m w h (by simp) (by omega) 6 (by unfold ccheck; rw [List.length_replicate, if_pos (by omega)]))
      go_enter Tryd.func3, Tryd.ntmps3
      go_wp2_with (first | (go_at_call 11; refine HSP.out.mono ?_; rintro e w2 ⟨rfl, hb2⟩; have hA2 := HA.out.on hb2; obtain ⟨hg, e0, y0, e1, y1, e2, y2⟩ := hA2.three))
      have hK : Ck ((w2.alloc (.cells (madeCells #[.int .i64 0, .int .i64 0, .int .i64 0, .int .i64 0, .int .i64 0] (m * 5)) 31)).alloc (.cells #[.slice (some ⟨w2.heap.size, 0, none⟩) m m, .int .i64 1, .int .i64 0] 24)) c a n cap w.heap.size (w2.heap.size + 1) w2.heap.size m ((w2.alloc (.cells (madeCells #[.int .i64 0, .int .i64 0, .int .i64 0, .int .i64 0, .int .i64 0] (m * 5)) 31)).alloc (.cells #[.slice (some ⟨w2.heap.size, 0, none⟩) m m, .int .i64 1, .int .i64 0] 24)) := by
        have hbW : Below w2.heap.size w2 ((w2.alloc (.cells (madeCells #[.int .i64 0, .int .i64 0, .int .i64 0, .int .i64 0, .int .i64 0] (m * 5)) 31)).alloc (.cells #[.slice (some ⟨w2.heap.size, 0, none⟩) m m, .int .i64 1, .int .i64 0] 24)) := ((Below.refl _ _).alloc (Nat.le_refl _) _).alloc (by simp) _
        have hD := At.alloc (w2.alloc (.cells (madeCells #[.int .i64 0, .int .i64 0, .int .i64 0, .int .i64 0, .int .i64 0] (m * 5)) 31)) [.slice (some ⟨w2.heap.size, 0, none⟩) m m, .int .i64 1, .int .i64 0] 24
        rw [show (w2.alloc (.cells (madeCells #[.int .i64 0, .int .i64 0, .int .i64 0, .int .i64 0, .int .i64 0] (m * 5)) 31)).heap.size = w2.heap.size + 1 by simp] at hD
        exact ⟨hA2.on hbW, hD, ((HRO.out.below HB0.out).below hb2).below hbW, (zero_rules m w2).below ((Below.refl _ _).alloc (Nat.le_refl _) _), Below.refl _ _⟩
      have hbT : Below w.heap.size w ((w2.alloc (.cells (madeCells #[.int .i64 0, .int .i64 0, .int .i64 0, .int .i64 0, .int .i64 0] (m * 5)) 31)).alloc (.cells #[.slice (some ⟨w2.heap.size, 0, none⟩) m m, .int .i64 1, .int .i64 0] 24)) := (on_below HB0.out hb2).trans ((((Below.refl _ _).alloc (Nat.le_refl _) _).alloc (by simp) _).mono (on_below HB0.out hb2).size)
      clear hA2 e0 e1 e2 y0 y1 y2 hmk
      generalize hN : w2.heap.size = N at *
      generalize (w2.alloc (.cells (madeCells #[.int .i64 0, .int .i64 0, .int .i64 0, .int .i64 0, .int .i64 0] (m * 5)) 31)).alloc (.cells #[.slice (some ⟨N, 0, none⟩) m m, .int .i64 1, .int .i64 0] 24) = w3 at *
      obtain ⟨f0, f1, f2, f3, f4, f5⟩ := hK.facts
      go_cut [4] (fun v wx => v = .bool true ∧ Below w3.heap.size w3 wx)
      case first =>
        go_region_with (first | (go_at_call 12; first | ((with_reducible refine (HCA.out _ (by first | exact hK.row | exact hK.drew.row | exact kB.row | exact kB.drew.row | exact hK.drew.drew.row | exact kB.drew.drew.row)).mono ?_); rintro e wa ⟨rfl, hba⟩; have kA : Ck w3 c a n cap w.heap.size (N + 1) N m wa := (by first | exact hK.on hba | exact hK.drew.on hba | exact kB.on hba | exact kB.drew.on hba | exact hK.drew.drew.on hba | exact kB.drew.drew.on hba); obtain ⟨p0, p1, p2, p3, p4, p5⟩ := kA.facts) | ((with_reducible refine (HCC.out _ _ (by first | exact kA.zer | exact kA.drew.zer | exact kB.zer | exact kB.drew.zer | exact kA.drew.drew.zer | exact kB.drew.drew.zer)).mono ?_); rintro e wc ⟨rfl, hbc⟩; have kC : Ck w3 c a n cap w.heap.size (N + 1) N m wc := (by first | exact kA.on hbc | exact kA.drew.on hbc | exact kB.on hbc | exact kB.drew.on hbc | exact kA.drew.drew.on hbc | exact kB.drew.drew.on hbc); obtain ⟨q0, q1, q2, q3, q4, q5⟩ := kC.facts) | ((with_reducible refine (HCC.out _ _ (by first | exact kC.zer | exact kC.drew.zer | exact kC.zer | exact kC.drew.zer | exact kC.drew.drew.zer | exact kC.drew.drew.zer)).mono ?_); rintro e wd ⟨rfl, hbd⟩; have kD : Ck w3 c a n cap w.heap.size (N + 1) N m wd := (by first | exact kC.on hbd | exact kC.drew.on hbd | exact kC.on hbd | exact kC.drew.on hbd | exact kC.drew.drew.on hbd | exact kC.drew.drew.on hbd); obtain ⟨t0, t1, t2, t3, t4, t5⟩ := kD.facts)) | (go_at_call 13; ((with_reducible refine (HCB.out _ (by first | exact hK.row | exact hK.drew.row | exact kA.row | exact kA.drew.row | exact hK.drew.drew.row | exact kA.drew.drew.row)).mono ?_); rintro e wb ⟨rfl, hbb⟩; have kB : Ck w3 c a n cap w.heap.size (N + 1) N m wb := (by first | exact hK.on hbb | exact hK.drew.on hbb | exact kA.on hbb | exact kA.drew.on hbb | exact hK.drew.drew.on hbb | exact kA.drew.drew.on hbb); obtain ⟨r0, r1, r2, r3, r4, r5⟩ := kB.facts)))
        all_goals (go_wp2_with fail; go_meet; exact ⟨by simp, by first | exact kD.bel | exact kD.drew.bel⟩)
      case rest =>
        obtain ⟨rfl, hb9⟩ := hcut
        go_wp2
        go_ret
        exact ⟨rfl, on_below hbT hb9⟩
  · have hl' : (5000 : Int) < n := by omega
    clear hA hb0 hr hn
    go_enter Tryd.func3, Tryd.ntmps3
    go_wp2_with (first | (go_at_call 11; refine HSP.out.mono ?_; rintro e w2 ⟨rfl, hb2⟩; have hA2 := HA.out.on hb2; obtain ⟨hg, e0, y0, e1, y1, e2, y2⟩ := hA2.three))
    go_ret
    exact ⟨rfl, on_below HB0.out hb2⟩
end Go.Proofs.YtfgfjofbghfdpaaDoor
