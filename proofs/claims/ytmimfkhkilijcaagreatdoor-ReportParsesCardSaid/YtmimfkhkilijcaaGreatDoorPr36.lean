/- KConfC: what is reached of them. -/
import Derived.Deep.RegionHeld3
import Derived.Test.YtmimfkhkilijcaaGreatDoorPr09
import Derived.Test.YtmimfkhkilijcaaGreatDoorPr12
import Derived.Test.YtmimfkhkilijcaaGreatDoorPr17
import Derived.Test.YtmimfkhkilijcaaGreatDoorPr33
namespace Go.Proofs.YtmimfkhkilijcaaGreatDoor
set_option maxRecDepth 4000
open Go.ChangeShapes Go.WideShapes Go.ChangeAt Go.RowKit
open PWord
open Go.Lib (itoa)
set_option linter.unusedVariables false
set_option linter.unusedSimpArgs false

theorem info_str : (Tryz.prog.info? 9).map (fun i => (i.zero, i.size, i.bytes)) = some (some (.string ByteArray.empty), 1, 16) := by kernel_rfl

/-- The words of a line. -/
def wordsB (name : List UInt8) (ns : List Int) : List ByteArray := bstr name :: ns.map fun n => bstr (itoa n)
theorem wordsB_len (name : List UInt8) (ns : List Int) : (wordsB name ns).length = ns.length + 1 := by simp [wordsB]
theorem wordsB_snoc (name : List UInt8) (ns : List Int) (n : Int) : wordsB name (ns ++ [n]) = wordsB name ns ++ [bstr (itoa n)] := by simp [wordsB]
theorem wordsB_glue (name : List UInt8) (ns : List Int) : glue 32 ((wordsB name ns).map (·.data.toList)) = lineOf name ns := by
  simp only [wordsB, List.map_cons, List.map_map]
  rfl

set_option maxRecDepth 100000 in
set_option maxHeartbeats 1000000 in
theorem cf_line (name : List UInt8) (ns : List Int) (a : Option Addr) (n c : Nat) (w : World) (he : EnvW w) (hr : RowI w .i64 a ns) (hn : n = ns.length) (hl : n ≤ 3) (hna : name.length ≤ 21) :
    Calls Tryz.prog 80 #[.string (bstr name), .slice a n c] w fun e w' => e = .returned (.string (bstr (lineOf name ns ++ [10]))) ∧ Below w.heap.size w w' := by
  have hb64 : ∀ x ∈ ns, in64 x := fun x hx => bounds_i64 (hr.wf x hx)
  have hll := lineOf_len name ns hna hb64
  have hcat := fun w => tx_run w (lineOf name ns) [10] (by simp only [List.length_cons, List.length_nil]; omega)
  have hwg := wordsB_glue name ns
  have HLL : Hid ((lineOf name ns).length ≤ 1000) := Lib.hid (by rw [← hn] at hll; omega)
  have HB := Lib.hid hb64
  have HN := Lib.hid hn
  have HWG := Lib.hid hwg
  clear hll hb64 hn hwg
  obtain ⟨i0, hi, hz0, hz1, hz2⟩ := info_parts info_str
  have hs0 := Sl.made (B := w.heap.size) w #[.string (bstr name)] 9 1 1 1 (Nat.le_refl _) (Nat.le_refl _) (by decide) (by simp)
  have hb0 : Below w.heap.size w (w.alloc (.cells #[.string (bstr name)] 9)) := (Below.refl _ _).alloc (Nat.le_refl _) _
  generalize lineOf name ns = L at *
  go_enter Tryz.func80, Tryz.ntmps80
  go_wp2
  go_loopw [5, 12] (fun v i wr => ∃ (k : Nat) (av : Option Addr) (cv : Nat), i = .int .i64 k ∧ k ≤ n ∧ v = .slice av (k + 1) cv ∧ Sl w.heap.size wr 1 (.slice av (k + 1) cv) (k + 1) (sv (wordsB name (ns.take k))) ∧ Below w.heap.size w wr) (fun _ i _ => n - (intOf i).toNat)
  case atStart => exact ⟨0, _, _, rfl, Nat.zero_le _, rfl, hs0, hb0⟩
  case round =>
    clear hs0 hb0
    obtain ⟨k, av, cv, rfl, hk, rfl, hsl, hb⟩ := hrel
    have hri := hr.below hb
    by_cases hlt : k < n
    · have hk1 : k < ns.length := by rw [← HN.out]; exact hlt
      obtain ⟨b, off, rfl, hbl, q0⟩ := hri.at_ k hk1
      have HT : Hid (ns.take (k + 1) = ns.take k ++ [ns[k]]) := List.take_succ_eq_append_getElem hk1
      have hx := HB.out _ (List.getElem_mem hk1)
      have HI := Lib.hid (li_itoa _ hx wr (he.on hb))
      clear hri
      generalize hxk : ns[k] = x at *
      clear hxk hk1 hx
      have hm1 : k + 1 + 1 ≤ maxLen := by unfold maxLen; omega
      have hwB := hb.size
      go_wp2_with (first | (go_at_call 84; refine HI.out.mono ?_; rintro e w2 ⟨rfl, hb2⟩; have hs2 := (hsl.onW hb2).alloc (.cells #[.string (bstr (itoa x))] 9); have hw2 : w.heap.size ≤ w2.heap.size := Nat.le_trans hwB hb2.size) | (at_builtin; refine wpList_append_sl _ rfl (.tmp 16) (.tmp 19) 25 25 rfl 9 i0 _ 16 Tryz.underlying25 hi hz0 hz1 hz2 rfl rfl hs2 _ 1 [.string (bstr (itoa x))] rfl (src_oneN Tryz.underlying25 _ (.string (bstr (itoa x))) _ _ (by simp) rfl) hm1 (by omega) (by simp; omega) ?_; intro v1 w3 k1 k2 k3; obtain ⟨av1, cv1, rfl⟩ := k1.shape))
      go_roundw
      case rel => exact ⟨k + 1, _, _, by go_num, by omega, rfl, (by rw [HT.out, wordsB_snoc, sv_snoc]; exact k1), ((on_below hb hb2).alloc (by omega) _).upd k2 (by simp; omega) (fun i _ hi => by have := (hsl.lt i hi).1; omega)⟩
      case measure => simp [intOf]; omega
    · obtain rfl : k = n := by omega
      rw [List.take_of_length_le (by rw [← HN.out]; exact Nat.le_refl _)] at hsl
      obtain ⟨hln, a2, c2, hv, hc2, hrow⟩ := rows_of_sl hsl
      have hwl := wordsB_len name ns
      rw [← HN.out] at hwl
      rw [hwl] at hc2
      have hv2 : Value.slice av (k + 1) cv = .slice a2 (k + 1) c2 := by rw [hv, hwl]
      cases hv2
      obtain ⟨g, off, rfl, hgl⟩ := hrow.lt (by rw [hwl]; omega)
      have hj := li_join g off cv _ wr hrow (by omega) (by omega) (by omega) (by rw [HWG.out]; have := HLL.out; omega)
      rw [hwl, HWG.out] at hj
      have HJ := Lib.hid hj
      clear hj hv hwl hln
      go_wp2_with (go_at_call 18; refine HJ.out.mono ?_; rintro e w4 ⟨rfl, hb4⟩)
      go_ret
      exact ⟨rfl, on_below hb hb4⟩
end Go.Proofs.YtmimfkhkilijcaaGreatDoor

/- config: a rule in words. -/
namespace Go.Proofs.YtmimfkhkilijcaaGreatDoor
set_option maxRecDepth 4000
open Go.ChangeShapes Go.WideShapes Go.ChangeAt Go.RowKit
open PWord
open Go.Lib (itoa)
set_option linter.unusedVariables false
set_option linter.unusedSimpArgs false

theorem line_one (name : List UInt8) (x : Int) (hx : in64 x) (hna : name.length ≤ 21) (N : Nat) (w : World) (he : EnvW w) (hc : w.cell? ⟨N, 0, none⟩ = some (.int .i64 x)) :
    Calls Tryz.prog 80 #[.string (bstr name), .slice (some ⟨N, 0, none⟩) 1 1] w fun e w' => e = .returned (.string (bstr (lineOf name [x] ++ [10]))) ∧ Below w.heap.size w w' := by
  refine cf_line name [x] (some ⟨N, 0, none⟩) 1 1 w he ⟨by unfold maxLen; simp, fun i hi => ⟨N, 0, rfl, cell_lt hc, ?_⟩, fun y hy => ?_⟩ rfl (by omega) hna
  · obtain rfl : i = 0 := by simpa using hi
    exact hc
  · simp at hy; subst hy; obtain ⟨h0, h1⟩ := hx; simp [Lit.wf, IntKind.min, IntKind.max, IntKind.bits, IntKind.signed]; omega
theorem line_two (name : List UInt8) (x y : Int) (hx : in64 x) (hy : in64 y) (hna : name.length ≤ 21) (N : Nat) (w : World) (he : EnvW w) (hc : w.cell? ⟨N, 0, none⟩ = some (.int .i64 x)) (hd : w.cell? ⟨N, 1, none⟩ = some (.int .i64 y)) :
    Calls Tryz.prog 80 #[.string (bstr name), .slice (some ⟨N, 0, none⟩) 2 2] w fun e w' => e = .returned (.string (bstr (lineOf name [x, y] ++ [10]))) ∧ Below w.heap.size w w' := by
  refine cf_line name [x, y] (some ⟨N, 0, none⟩) 2 2 w he ⟨by unfold maxLen; simp, fun i hi => ⟨N, 0, rfl, cell_lt hc, ?_⟩, fun z hz => ?_⟩ rfl (by omega) hna
  · match i, hi with
    | 0, _ => exact hc
    | 1, _ => exact hd
  · obtain ⟨h0, h1⟩ := hx
    obtain ⟨h2, h3⟩ := hy
    simp at hz
    rcases hz with rfl | rfl <;> (simp [Lit.wf, IntKind.min, IntKind.max, IntKind.bits, IntKind.signed]; omega)

theorem EnvW.drew {w : World} (h : EnvW w) : EnvW w.drew := h.on ⟨rfl, rfl, rfl, Nat.le_refl _, fun _ _ => rfl⟩
theorem EnvW.alloc {w : World} (h : EnvW w) (o : Obj) : EnvW (w.alloc o) := h.on ((Below.refl _ _).alloc (Nat.le_refl _) _)
theorem rule0 (r : Rul) (h : r.kind = 0) : rule r = lineOf tBounded [r.bound] ++ [10] := by unfold rule rline; rw [if_pos h]; rfl
theorem rule1 (r : Rul) (h : r.kind = 1) : rule r = lineOf tMarked [r.sign] ++ [10] := by unfold rule rline; rw [if_neg (by omega), if_pos h]; rfl
theorem rule2 (r : Rul) (h : r.kind = 2) : rule r = lineOf tPercent [r.pct, r.win] ++ [10] := by unfold rule rline; rw [if_neg (by omega), if_neg (by omega), if_pos h]; rfl
theorem rule3 (r : Rul) (h0 : r.kind ≠ 0) (h1 : r.kind ≠ 1) (h2 : r.kind ≠ 2) : rule r = [] := by unfold rule rline; rw [if_neg h0, if_neg h1, if_neg h2]

set_option maxRecDepth 100000 in
set_option maxHeartbeats 6000000 in
theorem cf_rule0 (b p n s : Int) (f1 : in64 b) (f2 : in64 p) (f3 : in64 n) (f4 : in64 s) (w : World) (he : EnvW w) (hn : Names w) :
    Calls Tryz.prog 81 #[.agg #[.int .i64 0, .int .i64 b, .int .i64 p, .int .i64 n, .int .i64 s]] w fun e w' => e = .returned (.string (bstr (lineOf tBounded [b] ++ [10]))) ∧ Below w.heap.size w w' := by
  have hA := At.alloc w [.int .i64 0, .int .i64 b, .int .i64 p, .int .i64 n, .int .i64 s] 59
  have hb0 : Below w.heap.size w (w.alloc (.cells #[.int .i64 0, .int .i64 b, .int .i64 p, .int .i64 n, .int .i64 s] 59)) := (Below.refl _ _).alloc (Nat.le_refl _) _
  have hn0 := hn.on hb0
  have he0 := he.on hb0
  obtain ⟨hg, c0, z0, c1, z1, c2, z2, c3, z3, c4, z4⟩ := hA.five
  clear hA z0 z1 z2 z3 z4 he hn
  have HL := Lib.hid (fun N w => line_one tBounded b f1 (by decide) N w)
  clear f1 f2 f3 f4
  go_enter Tryz.func81, Tryz.ntmps81
  go_wp2
  generalize w.alloc (.cells #[.int .i64 0, .int .i64 b, .int .i64 p, .int .i64 n, .int .i64 s] 59) = w1 at *
  have hG := hn0.lt
  obtain ⟨n0, n1, n2⟩ := hn0
  have HE := Lib.hid (he0.alloc (.cells #[.int .i64 b] 3))
  have HC := Lib.hid (At.alloc w1 [.int .i64 b] 3).one.2.1
  have HB : Hid (Below w1.heap.size w1 (w1.alloc (.cells #[.int .i64 b] 3))) := Lib.hid ((Below.refl _ _).alloc (Nat.le_refl _) _)
  go_cut [2] (fun v wx => v = .string (bstr (lineOf tBounded [b] ++ [10])) ∧ Below w1.heap.size w1 wx)
  case first =>
    go_region_with (first | (go_at_call 80; refine (HL.out _ _ (by first | exact HE.out | exact HE.out.drew) (by exact HC.out)).mono ?_; rintro e wq ⟨rfl, hbq⟩))
    all_goals (go_wp2_with fail; go_meet; exact ⟨rfl, by first | exact on_below HB.out.drew hbq | exact on_below HB.out hbq⟩)
  case rest =>
    obtain ⟨rfl, hb2⟩ := hcut
    go_wp2
    go_ret
    exact ⟨rfl, on_below hb0 hb2⟩

set_option maxRecDepth 100000 in
set_option maxHeartbeats 6000000 in
theorem cf_rule1 (b p n s : Int) (f1 : in64 b) (f2 : in64 p) (f3 : in64 n) (f4 : in64 s) (w : World) (he : EnvW w) (hn : Names w) :
    Calls Tryz.prog 81 #[.agg #[.int .i64 1, .int .i64 b, .int .i64 p, .int .i64 n, .int .i64 s]] w fun e w' => e = .returned (.string (bstr (lineOf tMarked [s] ++ [10]))) ∧ Below w.heap.size w w' := by
  have hA := At.alloc w [.int .i64 1, .int .i64 b, .int .i64 p, .int .i64 n, .int .i64 s] 59
  have hb0 : Below w.heap.size w (w.alloc (.cells #[.int .i64 1, .int .i64 b, .int .i64 p, .int .i64 n, .int .i64 s] 59)) := (Below.refl _ _).alloc (Nat.le_refl _) _
  have hn0 := hn.on hb0
  have he0 := he.on hb0
  obtain ⟨hg, c0, z0, c1, z1, c2, z2, c3, z3, c4, z4⟩ := hA.five
  clear hA z0 z1 z2 z3 z4 he hn
  have HL := Lib.hid (fun N w => line_one tMarked s f4 (by decide) N w)
  clear f1 f2 f3 f4
  go_enter Tryz.func81, Tryz.ntmps81
  go_wp2
  generalize w.alloc (.cells #[.int .i64 1, .int .i64 b, .int .i64 p, .int .i64 n, .int .i64 s] 59) = w1 at *
  have hG := hn0.lt
  obtain ⟨n0, n1, n2⟩ := hn0
  have HE := Lib.hid (he0.alloc (.cells #[.int .i64 s] 3))
  have HC := Lib.hid (At.alloc w1 [.int .i64 s] 3).one.2.1
  have HB : Hid (Below w1.heap.size w1 (w1.alloc (.cells #[.int .i64 s] 3))) := Lib.hid ((Below.refl _ _).alloc (Nat.le_refl _) _)
  go_cut [2] (fun v wx => v = .string (bstr (lineOf tMarked [s] ++ [10])) ∧ Below w1.heap.size w1 wx)
  case first =>
    go_region_with (first | (go_at_call 80; refine (HL.out _ _ (by first | exact HE.out | exact HE.out.drew) (by exact HC.out)).mono ?_; rintro e wq ⟨rfl, hbq⟩))
    all_goals (go_wp2_with fail; go_meet; exact ⟨rfl, by first | exact on_below HB.out.drew hbq | exact on_below HB.out hbq⟩)
  case rest =>
    obtain ⟨rfl, hb2⟩ := hcut
    go_wp2
    go_ret
    exact ⟨rfl, on_below hb0 hb2⟩

set_option maxRecDepth 100000 in
set_option maxHeartbeats 6000000 in
theorem cf_rule2 (b p n s : Int) (f1 : in64 b) (f2 : in64 p) (f3 : in64 n) (f4 : in64 s) (w : World) (he : EnvW w) (hn : Names w) :
    Calls Tryz.prog 81 #[.agg #[.int .i64 2, .int .i64 b, .int .i64 p, .int .i64 n, .int .i64 s]] w fun e w' => e = .returned (.string (bstr (lineOf tPercent [p, n] ++ [10]))) ∧ Below w.heap.size w w' := by
  have hA := At.alloc w [.int .i64 2, .int .i64 b, .int .i64 p, .int .i64 n, .int .i64 s] 59
  have hb0 : Below w.heap.size w (w.alloc (.cells #[.int .i64 2, .int .i64 b, .int .i64 p, .int .i64 n, .int .i64 s] 59)) := (Below.refl _ _).alloc (Nat.le_refl _) _
  have hn0 := hn.on hb0
  have he0 := he.on hb0
  obtain ⟨hg, c0, z0, c1, z1, c2, z2, c3, z3, c4, z4⟩ := hA.five
  clear hA z0 z1 z2 z3 z4 he hn
  have HL := Lib.hid (fun N w => line_two tPercent p n f2 f3 (by decide) N w)
  clear f1 f2 f3 f4
  go_enter Tryz.func81, Tryz.ntmps81
  go_wp2
  generalize w.alloc (.cells #[.int .i64 2, .int .i64 b, .int .i64 p, .int .i64 n, .int .i64 s] 59) = w1 at *
  have hG := hn0.lt
  obtain ⟨n0, n1, n2⟩ := hn0
  have HE := Lib.hid (he0.alloc (.cells #[.int .i64 p, .int .i64 n] 3))
  have HC := Lib.hid (At.alloc w1 [.int .i64 p, .int .i64 n] 3).two
  have HB : Hid (Below w1.heap.size w1 (w1.alloc (.cells #[.int .i64 p, .int .i64 n] 3))) := Lib.hid ((Below.refl _ _).alloc (Nat.le_refl _) _)
  go_cut [2] (fun v wx => v = .string (bstr (lineOf tPercent [p, n] ++ [10])) ∧ Below w1.heap.size w1 wx)
  case first =>
    go_region_with (first | (go_at_call 80; refine (HL.out _ _ (by first | exact HE.out | exact HE.out.drew) (by exact HC.out.2.1) (by exact HC.out.2.2.2.1)).mono ?_; rintro e wq ⟨rfl, hbq⟩))
    all_goals (go_wp2_with fail; go_meet; exact ⟨rfl, by first | exact on_below HB.out.drew hbq | exact on_below HB.out hbq⟩)
  case rest =>
    obtain ⟨rfl, hb2⟩ := hcut
    go_wp2
    go_ret
    exact ⟨rfl, on_below hb0 hb2⟩

set_option maxRecDepth 100000 in
set_option maxHeartbeats 1000000 in
theorem cf_rule (r : Rul) (hf : r.Fits) (w : World) (he : EnvW w) (hn : Names w) :
    Calls Tryz.prog 81 #[r.val] w fun e w' => e = .returned (.string (bstr (rule r))) ∧ Below w.heap.size w w' := by
  have h0' := rule0 r
  have h1' := rule1 r
  have h2' := rule2 r
  have h3' := rule3 r
  obtain ⟨k, b, p, n, s⟩ := r
  obtain ⟨f0, f1, f2, f3, f4⟩ := hf
  unfold Rul.val
  simp only at *
  by_cases k0 : k = 0
  · subst k0
    rw [h0' rfl]
    exact cf_rule0 b p n s f1 f2 f3 f4 w he hn
  by_cases k1 : k = 1
  · subst k1
    rw [h1' rfl]
    exact cf_rule1 b p n s f1 f2 f3 f4 w he hn
  by_cases k2 : k = 2
  · subst k2
    rw [h2' rfl]
    exact cf_rule2 b p n s f1 f2 f3 f4 w he hn
  rw [h3' k0 k1 k2]
  have hA := At.alloc w [.int .i64 k, .int .i64 b, .int .i64 p, .int .i64 n, .int .i64 s] 59
  have hb0 : Below w.heap.size w (w.alloc (.cells #[.int .i64 k, .int .i64 b, .int .i64 p, .int .i64 n, .int .i64 s] 59)) := (Below.refl _ _).alloc (Nat.le_refl _) _
  obtain ⟨hg, c0, z0, c1, z1, c2, z2, c3, z3, c4, z4⟩ := hA.five
  clear h0' h1' h2' h3' he hn hA z0 z1 z2 z3 z4
  go_enter Tryz.func81, Tryz.ntmps81
  go_wp2
  go_ret
  exact ⟨rfl, hb0⟩
end Go.Proofs.YtmimfkhkilijcaaGreatDoor

/- config: a source in words. -/
namespace Go.Proofs.YtmimfkhkilijcaaGreatDoor
set_option maxRecDepth 4000
open Go.ChangeShapes Go.WideShapes Go.ChangeAt Go.RowKit
open PWord
open Go.Lib (itoa)
set_option linter.unusedVariables false
set_option linter.unusedSimpArgs false

set_option maxRecDepth 100000 in
set_option maxHeartbeats 2000000 in
theorem cf_print (c : Cfg) (hf : c.Fits) (a : Option Addr) (n cap : Nat) (w : World) (he : EnvW w) (hnm : Names w) (hr : RowU w a c.rules) (hn : n = c.rules.length) (hl : n ≤ 1000) :
    Calls Tryz.prog 37 #[.agg #[.slice a n cap, .int .i64 c.timeout, .int .i64 c.drift]] w fun e w' => e = .returned (.string (bstr (print c))) ∧ Below w.heap.size w w' := by
  have hP0 : ptext c 0 = hline c.timeout c.drift ++ [10] := by simp [ptext]
  have hPn : ptext c n = print c := by rw [hn, ptext_all]
  rw [← hPn]
  have HPL := Lib.hid (fun k hk => ptext_len c hf k hk)
  have HPN := Lib.hid (fun k hk => ptext_next c k hk)
  have HF := Lib.hid hf.rules
  have ht := hf.timeout
  have hd := hf.drift
  have hh0 : Hid (∀ N w, EnvW w → w.cell? ⟨N, 0, none⟩ = some (.int .i64 c.timeout) → w.cell? ⟨N, 1, none⟩ = some (.int .i64 c.drift) → Calls Tryz.prog 80 #[.string ⟨#[115, 111, 117, 114, 99, 101]⟩, .slice (some ⟨N, 0, none⟩) 2 2] w fun e w' => e = .returned (.string (bstr (ptext c 0))) ∧ Below w.heap.size w w') :=
    Lib.hid (fun N w h1 h2 h3 => by rw [hP0]; exact line_two tSource c.timeout c.drift ht hd (by decide) N w h1 h2 h3)
  have HN := Lib.hid hn
  clear hP0 hPn hf hn ht hd
  have hA := At.alloc w [.slice a n cap, .int .i64 c.timeout, .int .i64 c.drift] 24
  have hb0 : Below w.heap.size w (w.alloc (.cells #[.slice a n cap, .int .i64 c.timeout, .int .i64 c.drift] 24)) := (Below.refl _ _).alloc (Nat.le_refl _) _
  generalize c.timeout = t at *
  generalize c.drift = d at *
  have hA := At.alloc w [.slice a n cap, .int .i64 t, .int .i64 d] 24
  have hb0 : Below w.heap.size w (w.alloc (.cells #[.slice a n cap, .int .i64 t, .int .i64 d] 24)) := (Below.refl _ _).alloc (Nat.le_refl _) _
  have hN1 : (w.alloc (.cells #[.slice a n cap, .int .i64 t, .int .i64 d] 24)).heap.size = w.heap.size + 1 := by simp
  have hN2 : ((w.alloc (.cells #[.slice a n cap, .int .i64 t, .int .i64 d] 24)).alloc (.cells #[.pointer none, .slice none 0 0] 81)).heap.size = w.heap.size + 1 + 1 := by simp
  have hbz := b_zero (w.alloc (.cells #[.slice a n cap, .int .i64 t, .int .i64 d] 24))
  rw [hN1] at hbz
  have hB3 : Below (w.alloc (.cells #[.slice a n cap, .int .i64 t, .int .i64 d] 24)).heap.size (w.alloc (.cells #[.slice a n cap, .int .i64 t, .int .i64 d] 24)) (((w.alloc (.cells #[.slice a n cap, .int .i64 t, .int .i64 d] 24)).alloc (.cells #[.pointer none, .slice none 0 0] 81)).alloc (.cells #[.int .i64 t, .int .i64 d] 3)) := ((Below.refl _ _).alloc (Nat.le_refl _) _).alloc (by simp) _
  have HE := Lib.hid ((he.on hb0).on hB3)
  have hC := (At.alloc ((w.alloc (.cells #[.slice a n cap, .int .i64 t, .int .i64 d] 24)).alloc (.cells #[.pointer none, .slice none 0 0] 81)) [.int .i64 t, .int .i64 d] 3).two
  rw [hN2] at hC
  have HC := Lib.hid hC
  have hbz2 := bld_on hbz ((Below.refl _ _).alloc (Nat.le_refl _) (.cells #[.int .i64 t, .int .i64 d] 3))
  have HWR := Lib.hid (fun w' h hB => b_write (w.heap.size + 1) (w.heap.size + 1) [] (bstr (ptext c 0)) w' h (by have h1 := HPL.out 0 (Nat.zero_le _); simp [ByteArray.size] at h1 ⊢; omega) hB)
  have hA3 := hA.on hB3
  have hb3' := on_below hb0 hB3
  have hsz3 : (w.heap.size + 1) ≤ (((w.alloc (.cells #[.slice a n cap, .int .i64 t, .int .i64 d] 24)).alloc (.cells #[.pointer none, .slice none 0 0] 81)).alloc (.cells #[.int .i64 t, .int .i64 d] 3)).heap.size := by simp
  have HA3 := Lib.hid hA3
  have HB3 := Lib.hid hb3'
  have HS3 := Lib.hid hsz3
  have HBZ := Lib.hid hbz2
  clear hC hN1 hN2 hb0 hA hbz hB3 hbz2 hA3 hb3' hsz3
  go_enter Tryz.func37, Tryz.ntmps37
  go_wp2_with (first | (go_at_call 80; (with_reducible refine (hh0.out _ _ HE.out HC.out.2.1 HC.out.2.2.2.1).mono ?_); rintro e w3 ⟨rfl, hb3⟩; have hbz3 := bld_on HBZ.out hb3; have hw3 : (w.heap.size + 1) ≤ w3.heap.size := Nat.le_trans HS3.out hb3.size) | (go_at_call 36; (with_reducible refine (HWR.out _ hbz3 hw3).mono ?_); rintro e w4 ⟨rfl, hbl4, hb4, -⟩; have hA4 := (HA3.out.on hb3).below hb4 (Nat.lt_succ_self _); obtain ⟨hg, c0, z0, c1, z1, c2, z2⟩ := hA4.three; have hb5 : Below w.heap.size w w4 := (on_below HB3.out hb3).trans (hb4.mono (Nat.le_succ _))))
  clear HE HC HWR hh0 HBZ HA3 HB3 HS3 hA4
  have hw5 : (w.heap.size + 1) ≤ w4.heap.size := Nat.le_trans hw3 hb4.size
  have hbl5 : Bld (w.heap.size + 1) (w.heap.size + 1) (ptext c 0) w4 := hbl4
  clear hbl4
  go_loopw [16] (fun i wr => ∃ k : Nat, k ≤ n ∧ i = .int .i64 k ∧ Bld (w.heap.size + 1) (w.heap.size + 1) (ptext c k) wr ∧ (w.heap.size + 1) ≤ wr.heap.size ∧ Below w.heap.size w wr) (fun i _ => n - (intOf i).toNat)
  case atStart => exact ⟨0, Nat.zero_le _, rfl, hbl5, hw5, hb5⟩
  case round =>
    clear hbl5 hw5 hb5
    obtain ⟨k, hk, rfl, hbl, hsz, hb⟩ := hrel
    by_cases hlt : k < n
    · have hk1 : k < c.rules.length := by rw [← HN.out]; exact hlt
      have hrow := hr.below hb
      obtain ⟨b0, off, rfl, -, -⟩ := hrow.at_ k hk1
      obtain ⟨hb0, r0, r1, r2, r3, r4⟩ := RowU.cells hrow k hk1
      have hx := HF.out _ (List.getElem_mem hk1)
      have hpn := HPN.out k hk1
      have hlen : (ptext c k).length + (bstr (rule c.rules[k])).size ≤ 140737488355328 := by rw [tx_size]; have h1 := HPL.out k (by omega); have h2 := rule_len _ hx; omega
      have HW := Lib.hid (fun w' h hB => b_write (w.heap.size + 1) (w.heap.size + 1) (ptext c k) (bstr (rule c.rules[k])) w' h hlen hB)
      rw [show (bstr (rule c.rules[k])).data.toList = rule c.rules[k] from rfl, ← hpn] at HW
      have HR := Lib.hid (fun w he hn => cf_rule c.rules[k] hx w he hn)
      clear hrow hpn hx hlen
      generalize hrk : c.rules[k] = r at *
      clear hrk hk1
      obtain ⟨rk, rb, rp, rn, rs⟩ := r
      simp only at r0 r1 r2 r3 r4
      have HR : Hid (∀ w, EnvW w → Names w → Calls Tryz.prog 81 #[.agg #[.int .i64 rk, .int .i64 rb, .int .i64 rp, .int .i64 rn, .int .i64 rs]] w fun e w' => e = .returned (.string (bstr (rule ⟨rk, rb, rp, rn, rs⟩))) ∧ Below w.heap.size w w') := HR
      generalize bstr (rule ⟨rk, rb, rp, rn, rs⟩) = RT at *
      have hbx := hb.alloc (Nat.le_trans (Nat.le_refl _) hb.size) (.cells #[.int .i64 rk, .int .i64 rb, .int .i64 rp, .int .i64 rn, .int .i64 rs] 59)
      have heX := he.on hbx
      have hnX := hnm.on hbx
      have hblX := bld_on hbl ((Below.refl _ _).alloc (Nat.le_refl _) (.cells #[.int .i64 rk, .int .i64 rb, .int .i64 rp, .int .i64 rn, .int .i64 rs] 59))
      go_wp2_with (first | (go_at_call 81; (with_reducible refine (HR.out _ heX hnX).mono ?_); rintro e w6 ⟨rfl, hb6⟩; have hbl6 := bld_on hblX hb6; have hw6 : (w.heap.size + 1) ≤ w6.heap.size := Nat.le_trans hsz (by have := hb6.size; simp at this; omega)) | (go_at_call 36; (with_reducible refine (HW.out _ hbl6 hw6).mono ?_); rintro e w7 ⟨rfl, hbl7, hb7, -⟩; have hb8 : Below w.heap.size w w7 := (on_below hbx hb6).trans (hb7.mono (Nat.le_succ _))))
      go_roundw
      case rel => exact ⟨k + 1, by omega, by go_num, hbl7, Nat.le_trans hw6 hb7.size, hb8⟩
      case measure => simp [intOf]; omega
    · obtain rfl : k = n := by omega
      have HT := Lib.hid (b_text (w.heap.size + 1) (w.heap.size + 1) (ptext c k) wr hbl hsz)
      go_wp2_with (go_at_call 40; (with_reducible refine HT.out.mono ?_); rintro e w6 ⟨rfl, hb6⟩)
      go_ret
      exact ⟨rfl, hb.trans (hb6.mono (Nat.le_succ _))⟩
end Go.Proofs.YtmimfkhkilijcaaGreatDoor
