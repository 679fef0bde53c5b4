/- The first call of layer 19's statements. -/
import Derived.Test.YtfgfjofbghfdpaaDoorConf4
import Derived.Test.YtfgfjofbghfdpaaDoorConf9
namespace Go.Proofs.YtfgfjofbghfdpaaDoor
set_option maxRecDepth 4000
open Go.ChangeShapes Go.WideShapes Go.ChangeAt Go.RowKit
open PWord
open Go.Lib (itoa)
set_option linter.unusedVariables false
set_option linter.unusedSimpArgs false

theorem rlv_len : ∀ (rs : List Rul), (rlv rs).length = rs.length * 5
  | [] => rfl
  | r :: rs => by show (r.cells ++ rlv rs).length = _; rw [List.length_append, rlv_len rs, List.length_cons]; show 5 + _ = _; omega
theorem rlv_at : ∀ (rs : List Rul) (i : Nat) (h : i < rs.length) (j : Nat), j < 5 → (rlv rs)[i * 5 + j]? = (rs[i].cells)[j]?
  | r :: rs, 0, _, j, hj => by
    show (r.cells ++ rlv rs)[0 * 5 + j]? = _
    rw [List.getElem?_append_left (by show 0 * 5 + j < 5; omega)]
    simp
  | r :: rs, i + 1, h, j, hj => by
    have hc : r.cells.length = 5 := rfl
    show (r.cells ++ rlv rs)[(i + 1) * 5 + j]? = _
    rw [List.getElem?_append_right (by omega), hc, show (i + 1) * 5 + j - 5 = i * 5 + j by omega]
    exact rlv_at rs i (by simpa using h) j hj
theorem rowu_of_sl {B : Nat} {w : World} {v : Value} {n : Nat} {rs : List Rul} (h : Sl B w 5 v n (rlv rs)) : n = rs.length ∧ ∃ a c, v = .slice a rs.length c ∧ RowU w a rs := by
  have hl := h.1
  rw [rlv_len] at hl
  have hn : n = rs.length := by omega
  subst hn
  refine ⟨rfl, ?_⟩
  rcases h.2 with ⟨rfl, h0⟩ | ⟨g, off, cap, rfl, hb, hg, h1, h2, h3, h4⟩
  · rw [h0]
    exact ⟨_, _, rfl, ⟨fun i hi => by omega⟩⟩
  · refine ⟨_, _, rfl, ⟨fun i hi => ⟨g, off, rfl, hg, fun j hj => ?_⟩⟩⟩
    rw [Nat.add_assoc, h3 _ (by omega), rlv_at rs i hi j hj]

theorem itoa5 : itoa 5 = [53] := by
  have h := Go.Lib.itoa_nonneg 5
  rw [Go.Lib.decDigits_one (by omega)] at h
  exact h
theorem itoa3 : itoa 3 = [51] := by
  have h := Go.Lib.itoa_nonneg 3
  rw [Go.Lib.decDigits_one (by omega)] at h
  exact h
theorem itoa10 : itoa 10 = [49, 48] := by
  have h := Go.Lib.itoa_nonneg 10
  rw [Go.Lib.decDigits_two (by omega) (by omega)] at h
  exact h
abbrev tSrc : List UInt8 := [115, 111, 117, 114, 99, 101, 32, 53, 32, 49, 48]
abbrev tBnd : List UInt8 := [98, 111, 117, 110, 100, 101, 100, 32, 51]
theorem hline_src : hline 5 10 = tSrc := by
  unfold hline lineOf
  simp [glue, itoa5, itoa10]
theorem parse_src : parse [tSrc, tBnd] = (⟨[⟨0, 3, 0, 0, 0⟩], 5, 10⟩, 0) := by
  have h := parse_plines ⟨[⟨0, 3, 0, 0, 0⟩], 5, 10⟩ ⟨fun r hr => by
    simp at hr
    subst hr
    exact ⟨zero64, ⟨by decide, by decide⟩, zero64, zero64, zero64⟩, ⟨by decide, by decide⟩, ⟨by decide, by decide⟩⟩ (by simp [only])
  have e : plines ⟨[⟨0, 3, 0, 0, 0⟩], 5, 10⟩ = [tSrc, tBnd] := by
    unfold plines
    simp only [List.map_cons, List.map_nil, hline_src]
    simp [rline, line0, lineOf, glue, itoa3]
  rw [e] at h
  exact h
theorem parse_none : parse [tSrc, tBounded] = (noCfg, 2) := by
  rw [parse_cons, ← hline_src, headOf_line ⟨by decide, by decide⟩ ⟨by decide, by decide⟩]
  have hr : ruleOf tBounded = none := by
    unfold ruleOf split
    rw [cuts_none 32 3 tBounded (by decide)]
    rfl
  simp [prules, hr]

theorem rows_two {w : World} {N : Nat} {x y : ByteArray} (hc : w.cell? ⟨N, 0, none⟩ = some (.string x)) (hd : w.cell? ⟨N, 1, none⟩ = some (.string y)) : RowS w (some ⟨N, 0, none⟩) [x, y] :=
  ⟨fun i hi => ⟨N, 0, rfl, cell_lt hc, by
    match i, hi with
    | 0, _ => exact hc
    | 1, _ => exact hd⟩⟩
theorem rowu_nil (w : World) : RowU w none [] := ⟨fun i hi => by simp at hi⟩

set_option maxRecDepth 100000 in
set_option maxHeartbeats 4000000 in
theorem speaks19 (w : World) (he : EnvW w) (hn : Names w) : Calls Tryd.prog 11 #[] w fun e w' => e = .returned (.bool true) ∧ Below w.heap.size w w' := by
  have HP1 : Hid (∀ N w, EnvW w → Names w → w.cell? ⟨N, 0, none⟩ = some (.string ⟨#[115, 111, 117, 114, 99, 101, 32, 53, 32, 49, 48]⟩) → w.cell? ⟨N, 1, none⟩ = some (.string ⟨#[98, 111, 117, 110, 100, 101, 100, 32, 51]⟩) →
      Calls Tryd.prog 20 #[.slice (some ⟨N, 0, none⟩) 2 2] w (ParsePost (⟨[⟨0, 3, 0, 0, 0⟩], 5, 10⟩, 0) w)) := Lib.hid (fun N w h1 h2 h3 h4 => by
    have h := cf_parse (some ⟨N, 0, none⟩) 2 2 [bstr tSrc, bstr tBnd] w h1 h2 (rows_two h3 h4) rfl (by decide) (by decide) (by simp) (fun s hs => by simp at hs; rcases hs with rfl | rfl <;> decide)
    rw [show bl [bstr tSrc, bstr tBnd] = [tSrc, tBnd] from rfl, parse_src] at h
    exact h)
  have HP2 : Hid (∀ N w, EnvW w → Names w → w.cell? ⟨N, 0, none⟩ = some (.string ⟨#[115, 111, 117, 114, 99, 101, 32, 53, 32, 49, 48]⟩) → w.cell? ⟨N, 1, none⟩ = some (.string ⟨#[98, 111, 117, 110, 100, 101, 100]⟩) →
      Calls Tryd.prog 20 #[.slice (some ⟨N, 0, none⟩) 2 2] w (ParsePost (noCfg, 2) w)) := Lib.hid (fun N w h1 h2 h3 h4 => by
    have h := cf_parse (some ⟨N, 0, none⟩) 2 2 [bstr tSrc, bstr tBounded] w h1 h2 (rows_two h3 h4) rfl (by decide) (by decide) (by simp) (fun s hs => by simp at hs; rcases hs with rfl | rfl <;> decide)
    rw [show bl [bstr tSrc, bstr tBounded] = [tSrc, tBounded] from rfl, parse_none] at h
    exact h)
  have HC1 : Hid (∀ a c w, RowU w a [⟨0, 3, 0, 0, 0⟩] → Calls Tryd.prog 12 #[.agg #[.slice a 1 c, .int .i64 5, .int .i64 10]] w fun e w' => e = .returned (.int .i64 0) ∧ Below w.heap.size w w') :=
    Lib.hid (fun a c w h => cf_check [⟨0, 3, 0, 0, 0⟩] 5 10 a 1 c w h rfl (by omega) 0 (by decide))
  have HC2 : Hid (∀ w, Calls Tryd.prog 12 #[.agg #[.slice none 0 0, .int .i64 0, .int .i64 0]] w fun e w' => e = .returned (.int .i64 6) ∧ Below w.heap.size w w') :=
    Lib.hid (fun w => cf_check [] 0 0 none 0 0 w (rowu_nil w) rfl (by omega) 6 (by decide))
  have hX := (At.alloc w [.string ⟨#[115, 111, 117, 114, 99, 101, 32, 53, 32, 49, 48]⟩, .string ⟨#[98, 111, 117, 110, 100, 101, 100, 32, 51]⟩] 9).two
  have hb0 : Below w.heap.size w (w.alloc (.cells #[.string ⟨#[115, 111, 117, 114, 99, 101, 32, 53, 32, 49, 48]⟩, .string ⟨#[98, 111, 117, 110, 100, 101, 100, 32, 51]⟩] 9)) := (Below.refl _ _).alloc (Nat.le_refl _) _
  have HX := Lib.hid hX
  have HE := Lib.hid (he.on hb0)
  have HNN := Lib.hid (hn.on hb0)
  have HB0 := Lib.hid hb0
  clear hX hb0
  go_enter Tryd.func11, Tryd.ntmps11
  go_wp2_with (first | (go_at_call 20; (with_reducible refine (HP1.out _ _ HE.out HNN.out HX.out.2.1 HX.out.2.2.2.1).mono ?_); rintro e w1 ⟨v1, rfl, hs1, hb1⟩; obtain ⟨-, a1, c1, rfl, hrow1⟩ := rowu_of_sl hs1; obtain ⟨b1, o1, rfl, -, -⟩ := hrow1.at_ 0 (by simp); have hA1 := At.alloc w1 [.slice (some ⟨b1, o1, none⟩) 1 c1, .int .i64 5, .int .i64 10] 24; have hbW : Below w1.heap.size w1 ((w1.alloc (.cells #[.slice (some ⟨b1, o1, none⟩) 1 c1, .int .i64 5, .int .i64 10] 24)).alloc (.cells #[.string ⟨#[115, 111, 117, 114, 99, 101, 32, 53, 32, 49, 48]⟩, .string ⟨#[98, 111, 117, 110, 100, 101, 100]⟩] 9)) := ((Below.refl _ _).alloc (Nat.le_refl _) _).alloc (by simp) _; have he2 := (HE.out.on hb1).on hbW; have hn2 := (HNN.out.on hb1).on hbW; have hY := (At.alloc (w1.alloc (.cells #[.slice (some ⟨b1, o1, none⟩) 1 c1, .int .i64 5, .int .i64 10] 24)) [.string ⟨#[115, 111, 117, 114, 99, 101, 32, 53, 32, 49, 48]⟩, .string ⟨#[98, 111, 117, 110, 100, 101, 100]⟩] 9).two; rw [show (w1.alloc (.cells #[.slice (some ⟨b1, o1, none⟩) 1 c1, .int .i64 5, .int .i64 10] 24)).heap.size = w1.heap.size + 1 by simp] at hY) | (go_at_call 20; (with_reducible refine (HP2.out _ _ he2 hn2 hY.2.1 hY.2.2.2.1).mono ?_); rintro e w2 ⟨v2, rfl, hs2, hb2⟩; obtain ⟨-, a2, c2, rfl, -⟩ := rowu_of_sl hs2; have hA2 := ((hA1.on ((Below.refl _ _).alloc (Nat.le_refl _) (.cells #[.string ⟨#[115, 111, 117, 114, 99, 101, 32, 53, 32, 49, 48]⟩, .string ⟨#[98, 111, 117, 110, 100, 101, 100]⟩] 9))).on hb2).on ((Below.refl _ _).alloc (Nat.le_refl _) (.cells #[.slice a2 0 c2, .int .i64 0, .int .i64 0] 24)); obtain ⟨hg2, d0, y0, d1, y1, d2, y2⟩ := hA2.three; have hr2 := (((hrow1.below hbW).below hb2).below ((Below.refl _ _).alloc (Nat.le_refl _) (.cells #[.slice a2 0 c2, .int .i64 0, .int .i64 0] 24))); obtain ⟨hgr, r0, r1, r2, r3, r4⟩ := RowU.cells hr2 0 (by simp); simp only [Nat.zero_mul, Nat.add_zero, List.getElem_cons_zero] at r0 r1 r2 r3 r4; have hb22 := ((on_below (on_below (on_below HB0.out hb1) hbW) hb2).alloc (by have := HB0.out.size; have := hb1.size; have := hbW.size; have := hb2.size; omega) (.cells #[.slice a2 0 c2, .int .i64 0, .int .i64 0] 24))) | (go_at_call 12; first | ((with_reducible refine (HC1.out _ _ _ hr2).mono ?_); rintro e w3 ⟨rfl, hb3⟩) | ((with_reducible refine (HC2.out _).mono ?_); rintro e w4 ⟨rfl, hb4⟩)))
  go_ret
  exact ⟨rfl, on_below (on_below hb22 hb3) hb4⟩
end Go.Proofs.YtfgfjofbghfdpaaDoor
