/- The walk of WholeGens. -/
import Derived.Test.YteimpeeghjeogaaWGenNows
import Derived.Test.YteimpeeghjeogaaClock
import Derived.Deep.RegionLaw
namespace Go.Proofs.Yteimpeeghjeogaa
set_option maxRecDepth 4000
open Go.ChangeShapes Go.WideShapes Go.ChangeAt Go.RowKit
open PHist PRing PSat PClamp PBound PFrame PSign
set_option linter.unusedVariables false
set_option linter.unusedSimpArgs false

/-- What stands behind some rounds: two ways, a clock, a rule. -/
structure Inv (w wr : World) (cs : List Value) (t g t' g' : Nat) (r : Rul) (L L' : List R) (A B : Nat → Prop) (n : Int) : Prop where
  one : GenC wr A t g r L
  two : GenC wr B t' g' r L'
  ge : ∀ j, A j → w.heap.size + 2 ≤ j
  ge' : ∀ j, B j → w.heap.size + 2 ≤ j
  apart : ∀ j, A j → ¬ B j
  clock : ClockC wr (w.heap.size + 1) n
  rule : At wr w.heap.size cs
  new : Below w.heap.size w wr
section
variable {w wr w' : World} {cs : List Value} {t g t' g' : Nat} {r : Rul} {L L' L2 : List R} {A B : Nat → Prop} {n m : Int}
theorem Inv.below (h : Inv w wr cs t g t' g' r L L' A B n) (hb : Below wr.heap.size wr w') : Inv w w' cs t g t' g' r L L' A B n :=
  ⟨h.one.on hb, h.two.on hb, h.ge, h.ge', h.apart, h.clock.on hb, h.rule.on hb, on_below h.new hb⟩
theorem Inv.none (h : Inv w wr cs t g t' g' r L L' A B n) (hu : Upd (fun _ => False) wr w') : Inv w w' cs t g t' g' r L L' A B n :=
  ⟨h.one.upd hu (fun _ _ => id), h.two.upd hu (fun _ _ => id), h.ge, h.ge', h.apart, h.clock.upd hu id, h.rule.upd hu id, h.new.upd hu h.new.size (fun _ _ h => h.elim)⟩
theorem Inv.alloc (h : Inv w wr cs t g t' g' r L L' A B n) (o : Obj) : Inv w (wr.alloc o) cs t g t' g' r L L' A B n := h.none ((Upd.refl _ _).alloc o)
theorem Inv.drew (h : Inv w wr cs t g t' g' r L L' A B n) : Inv w wr.drew cs t g t' g' r L L' A B n := h.none ((Upd.refl _ _).drew)
theorem Inv.seenOne (h : Inv w wr cs t g t' g' r L L' A B n) (hp : GPost A t g r L2 wr w') : ∃ A2, Inv w w' cs t g t' g' r L2 L' A2 B n ∧ Upd A wr w' := by
  obtain ⟨A2, h1, h2, h3⟩ := hp
  refine ⟨A2, ⟨h1, h.two.upd h2 (fun j hj ha => h.apart j ha hj), fun j hj => ?_, h.ge', fun j hj hb => ?_, h.clock.upd h2 (fun ha => by have := h.ge _ ha; omega), h.rule.upd h2 (fun ha => by have := h.ge _ ha; omega), h.new.upd h2 h.new.size (fun j _ ha => by have := h.ge j ha; omega)⟩, h2⟩
  · rcases h3 j hj with h4 | h4
    · exact h.ge j h4
    · have := h.clock.lt; omega
  · rcases h3 j hj with h4 | h4
    · exact h.apart j h4 hb
    · have := h.two.lt j hb; omega
theorem Inv.seenTwo (h : Inv w wr cs t g t' g' r L L' A B n) (hp : GPost B t' g' r L2 wr w') : ∃ B2, Inv w w' cs t g t' g' r L L2 A B2 n ∧ Upd B wr w' := by
  obtain ⟨B2, h1, h2, h3⟩ := hp
  refine ⟨B2, ⟨h.one.upd h2 (fun j hj hb => h.apart j hj hb), h1, h.ge, fun j hj => ?_, fun j hj hb => ?_, h.clock.upd h2 (fun ha => by have := h.ge' _ ha; omega), h.rule.upd h2 (fun ha => by have := h.ge' _ ha; omega), h.new.upd h2 h.new.size (fun j _ ha => by have := h.ge' j ha; omega)⟩, h2⟩
  · rcases h3 j hj with h4 | h4
    · exact h.ge' j h4
    · have := h.clock.lt; omega
  · rcases h3 j hb with h4 | h4
    · exact h.apart j hj h4
    · have := h.one.lt j hj; omega
theorem Inv.went (h : Inv w wr cs t g t' g' r L L' A B n) (hp : CkPost (w.heap.size + 1) m wr w') : Inv w w' cs t g t' g' r L L' A B m := by
  obtain ⟨h1, h2⟩ := hp
  exact ⟨h.one.upd h2 (fun j hj e => by have := h.ge j hj; omega), h.two.upd h2 (fun j hj e => by have := h.ge' j hj; omega), h.ge, h.ge', h.apart, h1, h.rule.upd h2 (by omega), h.new.upd h2 h.new.size (fun j _ e => by omega)⟩
end

set_option maxHeartbeats 8000000 in
theorem walk_WholeGens (w : World) (c0 : Array Value) (d0 : (Int × Int × Int × Int × Int × Unit)) (w0 : Rd w (.pair (.int .i64) (.pair (.int .i64) (.pair (.int .i64) (.pair (.int .i64) (.pair (.int .i64) .unit))))) c0.toList d0) (a1 : Option Addr) (n1 c1 : Nat) (l1 : List (Int × Int × ByteArray × Unit)) (w1 : Rd w (.sl (.pair (.int .i64) (.pair (.int .i64) (.pair .str .unit)))) [.slice a1 n1 c1] l1) (a2 : Option Addr) (n2 c2 : Nat) (l2 : List (Int × Int × ByteArray × Unit)) (w2 : Rd w (.sl (.pair (.int .i64) (.pair (.int .i64) (.pair .str .unit)))) [.slice a2 n2 c2] l2) :
    Calls Try.prog 7 #[.agg c0, .slice a1 n1 c1, .slice a2 n2 c2] w fun e w' => e = .returned (.bool true) ∧ Below w.heap.size w w' := by
  obtain ⟨r, hf, rfl⟩ := Rd.rul w0
  clear w0
  obtain ⟨hn0, hcap, hr, hxm⟩ := Rd.recs w1
  have hln : (l1.map toR).length = n1 := (@List.length_map _ _ l1 toR).trans hn0.symm
  generalize hrs : (List.map toR l1 : List PFrame.R) = rs at *
  clear hrs w1 hn0 hxm
  obtain ⟨hm0, hcap2, hq, hxm2⟩ := Rd.recs w2
  have hlm : (l2.map toR).length = n2 := (@List.length_map _ _ l2 toR).trans hm0.symm
  generalize hqs : (List.map toR l2 : List PFrame.R) = qs at *
  clear hqs w2 hm0 hxm2 hcap2
  have HN := Lib.hid hln
  have HM := Lib.hid hlm
  clear hln hlm
  obtain ⟨z, hz⟩ : ∃ z, rcheck r = z := ⟨_, rfl⟩
  have HRC := fun w' => Lib.hid (ref_check13 r w' z hz)
  have HO9 := fun w' => Lib.hid (gn_of_none ⟨9, 0, 0, 0, 0⟩ w' 3 (by decide) (by decide))
  simp only [Rul.val] at HO9
  have HC0 := fun g w' h => Lib.hid (ck_none g 0 (-1) w' h (by omega))
  by_cases h0 : z = 0
  case neg =>
    have hz0 : (z != 0) = true := by simpa using h0
    obtain ⟨kd, bd, pc, wn, sg⟩ := r
    simp only [Rul.val] at HRC
    have hA := At.alloc w [.int .i64 kd, .int .i64 bd, .int .i64 pc, .int .i64 wn, .int .i64 sg] 23
    have hb0 : Below w.heap.size w (w.alloc (.cells #[.int .i64 kd, .int .i64 bd, .int .i64 pc, .int .i64 wn, .int .i64 sg] 23)) := (Below.refl _ _).alloc (Nat.le_refl _) _
    have hA1 := hA.upd (S := fun _ => False) ((Upd.refl _ _).alloc (.cells #[.int .i64 0] 45)) id
    have hb1 := hb0.alloc hb0.size (.cells #[.int .i64 0] 45)
    have hc1 := ClockC.made (w.alloc (.cells #[.int .i64 kd, .int .i64 bd, .int .i64 pc, .int .i64 wn, .int .i64 sg] 23)) 45
    rw [show (w.alloc (.cells #[.int .i64 kd, .int .i64 bd, .int .i64 pc, .int .i64 wn, .int .i64 sg] 23)).heap.size = w.heap.size + 1 by simp] at hc1
    unfold Rul.cells
    simp only
    clear hz hf
    go_enter Try.func7, Try.ntmps7
    go_wp2_with (go_at_call 9; (with_reducible refine (HO9 _).out.mono ?_); rintro e w2 ⟨rfl, hb2⟩; have hA2 := hA1.on hb2; have hbw2 := on_below hb1 hb2; have hc2 := hc1.on hb2; obtain ⟨hg2, f0, -, f1, -, f2, -, f3, -, f4, -⟩ := hA2.five)
    go_wp2_with (go_at_call 16; (with_reducible refine (HC0 _ _ hc2).out.mono ?_); rintro e w3 ⟨rfl, rfl⟩)
    go_wp2_with (go_at_call 10; (with_reducible refine (HRC _).out.mono ?_); rintro e w3 ⟨rfl, hb3⟩; have hbw3 := on_below hbw2 hb3)
    go_ret
    exact ⟨rfl, hbw3⟩
  subst h0
  have HOF := fun w' => Lib.hid (gn_of r w' hz)
  have hIR : InR rs := hr.tm
  have hIQ : InR qs := hq.tm
  by_cases hbig : 40 < n1
  · obtain ⟨kd, bd, pc, wn, sg⟩ := r
    simp only [Rul.val] at HRC
    have hA := At.alloc w [.int .i64 kd, .int .i64 bd, .int .i64 pc, .int .i64 wn, .int .i64 sg] 23
    have hb0 : Below w.heap.size w (w.alloc (.cells #[.int .i64 kd, .int .i64 bd, .int .i64 pc, .int .i64 wn, .int .i64 sg] 23)) := (Below.refl _ _).alloc (Nat.le_refl _) _
    have hA1 := hA.upd (S := fun _ => False) ((Upd.refl _ _).alloc (.cells #[.int .i64 0] 45)) id
    have hb1 := hb0.alloc hb0.size (.cells #[.int .i64 0] 45)
    have hc1 := ClockC.made (w.alloc (.cells #[.int .i64 kd, .int .i64 bd, .int .i64 pc, .int .i64 wn, .int .i64 sg] 23)) 45
    rw [show (w.alloc (.cells #[.int .i64 kd, .int .i64 bd, .int .i64 pc, .int .i64 wn, .int .i64 sg] 23)).heap.size = w.heap.size + 1 by simp] at hc1
    unfold Rul.cells
    simp only
    clear hz hf HOF
    go_enter Try.func7, Try.ntmps7
    go_wp2_with (go_at_call 9; (with_reducible refine (HO9 _).out.mono ?_); rintro e w2 ⟨rfl, hb2⟩; have hA2 := hA1.on hb2; have hbw2 := on_below hb1 hb2; have hc2 := hc1.on hb2; obtain ⟨hg2, f0, -, f1, -, f2, -, f3, -, f4, -⟩ := hA2.five)
    go_wp2_with (go_at_call 16; (with_reducible refine (HC0 _ _ hc2).out.mono ?_); rintro e w3 ⟨rfl, rfl⟩)
    go_wp2_with (go_at_call 10; (with_reducible refine (HRC _).out.mono ?_); rintro e w3 ⟨rfl, hb3⟩; have hbw3 := on_below hbw2 hb3)
    go_ret
    exact ⟨rfl, hbw3⟩
  by_cases hbig2 : 40 < n2
  · have hsm : n1 ≤ 40 := by omega
    obtain ⟨kd, bd, pc, wn, sg⟩ := r
    simp only [Rul.val] at HRC
    have hA := At.alloc w [.int .i64 kd, .int .i64 bd, .int .i64 pc, .int .i64 wn, .int .i64 sg] 23
    have hb0 : Below w.heap.size w (w.alloc (.cells #[.int .i64 kd, .int .i64 bd, .int .i64 pc, .int .i64 wn, .int .i64 sg] 23)) := (Below.refl _ _).alloc (Nat.le_refl _) _
    have hA1 := hA.upd (S := fun _ => False) ((Upd.refl _ _).alloc (.cells #[.int .i64 0] 45)) id
    have hb1 := hb0.alloc hb0.size (.cells #[.int .i64 0] 45)
    have hc1 := ClockC.made (w.alloc (.cells #[.int .i64 kd, .int .i64 bd, .int .i64 pc, .int .i64 wn, .int .i64 sg] 23)) 45
    rw [show (w.alloc (.cells #[.int .i64 kd, .int .i64 bd, .int .i64 pc, .int .i64 wn, .int .i64 sg] 23)).heap.size = w.heap.size + 1 by simp] at hc1
    unfold Rul.cells
    simp only
    clear hz hf HOF
    go_enter Try.func7, Try.ntmps7
    go_wp2_with (go_at_call 9; (with_reducible refine (HO9 _).out.mono ?_); rintro e w2 ⟨rfl, hb2⟩; have hA2 := hA1.on hb2; have hbw2 := on_below hb1 hb2; have hc2 := hc1.on hb2; obtain ⟨hg2, f0, -, f1, -, f2, -, f3, -, f4, -⟩ := hA2.five)
    go_wp2_with (go_at_call 16; (with_reducible refine (HC0 _ _ hc2).out.mono ?_); rintro e w3 ⟨rfl, rfl⟩)
    go_wp2_with (go_at_call 10; (with_reducible refine (HRC _).out.mono ?_); rintro e w3 ⟨rfl, hb3⟩; have hbw3 := on_below hbw2 hb3)
    go_ret
    exact ⟨rfl, hbw3⟩
  have hsm : n1 ≤ 40 := by omega
  have hsm2 : n2 ≤ 40 := by omega
  have HSA := fun S t g k x w' (hx : rs[k]? = some x) h => Lib.hid (gn_seen S t g r (rs.take k) x w' h hz hf (hIR.take k) (hIR x (List.mem_of_getElem? hx)) (by have := HN.out; rw [List.length_take]; omega))
  have HSB := fun S t g L x w' (hL : InR L) (hl : L.length ≤ 40) (hx : x ∈ qs) h => Lib.hid (gn_seen S t g r L x w' h hz hf hL (hIQ x hx) (by omega))
  have HIQ := Lib.hid hIQ
  have HNW := fun S t g L w' h => Lib.hid (gn_now S t g r L w' h)
  have HRN := fun a c k w' (hb : Below w.heap.size w w') (ha : a1 = a) (h0 : 0 < k) (hk : k ≤ n1) (hs : Short (rs.take k)) zz hzz => Lib.hid (ref_now13 r a k c (rs.take k) w' (by have := HN.out; rw [List.length_take]; omega) h0 (ha ▸ (hr.on hb).take k) hs hf hz (by have := HN.out; rw [List.length_take]; omega) zz hzz)
  obtain ⟨kd, bd, pc, wn, sg⟩ := r
  simp only [Rul.val] at HRC HOF HRN
  have hA := At.alloc w [.int .i64 kd, .int .i64 bd, .int .i64 pc, .int .i64 wn, .int .i64 sg] 23
  have hb0 : Below w.heap.size w (w.alloc (.cells #[.int .i64 kd, .int .i64 bd, .int .i64 pc, .int .i64 wn, .int .i64 sg] 23)) := (Below.refl _ _).alloc (Nat.le_refl _) _
  have hA1 := hA.upd (S := fun _ => False) ((Upd.refl _ _).alloc (.cells #[.int .i64 0] 45)) id
  have hb1 := hb0.alloc hb0.size (.cells #[.int .i64 0] 45)
  have hc1 := ClockC.made (w.alloc (.cells #[.int .i64 kd, .int .i64 bd, .int .i64 pc, .int .i64 wn, .int .i64 sg] 23)) 45
  rw [show (w.alloc (.cells #[.int .i64 kd, .int .i64 bd, .int .i64 pc, .int .i64 wn, .int .i64 sg] 23)).heap.size = w.heap.size + 1 by simp] at hc1
  unfold Rul.cells
  simp only
  generalize (⟨kd, bd, pc, wn, sg⟩ : Rul) = rr at *
  clear hz hf hIR hIQ hbig hbig2
  go_enter Try.func7, Try.ntmps7
  go_wp2_with (go_at_call 9; (with_reducible refine (HO9 _).out.mono ?_); rintro e w2 ⟨rfl, hb2⟩; have hA2 := hA1.on hb2; have hbw2 := on_below hb1 hb2; have hc2 := hc1.on hb2; obtain ⟨hg2, f0, -, f1, -, f2, -, f3, -, f4, -⟩ := hA2.five)
  go_wp2_with (go_at_call 16; (with_reducible refine (HC0 _ _ hc2).out.mono ?_); rintro e w3 ⟨rfl, rfl⟩)
  go_wp2_with (go_at_call 10; (with_reducible refine (HRC _).out.mono ?_); rintro e w3 ⟨rfl, hb3⟩; have hA3 := hA2.on hb3; have hbw3 := on_below hbw2 hb3; have hc3 := hc2.on hb3; obtain ⟨hg3, j0, -, j1, -, j2, -, j3, -, j4, -⟩ := hA3.five)
  go_wp2_with (go_at_call 9; (with_reducible refine (HOF _).out.mono ?_); intro e w4 hof; obtain ⟨t, g, A4, rfl, hG4, hS4, hb4⟩ := hof; have hmN := hG4.now; have hmS := hG4.seen; have hmE := hG4.enters; have hA4 := hA3.on hb4; have hbw4 := on_below hbw3 hb4; have hc4 := hc3.on hb4; obtain ⟨hg4, i0, -, i1, -, i2, -, i3, -, i4, -⟩ := hA4.five)
  clear f0 f1 f2 f3 f4 j0 j1 j2 j3 j4
  go_wp2_with (go_at_call 9; (with_reducible refine (HOF _).out.mono ?_); intro e w5 hof; obtain ⟨t', g', B5, rfl, hG5, hS5, hb5⟩ := hof; have hmS' := hG5.seen; have hmE' := hG5.enters; have hmA' := hG5.ahead; have hA5 := hA4.on hb5; have hbw5 := on_below hbw4 hb5; have hc5 := hc4.on hb5)
  have hinv : Inv w w5 [.int .i64 kd, .int .i64 bd, .int .i64 pc, .int .i64 wn, .int .i64 sg] t g t' g' rr [] [] A4 B5 0 := by
    have h3 := hc3.lt
    have h4 := hb4.size
    refine ⟨hG4.on hb5, hG5, fun j hj => ?_, fun j hj => ?_, fun j hj hb => ?_, hc5, hA5, hbw5⟩
    · have := hS4 j hj; omega
    · have := hS5 j hj; omega
    · have h1 := hG4.lt j hj
      have h2 := hS5 j hb
      omega
  clear i0 i1 i2 i3 i4 hA hA1 hA2 hA3 hA4 hA5 hb0 hb1 hb2 hb3 hb4 hb5 hbw2 hbw3 hbw4 hbw5 hc1 hc2 hc3 hc4 hc5 hS4 hS5 hG4 hG5 HRC HOF HO9 HC0 hg2 hg3 hg4
  go_loopw [65] (fun i wr => ∃ (k : Nat) (L' : List R) (A B : Nat → Prop) (n : Int), k ≤ n1 ∧ i = .int .i64 k ∧ Inv w wr [.int .i64 kd, .int .i64 bd, .int .i64 pc, .int .i64 wn, .int .i64 sg] t g t' g' rr (rs.take k) L' A B n ∧ (-9223372036854775808 ≤ n ∧ n ≤ 9223372036854775807) ∧ InR L' ∧ L'.length ≤ k ∧ Hid (Short (rs.take k))) (fun i _ => n1 - (intOf i).toNat)
  case atStart => exact ⟨0, [], A4, B5, 0, Nat.zero_le _, rfl, by simpa using hinv, by omega, fun x hx => (by cases hx), Nat.zero_le _, Lib.hid (fun x hx => by simp at hx)⟩
  case round =>
    obtain ⟨k, L', A, B, n, hk, rfl, hI, hn, hL', hlL', HSH⟩ := hrel
    by_cases hlt : k < n1
    · have hk1 : k < rs.length := by rw [HN.out]; exact hlt
      obtain ⟨b, off, rfl, hbb, p0, p1, p2⟩ := (hr.on hI.new).at_ k hk1
      have hxk : rs[k]? = some rs[k] := List.getElem?_eq_getElem hk1
      have htk := List.take_succ_eq_append_getElem hk1
      generalize rs[k] = x at *
      obtain ⟨k1, t1, x1⟩ := x
      simp only at p0 p1 p2
      have hsx : (bstr x1).size = x1.length := by simp [ByteArray.size]
      by_cases hx : 200 < x1.length
      · have hb9 := (hI.alloc (.cells #[.int .i64 k1, .int .i64 t1, .string (bstr x1)] 39)).new
        go_wp2
        go_ret
        exact ⟨rfl, hb9⟩
      have hx2 : x1.length ≤ 200 := by omega
      have HTK := Lib.hid htk
      have HSX : Hid (Short (rs.take (k + 1))) := by
        show Short _
        rw [htk]
        intro y hy
        rcases List.mem_append.1 hy with hy | hy
        · exact HSH.out y hy
        · rw [List.mem_singleton.1 hy]
          show x1.length ≤ 4096
          omega
      have HXK := Lib.hid hxk
      have hR0 := At.alloc wr [.int .i64 k1, .int .i64 t1, .string (bstr x1)] 39
      obtain ⟨hr0, r0, y0, r1, y1, r2, y2⟩ := hR0.three
      have hI1 := hI.alloc (.cells #[.int .i64 k1, .int .i64 t1, .string (bstr x1)] 39)
      have HSK := HSA A t g k (k1, t1, x1)
      simp only at HSK
      have hin1 : (k : Int) + 1 ≤ (n1 : Int) := by omega
      have hic : (k : Int) + 1 ≤ (c1 : Int) := by omega
      have htn : ((k : Int) + 1).toNat = k + 1 := by omega
      have h00 : (0 : Int) ≤ (k : Int) + 1 := by omega
      have hwr : IntKind.i64.wrap ((k : Int) + 1) = (k : Int) + 1 := by rw [IntKind.wrap_i64]; omega
      have HR9 := fun w' (h : Below w.heap.size w w') cc => HRN (some ⟨b, off, none⟩) cc (k + 1) w' h rfl (by omega) (by omega) HSX.out _ (by rw [HTK.out])
      have HNB := Lib.hid (And.intro hL' hlL')
      have HCG := fun w' h => Lib.hid (ck_go (w.heap.size + 1) n k w' h hn (by omega) (by omega))
      have hni := add_in n k
      unfold inR at hni
      have HNI := Lib.hid hni
      have HNW9 := fun S w' h => HNW S t g (rs.take k ++ [(k1, t1, x1)]) w' h
      clear htk hxk hx HSH y0 y1 y2 hR0 hI HSA HNW HRN hL' hlL' hn hni
      generalize add n k = nn at *
      generalize hNN : gnow rr (rs.take k ++ [(k1, t1, x1)]) = N at *
      clear hNN
      have hNe : (N != N) = false := by simp
      by_cases hlt2 : k < n2
      · have hk2 : k < qs.length := by rw [HM.out]; exact hlt2
        obtain ⟨b2, off2, rfl, hbb2, s0, s1, s2⟩ := hq.at_ k hk2
        have HQ := fun w' (h : Below w.heap.size w w') => (hq.on h).cell k hk2
        have hyq : qs[k] ∈ qs := List.getElem_mem hk2
        generalize qs[k] = y at *
        obtain ⟨k3, t3, x3⟩ := y
        simp only at s0 s1 s2 HQ
        have hsy : (bstr x3).size = x3.length := by simp [ByteArray.size]
        have HYB := Lib.hid (HIQ.out (k3, t3, x3) hyq)
        have HSY := fun w' h => HSB B t' g' L' (k3, t3, x3) w' HNB.out.1 (by have := HNB.out.2; omega) hyq h
        simp only at HSY
        clear s0 s1 s2 hbb2 HSB hyq
        by_cases hy : x3.length ≤ 200
        · go_wp2_with (first | ((with_reducible refine (HSK _ HXK.out hI1.one).out.mono ?_); intro e w6 h6; obtain ⟨rfl, hg6⟩ := h6; obtain ⟨A6, hI6, hu6⟩ := hI1.seenOne hg6; obtain ⟨hbb6, s0, s1, s2⟩ := HQ _ hI6.new))
          have HNB2 : Hid (InR (L' ++ [(k3, t3, x3)])) := by
            show InR _
            intro r hr
            rcases List.mem_append.1 hr with hr | hr
            · exact HNB.out.1 r hr
            · rw [List.mem_singleton.1 hr]
              exact HYB.out
          have hI6d := hI6.drew
          go_wp2
          go_region_held3 (fun wx => wx.cell? ⟨b2, off2 + k * 3, none⟩ = some (.int .i64 k3) ∧ wx.cell? ⟨b2, off2 + k * 3 + 1, none⟩ = some (.int .i64 t3) ∧ wx.cell? ⟨b2, off2 + k * 3 + 2, none⟩ = some (.string (bstr x3))) (first | exact ⟨s0, s1, s2⟩ | exact ⟨v0, v1, v2⟩) (first | ((with_reducible refine (HSY _ hI6d.two).out.mono ?_); intro e w7 h7; obtain ⟨rfl, hg7⟩ := h7; obtain ⟨B7, hI7, hu7⟩ := hI6d.seenTwo hg7; obtain ⟨hbb7, v0, v1, v2⟩ := HQ _ hI7.new))
          go_wp2_with (go_at_call 16; (with_reducible refine (HCG _ hI7.clock).out.mono ?_); intro e w8 h8; obtain ⟨rfl, hc8⟩ := h8; have hI8 := hI7.went hc8; have hb8 := hI8.new; have hI8d := hI8.drew; obtain ⟨hg8, f0, -, f1, -, f2, -, f3, -, f4, -⟩ := hI8.rule.five)
          clear r0 r1 r2 hr0 p0 p1 p2 hbb
          go_region_held3 (fun wx => wx.cell? ⟨w.heap.size, 0, none⟩ = some (.int .i64 kd) ∧ wx.cell? ⟨w.heap.size, 1, none⟩ = some (.int .i64 bd) ∧ wx.cell? ⟨w.heap.size, 2, none⟩ = some (.int .i64 pc) ∧ wx.cell? ⟨w.heap.size, 3, none⟩ = some (.int .i64 wn) ∧ wx.cell? ⟨w.heap.size, 4, none⟩ = some (.int .i64 sg)) (first | exact ⟨f0, f1, f2, f3, f4⟩ | exact ⟨j0, j1, j2, j3, j4⟩) (first | (go_at_call 13; (with_reducible refine (HR9 _ hI8d.new _).out.mono ?_); rintro e w9 ⟨rfl, hb9⟩; have hI9 := hI8d.below hb9; obtain ⟨hg9, j0, -, j1, -, j2, -, j3, -, j4, -⟩ := hI9.rule.five) | (go_at_call 58; first | ((with_reducible refine (HNW9 _ _ hI9.one).out.mono ?_); rintro e w10 ⟨rfl, rfl⟩) | ((with_reducible refine (HNW9 _ _ hI8d.one).out.mono ?_); rintro e w10 ⟨rfl, rfl⟩)))
          all_goals go_wp2
          all_goals go_roundw
          all_goals first
            | exact ⟨k + 1, L' ++ [(k3, t3, x3)], A6, B7, nn, by omega, by go_num, by rw [HTK.out]; exact hI9, HNI.out, HNB2.out, by have := HNB.out.2; rw [List.length_append]; show L'.length + 1 ≤ k + 1; omega, HSX⟩
            | (simp [intOf]; omega)
        · have hy2 : 200 < x3.length := by omega
          go_wp2_with (first | ((with_reducible refine (HSK _ HXK.out hI1.one).out.mono ?_); intro e w6 h6; obtain ⟨rfl, hg6⟩ := h6; obtain ⟨A6, hI6, hu6⟩ := hI1.seenOne hg6; obtain ⟨hbb6, s0, s1, s2⟩ := HQ _ hI6.new))
          go_wp2_with (go_at_call 16; (with_reducible refine (HCG _ hI6.clock).out.mono ?_); intro e w8 h8; obtain ⟨rfl, hc8⟩ := h8; have hI8 := hI6.went hc8; have hb8 := hI8.new; have hI8d := hI8.drew; obtain ⟨hg8, f0, -, f1, -, f2, -, f3, -, f4, -⟩ := hI8.rule.five)
          clear r0 r1 r2 hr0 p0 p1 p2 hbb
          go_region_held3 (fun wx => wx.cell? ⟨w.heap.size, 0, none⟩ = some (.int .i64 kd) ∧ wx.cell? ⟨w.heap.size, 1, none⟩ = some (.int .i64 bd) ∧ wx.cell? ⟨w.heap.size, 2, none⟩ = some (.int .i64 pc) ∧ wx.cell? ⟨w.heap.size, 3, none⟩ = some (.int .i64 wn) ∧ wx.cell? ⟨w.heap.size, 4, none⟩ = some (.int .i64 sg)) (first | exact ⟨f0, f1, f2, f3, f4⟩ | exact ⟨j0, j1, j2, j3, j4⟩) (first | (go_at_call 13; (with_reducible refine (HR9 _ hI8d.new _).out.mono ?_); rintro e w9 ⟨rfl, hb9⟩; have hI9 := hI8d.below hb9; obtain ⟨hg9, j0, -, j1, -, j2, -, j3, -, j4, -⟩ := hI9.rule.five) | (go_at_call 58; first | ((with_reducible refine (HNW9 _ _ hI9.one).out.mono ?_); rintro e w10 ⟨rfl, rfl⟩) | ((with_reducible refine (HNW9 _ _ hI8d.one).out.mono ?_); rintro e w10 ⟨rfl, rfl⟩)))
          all_goals go_wp2
          all_goals go_roundw
          all_goals first
            | exact ⟨k + 1, L', A6, B, nn, by omega, by go_num, by rw [HTK.out]; exact hI9, HNI.out, HNB.out.1, by have := HNB.out.2; omega, HSX⟩
            | (simp [intOf]; omega)
      · go_wp2_with (first | ((with_reducible refine (HSK _ HXK.out hI1.one).out.mono ?_); intro e w6 h6; obtain ⟨rfl, hg6⟩ := h6; obtain ⟨A6, hI6, hu6⟩ := hI1.seenOne hg6))
        go_wp2_with (go_at_call 16; (with_reducible refine (HCG _ hI6.clock).out.mono ?_); intro e w8 h8; obtain ⟨rfl, hc8⟩ := h8; have hI8 := hI6.went hc8; have hb8 := hI8.new; have hI8d := hI8.drew; obtain ⟨hg8, f0, -, f1, -, f2, -, f3, -, f4, -⟩ := hI8.rule.five)
        clear r0 r1 r2 hr0 p0 p1 p2 hbb
        go_region_held3 (fun wx => wx.cell? ⟨w.heap.size, 0, none⟩ = some (.int .i64 kd) ∧ wx.cell? ⟨w.heap.size, 1, none⟩ = some (.int .i64 bd) ∧ wx.cell? ⟨w.heap.size, 2, none⟩ = some (.int .i64 pc) ∧ wx.cell? ⟨w.heap.size, 3, none⟩ = some (.int .i64 wn) ∧ wx.cell? ⟨w.heap.size, 4, none⟩ = some (.int .i64 sg)) (first | exact ⟨f0, f1, f2, f3, f4⟩ | exact ⟨j0, j1, j2, j3, j4⟩) (first | (go_at_call 13; (with_reducible refine (HR9 _ hI8d.new _).out.mono ?_); rintro e w9 ⟨rfl, hb9⟩; have hI9 := hI8d.below hb9; obtain ⟨hg9, j0, -, j1, -, j2, -, j3, -, j4, -⟩ := hI9.rule.five) | (go_at_call 58; first | ((with_reducible refine (HNW9 _ _ hI9.one).out.mono ?_); rintro e w10 ⟨rfl, rfl⟩) | ((with_reducible refine (HNW9 _ _ hI8d.one).out.mono ?_); rintro e w10 ⟨rfl, rfl⟩)))
        all_goals go_wp2
        all_goals go_roundw
        all_goals first
          | exact ⟨k + 1, L', A6, B, nn, by omega, by go_num, by rw [HTK.out]; exact hI9, HNI.out, HNB.out.1, by have := HNB.out.2; omega, HSX⟩
          | (simp [intOf]; omega)
    · obtain rfl : k = n1 := by omega
      have hb9 := hI.new
      go_wp2
      go_ret
      exact ⟨rfl, hb9⟩
end Go.Proofs.Yteimpeeghjeogaa
