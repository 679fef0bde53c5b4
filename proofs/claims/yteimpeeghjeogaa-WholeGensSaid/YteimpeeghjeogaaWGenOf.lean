/- The walk of GenOf. -/
import Derived.Test.YteimpeeghjeogaaSpeaks13
namespace Go.Proofs.Yteimpeeghjeogaa
set_option maxRecDepth 4000
open Go.ChangeShapes Go.WideShapes Go.ChangeAt Go.RowKit
open PHist PRing PSat PClamp PBound PFrame PSign
set_option linter.unusedVariables false
set_option linter.unusedSimpArgs false

/-- A rule that comes in. -/
theorem Rd.rul {w : World} {c : Array Value} {d : Int × Int × Int × Int × Int × Unit} (h : Rd w (.pair (.int .i64) (.pair (.int .i64) (.pair (.int .i64) (.pair (.int .i64) (.pair (.int .i64) .unit))))) c.toList d) : ∃ r : Rul, r.Fits ∧ c = r.cells.toArray := by
  obtain ⟨k, b, p, n, s, u⟩ := d
  obtain ⟨c1, d1, e1, ⟨rfl, h1⟩, c2, d2, rfl, ⟨rfl, h2⟩, c3, d3, rfl, ⟨rfl, h3⟩, c4, d4, rfl, ⟨rfl, h4⟩, c5, d5, rfl, ⟨rfl, h5⟩, h6⟩ := h
  have h6' : d5 = [] := h6
  subst h6'
  refine ⟨⟨k, b, p, n, s⟩, ⟨bounds_i64 h1, bounds_i64 h2, bounds_i64 h3, bounds_i64 h4, bounds_i64 h5⟩, ?_⟩
  have : c.toList = (Rul.cells ⟨k, b, p, n, s⟩) := e1
  rw [← this]

theorem gslack_new {r : Rul} (h : rcheck r = 0) : gslack r [] = if r.kind = 0 then r.bound else 0 := by
  unfold gslack
  rcases rcheck_some h with ⟨h0, h1⟩ | ⟨h0, h1⟩ | ⟨h0, h1⟩
  · simp [h0]
  · simp [h0]
  · simp [h0, times, pick, kept, lagsAll, lagsOf, last, srt]

set_option maxHeartbeats 4000000 in
theorem walk_GenOf (w : World) (c0 : Array Value) (d0 : (Int × Int × Int × Int × Int × Unit)) (w0 : Rd w (.pair (.int .i64) (.pair (.int .i64) (.pair (.int .i64) (.pair (.int .i64) (.pair (.int .i64) .unit))))) c0.toList d0) :
    Calls Try.prog 3 #[.agg c0] w fun e w' => e = .returned (.bool true) ∧ Below w.heap.size w w' := by
  obtain ⟨r, hf, rfl⟩ := Rd.rul w0
  clear w0
  obtain ⟨z, hz⟩ : ∃ z, rcheck r = z := ⟨_, rfl⟩
  have HGC := fun w' => Lib.hid (gn_check r w' z hz)
  have HRC := fun w' => Lib.hid (ref_check13 r w' z hz)
  have hzz : (z != z) = false := by simp
  by_cases h0 : z = 0
  · subst h0
    have HO := fun w' => Lib.hid (gn_of r w' hz)
    have HS := fun S t g w' h => Lib.hid (gn_slack S t g r [] w' h hz (by simp) _ (gslack_new hz) _ rfl)
    have HN := fun S t g w' h => Lib.hid (gn_now S t g r [] w' h)
    rw [gnow_never hz] at HN
    have HK := Lib.hid (rcheck_some hz)
    obtain ⟨kd, bd, pc, wn, sg⟩ := r
    simp only [Rul.val] at HO HGC HRC
    simp only at HS
    have hA := At.alloc w [.int .i64 kd, .int .i64 bd, .int .i64 pc, .int .i64 wn, .int .i64 sg] 23
    have hb0 : Below w.heap.size w (w.alloc (.cells #[.int .i64 kd, .int .i64 bd, .int .i64 pc, .int .i64 wn, .int .i64 sg] 23)) := (Below.refl _ _).alloc (Nat.le_refl _) _
    unfold Rul.cells
    simp only
    clear hz hf
    generalize hz' : (if kd = 0 then bd else 0) = zz at *
    generalize ho' : decide (kd ≠ 1) = o at *
    have HZ := Lib.hid hz'
    have HOO := Lib.hid ho'
    clear hz' ho'
    go_enter Try.func3, Try.ntmps3
    go_wp2_with (go_at_call 8; refine (speaks13 _).mono ?_; rintro e w1 ⟨rfl, hb1⟩; have hbw1 := on_below hb0 hb1; have hA1 := hA.on hb1; obtain ⟨hg1, c0, -, c1, -, c2, -, c3, -, c4, -⟩ := hA1.five)
    go_wp2_with (go_at_call 9; (with_reducible refine (HO _).out.mono ?_); intro e w2 hof; obtain ⟨t, g, S, rfl, hG2, hS2, hb2⟩ := hof; have hm := hG2.now; have hbw2 := on_below hbw1 hb2; have hA2 := hA1.on hb2; obtain ⟨hg2, d0, -, d1, -, d2, -, d3, -, d4, -⟩ := hA2.five)
    go_wp2_with (go_at_call 10; (with_reducible refine (HRC _).out.mono ?_); rintro e w3 ⟨rfl, hb3⟩; have hG3 := hG2.on hb3; have hbw3 := on_below hbw2 hb3; have hA3 := hA2.on hb3; obtain ⟨hg3, e0, -, e1, -, e2, -, e3, -, e4, -⟩ := hA3.five)
    go_wp2_with (go_at_call 11; (with_reducible refine (HGC _).out.mono ?_); rintro e w4 ⟨rfl, hb4⟩; have hG4 := hG3.on hb4; have hbw4 := on_below hbw3 hb4; have hA4 := hA3.on hb4; obtain ⟨hg4, f0, -, f1, -, f2, -, f3, -, f4, -⟩ := hA4.five)
    go_wp2_with (go_at_call 12; (with_reducible refine (HS _ _ _ _ hG4).out.mono ?_); rintro e w5 ⟨rfl, hb5⟩; have hG5 := hG4.on hb5; have hbw5 := on_below hbw4 hb5; have hA5 := hA4.on hb5; obtain ⟨hg5, g0, -, g1, -, g2, -, g3, -, g4, -⟩ := hA5.five)
    clear c0 c1 c2 c3 c4 d0 d1 d2 d3 d4 e0 e1 e2 e3 e4 f0 f1 f2 f3 f4 hA hA1 hA2 hA3 hA4 hA5 hG2 hG3 hG4 hb0 hbw1 hbw2 hbw3 hbw4 hb1 hb2 hb3 hb4 hb5
    have HNW := fun w' h => HN S t g w' h
    clear HN HS HO HGC HRC
    rcases HK.out with ⟨hk, h1⟩ | ⟨hk, h1⟩ | ⟨hk, h1⟩
    · subst hk
      obtain rfl : bd = zz := by rw [← HZ.out]; simp
      obtain rfl : true = o := by rw [← HOO.out]; rfl
      clear HK h1 HZ HOO
      go_wp2_with (go_at_call 58; (with_reducible refine (HNW _ hG5).out.mono ?_); rintro e w6 ⟨rfl, rfl⟩)
      go_ret
      exact ⟨rfl, hbw5⟩
    · subst hk
      obtain rfl : 0 = zz := by rw [← HZ.out]; simp
      obtain rfl : false = o := by rw [← HOO.out]; rfl
      clear HK h1 HZ HOO
      go_wp2_with (go_at_call 58; (with_reducible refine (HNW _ hG5).out.mono ?_); rintro e w6 ⟨rfl, rfl⟩)
      go_ret
      exact ⟨rfl, hbw5⟩
    · subst hk
      obtain rfl : 0 = zz := by rw [← HZ.out]; simp
      obtain rfl : true = o := by rw [← HOO.out]; rfl
      clear HK h1 HZ HOO
      go_wp2_with (go_at_call 58; (with_reducible refine (HNW _ hG5).out.mono ?_); rintro e w6 ⟨rfl, rfl⟩)
      go_ret
      exact ⟨rfl, hbw5⟩
  · have hz0 : (z != 0) = true := by simpa using h0
    have HO := fun w' => Lib.hid (gn_of_none r w' z hz h0)
    obtain ⟨kd, bd, pc, wn, sg⟩ := r
    simp only [Rul.val] at HO HGC HRC
    have hA := At.alloc w [.int .i64 kd, .int .i64 bd, .int .i64 pc, .int .i64 wn, .int .i64 sg] 23
    have hb0 : Below w.heap.size w (w.alloc (.cells #[.int .i64 kd, .int .i64 bd, .int .i64 pc, .int .i64 wn, .int .i64 sg] 23)) := (Below.refl _ _).alloc (Nat.le_refl _) _
    unfold Rul.cells
    simp only
    clear hz hf
    go_enter Try.func3, Try.ntmps3
    go_wp2_with (go_at_call 8; refine (speaks13 _).mono ?_; rintro e w1 ⟨rfl, hb1⟩; have hbw1 := on_below hb0 hb1; have hA1 := hA.on hb1; obtain ⟨hg1, c0, -, c1, -, c2, -, c3, -, c4, -⟩ := hA1.five)
    go_wp2_with (go_at_call 9; (with_reducible refine (HO _).out.mono ?_); rintro e w2 ⟨rfl, hb2⟩; have hbw2 := on_below hbw1 hb2; have hA2 := hA1.on hb2; obtain ⟨hg2, d0, -, d1, -, d2, -, d3, -, d4, -⟩ := hA2.five)
    go_wp2_with (go_at_call 10; (with_reducible refine (HRC _).out.mono ?_); rintro e w3 ⟨rfl, hb3⟩; have hbw3 := on_below hbw2 hb3; have hA3 := hA2.on hb3; obtain ⟨hg3, e0, -, e1, -, e2, -, e3, -, e4, -⟩ := hA3.five)
    go_wp2_with (go_at_call 11; (with_reducible refine (HGC _).out.mono ?_); rintro e w4 ⟨rfl, hb4⟩; have hbw4 := on_below hbw3 hb4)
    go_ret
    exact ⟨rfl, hbw4⟩
end Go.Proofs.Yteimpeeghjeogaa
