/- The walk of the law FrameGets. -/
import Derived.Test.YtfgmbmpbgokolaaSpeaks5
import Derived.Test.YtfgmbmpbgokolaaFrameRef3
namespace Go.Proofs.Ytfgmbmpbgokolaa
open Go.ChangeShapes Go.WideShapes Go.ChangeAt Go.RowKit
open PVar PCrc PFrame
set_option linter.unusedVariables false
set_option linter.unusedSimpArgs false

set_option maxRecDepth 100000 in
set_option maxHeartbeats 2000000 in
theorem walk_FrameGets (w : World) (a0 : ByteArray) (w0 : a0.size ≤ maxLen) :
    Calls Try.prog 4 #[.string a0] w fun e w' => e = .returned (.bool true) ∧ Below w.heap.size w w' := by
  by_cases hbig : 500 < a0.size
  · go_enter Try.func4, Try.ntmps4
    go_wp2_with (first | (go_at_call 9; refine (speaks5 _).mono ?_; rintro e w2 ⟨rfl, b2⟩))
    go_ret
    exact ⟨rfl, b2⟩
  have hl : a0.data.toList.length = a0.size := by simp
  have hg := fun w => fr_get a0 w (by omega)
  have hr := fun w => ref_fget a0 w (by omega)
  have hsp := @fget_spec a0.data.toList
  have hee := fget_err a0.data.toList
  obtain ⟨⟨k, t, x⟩, n, er, hf⟩ : ∃ (r : R) (n er : Nat), fget a0.data.toList = (r, n, er) := ⟨_, _, _, rfl⟩
  rw [hf] at hg hr hee
  simp only at hg hr hee
  by_cases he : er = 0
  · subst he
    obtain ⟨s1, s2, s3, s4, s5, s6⟩ := hsp hf
    have hk := err_kind s1
    have hel := enc_len k t x
    have hbl := body_len k t x
    have hrn := fun w => ref_encode k t (bstr x) w hk ⟨s2, s3⟩ (by rw [size_bstr]; omega)
    rw [show (bstr x).data.toList = x from rfl] at hrn
    have hto := fun w => to_run (P := Try.prog) w 9 a0 n n rfl Try.underlying9 (by omega)
    rw [s4] at hto
    clear hel hbl s1 s4 s5 hsp hee hf hl
    generalize enc k t x = E at *
    have HG := Lib.hid hg
    have HR := Lib.hid hr
    have HE := Lib.hid hrn
    have hn : n ≤ a0.size := by simpa using s6
    clear hg hr hrn s6 hk
    go_enter Try.func4, Try.ntmps4
    go_wp2_with (first | (go_at_call 9; refine (speaks5 _).mono ?_; rintro e w2 ⟨rfl, b2⟩) | (go_at_call 13; refine (HG.out _).mono ?_; rintro e w3 ⟨rfl, b3⟩; have hb3 := on_below b2 b3) | (go_at_call 15; refine (HR.out _).mono ?_; rintro e w4 ⟨rfl, b4⟩; have hb4 := on_below (hb3.alloc hb3.size _) b4; have hat4 := (At.alloc w3 [_, _, _] _).on b4; obtain ⟨hl4, q0, _, q1, _, q2, _⟩ := hat4.three))
    have hb5 := (hb4.alloc hb4.size (.cells #[.int .i64 k, .int .i64 t, .string (bstr x), .int .i64 n, .int .i64 0] 35)).drew
    have hgot := (At.alloc w4 [.int .i64 k, .int .i64 t, .string (bstr x), .int .i64 n, .int .i64 0] 35).drew
    have hrec := (hat4.on ((Below.refl _ w4).alloc (Nat.le_refl _) (.cells #[.int .i64 k, .int .i64 t, .string (bstr x), .int .i64 n, .int .i64 0] 35))).drew
    obtain ⟨_, g0, _, g1, _, g2, _, g3, _, g4, _⟩ := hgot.five
    obtain ⟨_, p0, _, p1, _, p2, _⟩ := hrec.three
    go_region_held3 (fun wx => wx.cell? ⟨w4.heap.size, 4, none⟩ = some (.int .i64 0) ∧ wx.cell? ⟨w3.heap.size, 0, none⟩ = some (.int .i64 k) ∧ wx.cell? ⟨w3.heap.size, 1, none⟩ = some (.int .i64 t) ∧ wx.cell? ⟨w3.heap.size, 2, none⟩ = some (.string (bstr x))) (first | exact ⟨g4, p0, p1, p2⟩ | exact ⟨v4, u0, u1, u2⟩) (first | (go_at_call 14; refine (HE.out _).mono ?_; rintro e w5 ⟨rfl, b5⟩; have hb6 := on_below hb5 b5; obtain ⟨_, v0, _, v1, _, v2, _, v3, _, v4, _⟩ := (hgot.on b5).five; obtain ⟨_, u0, _, u1, _, u2, _⟩ := (hrec.on b5).three))
    go_wp2
    go_ret
    exact ⟨rfl, hb6⟩
  · rcases hee with h | ⟨e', h, h1, h2⟩
    · exact absurd h he
    simp only [Prod.mk.injEq] at h
    obtain ⟨hz, rfl, rfl⟩ := h
    obtain ⟨rfl, rfl, rfl⟩ : k = 0 ∧ t = 0 ∧ x = [] := by simpa [zr] using hz
    have HG := Lib.hid hg
    have HR := Lib.hid hr
    have her : ((er : Int) == 0) = false := by simpa using he
    have her2 : ((er : Int) != 0) = true := by simpa using he
    clear hg hr hsp hf hl hz
    go_enter Try.func4, Try.ntmps4
    go_wp2_with (first | (go_at_call 9; refine (speaks5 _).mono ?_; rintro e w2 ⟨rfl, b2⟩) | (go_at_call 13; refine (HG.out _).mono ?_; rintro e w3 ⟨rfl, b3⟩; have hb3 := on_below b2 b3) | (go_at_call 15; refine (HR.out _).mono ?_; rintro e w4 ⟨rfl, b4⟩; have hb4 := on_below (hb3.alloc hb3.size _) b4; have hat4 := (At.alloc w3 [_, _, _] _).on b4; obtain ⟨hl4, q0, _, q1, _, q2, _⟩ := hat4.three))
    go_quiet (fail)
    go_wp2
    go_ret
    exact ⟨rfl, below_drewN (hb4.alloc hb4.size _) _⟩
end Go.Proofs.Ytfgmbmpbgokolaa
