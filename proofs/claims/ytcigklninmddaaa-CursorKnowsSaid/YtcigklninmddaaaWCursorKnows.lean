/- The walk of the law CursorKnows. -/
import Derived.Test.YtcigklninmddaaaSpeaks21
namespace Go.Proofs.Ytcigklninmddaaa
set_option maxRecDepth 4000
open Go.ChangeShapes Go.WideShapes Go.ChangeAt Go.RowKit
open PVar PCrc PFrame
set_option linter.unusedVariables false
set_option linter.unusedSimpArgs false

/-- What comes, by whether a record comes. -/
theorem comes (l : List UInt8) : ((∃ r n, fget l = (r, n, 0)) ∧ cahead l = 0 ∧ cerr l = 0) ∨ ((fget l).2.2 ≠ 0 ∧ l = [] ∧ cahead l = 1 ∧ cerr l = 0) ∨ ((fget l).2.2 ≠ 0 ∧ l ≠ [] ∧ cahead l = 2 ∧ cerr l ≠ 0) := by
  by_cases hl : l = []
  · subst hl
    exact .inr (.inl ⟨fget_nil, rfl, rfl, rfl⟩)
  · by_cases h : (fget l).2.2 = 0
    · refine .inl ⟨⟨(fget l).1, (fget l).2.1, by rw [← h]⟩, ?_, ?_⟩
      · unfold cahead; rw [if_neg hl, if_pos h]
      · unfold cerr; rw [if_neg hl, h]
    · refine .inr (.inr ⟨h, hl, ?_, ?_⟩)
      · unfold cahead; rw [if_neg hl, if_neg h]
      · unfold cerr; rw [if_neg hl]; exact h
theorem cahead_end (l : List UInt8) : (cahead l = 1) ↔ l = [] := by
  rcases comes l with ⟨⟨r, n, hf⟩, h, _⟩ | ⟨_, h1, h, _⟩ | ⟨_, h1, h, _⟩
  · constructor
    · intro e; omega
    · intro e; subst e; exact absurd (by rw [hf]) fget_nil
  · exact ⟨fun _ => h1, fun _ => h⟩
  · exact ⟨fun e => by omega, fun e => absurd e h1⟩

/-- The loop's relation. -/
structure CuKn (w : World) (g G : Nat) (s : ByteArray) (wr : World) (m : Nat) : Prop where
  one : ∃ k c : Nat, CurC wr g s k c ∧ k ≤ s.size ∧ c ≤ m
  two : CurC wr G s 0 0
  new : Below w.heap.size w wr

set_option maxRecDepth 100000 in
set_option maxHeartbeats 8000000 in
theorem walk_CursorKnows (w : World) (a0 : ByteArray) (w0 : a0.size ≤ maxLen) (a1 : Int) (w1 : (Lit.int .u8 a1).wf = true) :
    Calls Try.prog 4 #[.string a0, .int .u8 a1] w fun e w' => e = .returned (.bool true) ∧ Below w.heap.size w w' := by
  by_cases hbig : 1000 < a0.size
  · go_enter Try.func4, Try.ntmps4
    go_wp2_with (first | (go_at_call 5; refine (speaks21 _).mono ?_; rintro e w2 ⟨rfl, b2⟩))
    go_ret
    exact ⟨rfl, b2⟩
  have hu := bounds_u8 w1
  have HN := fun w => Lib.hid (cu_new a0 w (by omega))
  have hcv : IntKind.i64.wrap a1 = a1 := by rw [IntKind.wrap_i64]; omega
  clear w1
  obtain ⟨m, hm⟩ : ∃ m : Nat, a1.tmod 20 = m := ⟨(a1.tmod 20).toNat, (Int.toNat_of_nonneg (Int.tmod_nonneg _ hu.1)).symm⟩
  have hm2 : m < 20 := by have := Int.tmod_lt_of_pos a1 (show (0 : Int) < 20 by decide); omega
  clear hu
  have HM := Lib.hid hm
  go_enter Try.func4, Try.ntmps4
  go_wp2_with (first | (go_at_call 5; refine (speaks21 _).mono ?_; rintro e w2 ⟨rfl, b2⟩) | (go_at_call 6; have hC3' := hC3; (with_reducible refine (HN _).out.mono ?_); rintro e w4 ⟨G, rfl, hG, hD4, b4⟩; have hC4 := hC3.on b4; have hb4 := on_below hb3 b4) | (go_at_call 6; (with_reducible refine (HN _).out.mono ?_); rintro e w3 ⟨g, rfl, hg, hC3, b3⟩; have hb3 := on_below b2 b3))
  have hn : g ≠ G := Nat.ne_of_lt (Nat.lt_of_lt_of_le hC3.lt hG)
  have hgw : w.heap.size ≤ g := Nat.le_trans b2.size hg
  have HI := Lib.hid (show CuKn w g G a0 w4 0 from ⟨⟨0, 0, hC4, Nat.zero_le _, Nat.le_refl _⟩, hD4, hb4⟩)
  clear hC3 hC4 hD4 hb3 hb4 hg hG HN
  go_loopw [23] (fun jv wr => ∃ j : Nat, j ≤ m ∧ jv = .int .i64 j ∧ CuKn w g G a0 wr j) (fun jv _ => m - (intOf jv).toNat)
  case atStart => exact ⟨0, Nat.zero_le _, rfl, HI.out⟩
  case round =>
    obtain ⟨j, hj, rfl, hI⟩ := hrel
    clear HI
    by_cases hlt : j < m
    · obtain ⟨k, c, hC, hks, hcj⟩ := hI.one
      have hD := hI.two
      have hB := hI.new
      rcases comes (a0.data.toList.drop k) with ⟨⟨r, n, hf⟩, ha, he⟩ | ⟨hf, _, ha, he⟩ | ⟨hf, _, ha, he⟩
      · have HA := fun w h => Lib.hid (cu_ahead_is g a0 k c w 0 h hks (by omega) (by rw [ha]; rfl))
        have HE := fun w h => Lib.hid (cu_err_is g a0 k c w 0 h hks (by omega) (by rw [he]; rfl))
        have HX := fun w h => Lib.hid (cu_next g a0 k c r n w h hks (by omega) (by omega) hf)
        have hle : k + n ≤ a0.size := by
          have := (fget_ok hf).2.2.2
          rw [List.length_drop, Array.length_toList] at this
          have : a0.data.size = a0.size := rfl
          omega
        clear hf ha he hI
        go_wp2_with (first | (go_at_call 8; have hC5' := hC5; (with_reducible refine (HA _ hC5).out.mono ?_); rintro e w6 ⟨rfl, b6⟩; have hC6 := hC5.on b6) | (go_at_call 8; (with_reducible refine (HA _ hC).out.mono ?_); rintro e w5 ⟨rfl, b5⟩; have hC5 := hC.on b5) | (go_at_call 9; have hC8' := hC8; (with_reducible refine (HE _ hC8).out.mono ?_); rintro e w9 ⟨rfl, b9⟩; have hC9 := hC8.on b9) | (go_at_call 9; have hC7' := hC7; (with_reducible refine (HE _ hC7).out.mono ?_); rintro e w8 ⟨rfl, b8⟩; have hC8 := hC7.on b8) | (go_at_call 9; (with_reducible refine (HE _ hC6).out.mono ?_); rintro e w7 ⟨rfl, b7⟩; have hC7 := hC6.on b7) | (go_at_call 12; (with_reducible refine (HX _ hC9).out.mono ?_); rintro e w10 ⟨rfl, hC10, u10⟩; have hD9 := ((((hD.on b5).on b6).on b7).on b8).on b9; have hB9 := on_below (on_below (on_below (on_below (on_below hB b5) b6) b7) b8) b9; have hD10 := hD9.upd u10 (fun e => hn e.symm); have hB10 := hB9.upd u10 hB9.size (fun j _ (e : j = g) => e ▸ hgw)))
        exact ⟨⟨j + 1, hlt, by go_num, ⟨⟨k + n, c + 1, hC10.made _, hle, by omega⟩, hD10.made _, hB10.alloc hB10.size _⟩⟩, by simp [intOf]; omega⟩
      · have HA := fun w h => Lib.hid (cu_ahead_is g a0 k c w 1 h hks (by omega) (by rw [ha]; rfl))
        have HE := fun w h => Lib.hid (cu_err_is g a0 k c w 0 h hks (by omega) (by rw [he]; rfl))
        have HX := fun w h => Lib.hid (cu_none g a0 k c w h hks (by omega) hf)
        clear hf ha he hI
        go_wp2_with (first | (go_at_call 8; have hC5' := hC5; (with_reducible refine (HA _ hC5).out.mono ?_); rintro e w6 ⟨rfl, b6⟩; have hC6 := hC5.on b6) | (go_at_call 8; (with_reducible refine (HA _ hC).out.mono ?_); rintro e w5 ⟨rfl, b5⟩; have hC5 := hC.on b5) | (go_at_call 9; have hC8' := hC8; (with_reducible refine (HE _ hC8).out.mono ?_); rintro e w9 ⟨rfl, b9⟩; have hC9 := hC8.on b9) | (go_at_call 9; have hC7' := hC7; (with_reducible refine (HE _ hC7).out.mono ?_); rintro e w8 ⟨rfl, b8⟩; have hC8 := hC7.on b8) | (go_at_call 9; (with_reducible refine (HE _ hC6).out.mono ?_); rintro e w7 ⟨rfl, b7⟩; have hC7 := hC6.on b7) | (go_at_call 12; (with_reducible refine (HX _ hC9).out.mono ?_); rintro e w10 ⟨rfl, b10⟩; have hC10 := hC9.on b10; have hD10 := (((((hD.on b5).on b6).on b7).on b8).on b9).on b10; have hB10 := on_below (on_below (on_below (on_below (on_below (on_below hB b5) b6) b7) b8) b9) b10))
        exact ⟨⟨j + 1, hlt, by go_num, ⟨⟨k, c, hC10.made _, hks, by omega⟩, hD10.made _, hB10.alloc hB10.size _⟩⟩, by simp [intOf]; omega⟩
      · have HA := fun w h => Lib.hid (cu_ahead_is g a0 k c w 2 h hks (by omega) (by rw [ha]; rfl))
        obtain ⟨er, her⟩ : ∃ z : Nat, cerr (a0.data.toList.drop k) = z := ⟨_, rfl⟩
        rw [her] at he
        have HE := fun w h => Lib.hid (cu_err_is g a0 k c w er h hks (by omega) (by rw [her]))
        have HX := fun w h => Lib.hid (cu_none g a0 k c w h hks (by omega) hf)
        have e1 : ((er : Int) != er) = false := by simp
        have e2 : ((er : Int) == er) = true := by simp
        have e3 : ((er : Int) == 0) = false := by rw [beq_eq_false_iff_ne]; omega
        have e4 : ((er : Int) != 0) = true := by rw [bne_iff_ne]; omega
        clear hf ha he hI her
        go_wp2_with (first | (go_at_call 8; have hC5' := hC5; (with_reducible refine (HA _ hC5).out.mono ?_); rintro e w6 ⟨rfl, b6⟩; have hC6 := hC5.on b6) | (go_at_call 8; (with_reducible refine (HA _ hC).out.mono ?_); rintro e w5 ⟨rfl, b5⟩; have hC5 := hC.on b5) | (go_at_call 9; have hC8' := hC8; (with_reducible refine (HE _ hC8).out.mono ?_); rintro e w9 ⟨rfl, b9⟩; have hC9 := hC8.on b9) | (go_at_call 9; have hC7' := hC7; (with_reducible refine (HE _ hC7).out.mono ?_); rintro e w8 ⟨rfl, b8⟩; have hC8 := hC7.on b8) | (go_at_call 9; (with_reducible refine (HE _ hC6).out.mono ?_); rintro e w7 ⟨rfl, b7⟩; have hC7 := hC6.on b7) | (go_at_call 12; (with_reducible refine (HX _ hC9).out.mono ?_); rintro e w10 ⟨rfl, b10⟩; have hC10 := hC9.on b10; have hD10 := (((((hD.on b5).on b6).on b7).on b8).on b9).on b10; have hB10 := on_below (on_below (on_below (on_below (on_below (on_below hB b5) b6) b7) b8) b9) b10))
        exact ⟨⟨j + 1, hlt, by go_num, ⟨⟨k, c, hC10.made _, hks, by omega⟩, hD10.made _, hB10.alloc hB10.size _⟩⟩, by simp [intOf]; omega⟩
    · obtain rfl : j = m := by omega
      have hD := hI.two
      have hB := hI.new
      clear hI
      by_cases hs : a0.data.toList = []
      · have HA := fun w h => Lib.hid (cu_ahead_is G a0 0 0 w 1 h (Nat.zero_le _) (by omega) (by rw [List.drop_zero, (cahead_end _).2 hs]; rfl))
        have hz : a0.toList.isEmpty = true := by rw [Lib.toList_data, hs]; rfl
        clear hs
        go_wp2_with (first | (go_at_call 10; (with_reducible refine (cu_at _ _ _ _ _ hD).mono ?_); rintro e w7 ⟨rfl, rfl⟩) | (go_at_call 11; (with_reducible refine (cu_count _ _ _ _ _ hD).mono ?_); rintro e w8 ⟨rfl, rfl⟩) | (go_at_call 8; (with_reducible refine (HA _ hD).out.mono ?_); rintro e w9 ⟨rfl, b9⟩))
        go_ret
        exact ⟨rfl, on_below hB b9⟩
      · obtain ⟨z, hz⟩ : ∃ z : Int, ((cahead a0.data.toList : Nat) : Int) = z := ⟨_, rfl⟩
        have HA := fun w h => Lib.hid (cu_ahead_is G a0 0 0 w z h (Nat.zero_le _) (by omega) (by rw [List.drop_zero]; exact hz))
        have hz2 : (z == 1) = false := by
          rw [beq_eq_false_iff_ne]
          intro e
          exact hs ((cahead_end _).1 (by omega))
        have hz3 : a0.toList.isEmpty = false := by
          rw [Lib.toList_data]
          cases hl : a0.data.toList with
          | nil => exact absurd hl hs
          | cons _ _ => rfl
        clear hs hz
        go_wp2_with (first | (go_at_call 10; (with_reducible refine (cu_at _ _ _ _ _ hD).mono ?_); rintro e w7 ⟨rfl, rfl⟩) | (go_at_call 11; (with_reducible refine (cu_count _ _ _ _ _ hD).mono ?_); rintro e w8 ⟨rfl, rfl⟩) | (go_at_call 8; (with_reducible refine (HA _ hD).out.mono ?_); rintro e w9 ⟨rfl, b9⟩))
        go_ret
        exact ⟨rfl, on_below hB b9⟩
end Go.Proofs.Ytcigklninmddaaa
