/- The document's own answers on records: read. -/
import Derived.Test.YtfgmbmpbgokolaaFrameRef2
namespace Go.Proofs.Ytfgmbmpbgokolaa
open Go.ChangeShapes Go.WideShapes Go.ChangeAt Go.RowKit
open PVar PCrc PFrame
set_option linter.unusedVariables false
set_option linter.unusedSimpArgs false

theorem cons_of_len {α : Type} : ∀ l : List α, 0 < l.length → ∃ c tl, l = c :: tl
  | [], h => by simp at h
  | c :: tl, _ => ⟨c, tl, rfl⟩

/-- What the document's Get answers. -/
abbrev gotV (r : R) (n e : Int) : Value := .agg #[.int .i64 r.1, .int .i64 r.2.1, .string (bstr r.2.2), .int .i64 n, .int .i64 e]

set_option maxRecDepth 100000 in
set_option maxHeartbeats 4000000 in
theorem ref_fget (s : ByteArray) (w : World) (hs : s.size ≤ 4000) :
    Calls Try.prog 15 #[.string s] w fun e w' => e = .returned (gotV (fget s.data.toList).1 (fget s.data.toList).2.1 (fget s.data.toList).2.2) ∧ Below w.heap.size w w' := by
  have hg := fun w => ref_get s w (by unfold maxLen; omega)
  have hsl : s.data.toList.length = s.size := by simp
  have hbel : Below w.heap.size w (w.alloc (.cells #[.int .i64 0, .int .i64 0, .string ⟨#[]⟩, .int .i64 0, .int .i64 0] 35)) := (Below.refl _ _).alloc (Nat.le_refl _) _
  have hat := At.alloc w [.int .i64 0, .int .i64 0, .string ⟨#[]⟩, .int .i64 0, .int .i64 0] 35
  by_cases h1 : (get s.data.toList).2.2 ≠ 0
  · have h0 : get s.data.toList = (0, 0, (get s.data.toList).2.2) := by
      rcases get_err s.data.toList with h | h | h
      · exact absurd h h1
      all_goals rw [h]
    have e : fget s.data.toList = (zr, 0, (get s.data.toList).2.2) := by unfold fget; rw [if_pos h1]
    rw [e]
    rw [h0] at hg
    generalize (get s.data.toList).2.2 = er at *
    have HG := Lib.hid hg
    have h1' : ((er : Int) == 0) = false := by simpa using h1
    clear hg h0 e
    go_enter Try.func15, Try.ntmps15
    go_wp2_with (first | (go_at_call 33; refine (HG.out _).mono ?_; rintro e w1 ⟨rfl, rfl⟩))
    go_returns
    exact ⟨rfl, (Below.refl _ _).alloc (Nat.le_refl _) _⟩
  have e1 : (get s.data.toList).2.2 = 0 := Decidable.not_not.1 h1
  obtain ⟨s1, _, s3, s4⟩ := @get_spec s.data.toList (get s.data.toList).1 (get s.data.toList).2.1 (by rw [← e1])
  have hdl := digs_len s4
  rw [← s1] at hdl
  rw [e1] at hg
  unfold fget
  rw [if_neg h1]
  clear h1 e1 s1
  generalize (get s.data.toList).1 = k at *
  generalize (get s.data.toList).2.1 = n at *
  rw [hsl] at s3 ⊢
  have HG := Lib.hid hg
  clear hg
  by_cases h2 : k < 2 ∨ 65536 < k
  · rw [if_pos h2]
    go_enter Try.func15, Try.ntmps15
    go_wp2_with (first | (go_at_call 33; refine (HG.out _).mono ?_; rintro e w1 ⟨rfl, rfl⟩))
    all_goals
      go_returns
      exact ⟨rfl, (Below.refl _ _).alloc (Nat.le_refl _) _⟩
  rw [if_neg h2]
  by_cases h3 : s.size < n + k + 4
  · rw [if_pos h3]
    go_enter Try.func15, Try.ntmps15
    go_wp2_with (first | (go_at_call 33; refine (HG.out _).mono ?_; rintro e w1 ⟨rfl, rfl⟩))
    go_returns
    exact ⟨rfl, (Below.refl _ _).alloc (Nat.le_refl _) _⟩
  rw [if_neg h3]
  have hcut1 := fun w => cut_run (P := Try.prog) w 9 s n (n + k) n (n + k) rfl (by omega) Try.underlying9 (by omega) (by omega)
  have hcut2 := fun w => cut_run (P := Try.prog) w 9 s n (n + k + 4) n (n + k + 4) rfl (by omega) Try.underlying9 (by omega) (by omega)
  rw [show n + k + 4 - n = k + 4 by omega] at hcut2
  rw [show n + k - n = k by omega] at hcut1
  have hBl : ((s.data.toList.drop n).take k).length = k := by rw [List.length_take, List.length_drop, hsl]; omega
  generalize (s.data.toList.drop n).take (k + 4) = C at *
  generalize (s.data.toList.drop n).take k = Bd at *
  have HSEAL : Hid (∀ w, Calls Try.prog 32 #[.string (bstr Bd)] w fun e w' => e = .returned (.string (bstr (sld Bd))) ∧ Below w.heap.size w w') := fun w => ref_seal (bstr Bd) w (by rw [size_bstr]; omega)
  have h2a : ¬ k < 2 := fun h => h2 (.inl h)
  have h2b : ¬ 65536 < k := fun h => h2 (.inr h)
  have hk2 : 2 ≤ k := by omega
  have hwr1 : IntKind.i64.wrap ((n : Int) + k) = n + k := by rw [IntKind.wrap_i64]; omega
  have hwr2 : IntKind.i64.wrap ((n : Int) + k + 4) = n + k + 4 := by rw [IntKind.wrap_i64]; omega
  clear h2
  by_cases h4 : sld Bd ≠ C
  · rw [if_pos h4]
    generalize sld Bd = SB at *
    have hne : (SB == C) = false := by simpa using h4
    go_enter Try.func15, Try.ntmps15
    go_wp2_with (first | (go_at_call 33; refine (HG.out _).mono ?_; rintro e w1 ⟨rfl, rfl⟩))
    generalize w.alloc _ = w1 at *
    go_region_with (first | (go_at_call 32; refine (HSEAL.out _).mono ?_; rintro e w2 ⟨rfl, b2⟩; have hb2 := on_below hbel.drew b2; have hat2 := hat.drew.on b2; obtain ⟨hl2, q0, f0, q1, f1, q2, f2, q3, f3, q4, f4⟩ := hat2.five; obtain ⟨p0, p1, p2, p3, p4⟩ := hat2.put5))
    go_wp2
    refine bodyPost_ret (v := gotV zr 0 5) (by simp [results, Try.results15, go_sem, p0, p1, p2, p3, p4, zr]) rfl ⟨rfl, ((((hb2.setCell (Nat.le_refl _) _).setCell (Nat.le_refl _) _).setCell (Nat.le_refl _) _).setCell (Nat.le_refl _) _).setCell (Nat.le_refl _) _⟩
  rw [if_neg h4]
  have h4' : sld Bd = C := Decidable.not_not.1 h4
  rw [h4'] at HSEAL
  clear h4 h4'
  have heq : (C == C) = true := by simp
  obtain ⟨c, tl, rfl⟩ := cons_of_len Bd (by omega)
  have hc8 := c.toNat_lt
  have hsb : (bstr (c :: tl)).size = tl.length + 1 := by rw [size_bstr]; simp
  have hidx : (bstr (c :: tl))[0]'(by omega) = c := rfl
  rw [rget_cons]
  have hfrom := fun w => from_run (P := Try.prog) w 9 (bstr (c :: tl)) 1 1 rfl Try.underlying9 (by omega)
  rw [show (bstr (c :: tl)).data.toList.drop 1 = tl from rfl] at hfrom
  by_cases h5 : c.toNat ≠ 1 ∧ c.toNat ≠ 2
  · simp only [if_pos h5]
    have hc1 : ((c.toNat : Int) != 1) = true := by simp; omega
    have hc2 : ((c.toNat : Int) != 2) = true := by simp; omega
    have hc3 : ¬ (c.toNat : Int) = 1 := by omega
    go_enter Try.func15, Try.ntmps15
    go_wp2_with (first | (go_at_call 33; refine (HG.out _).mono ?_; rintro e w1 ⟨rfl, rfl⟩))
    generalize w.alloc _ = w1 at *
    go_region_with (first | (go_at_call 32; refine (HSEAL.out _).mono ?_; rintro e w2 ⟨rfl, b2⟩; have hb2 := on_below hbel.drew b2; have hat2 := hat.drew.on b2; obtain ⟨hl2, q0, f0, q1, f1, q2, f2, q3, f3, q4, f4⟩ := hat2.five; obtain ⟨p0, p1, p2, p3, p4⟩ := hat2.put5))
    go_wp2
    refine bodyPost_ret (v := gotV zr 0 3) (by simp [results, Try.results15, go_sem, p0, p1, p2, p3, p4, zr]) rfl ⟨rfl, ((((hb2.setCell (Nat.le_refl _) _).setCell (Nat.le_refl _) _).setCell (Nat.le_refl _) _).setCell (Nat.le_refl _) _).setCell (Nat.le_refl _) _⟩
  simp only [if_neg h5]
  have hgt := fun w => ref_get (bstr tl) w (by rw [size_bstr]; unfold maxLen; simp at hBl; omega)
  rw [show (bstr tl).data.toList = tl from rfl] at hgt
  have hsp := @get_spec tl (get tl).1 (get tl).2.1
  have hge := get_err tl
  have hfr2 := fun (m : Nat) (hm : m ≤ tl.length) w => from_run (P := Try.prog) w 9 (bstr (c :: tl)) (1 + m) (1 + m) (by omega) Try.underlying9 (by omega)
  have htail : ∀ m, (bstr (c :: tl)).data.toList.drop (1 + m) = tl.drop m := fun m => by
    show (c :: tl).drop (1 + m) = _
    rw [Nat.add_comm, List.drop_succ_cons]
  simp only [htail] at hfr2
  have hc5 : c.toNat = 1 ∨ c.toNat = 2 := by omega
  clear h5 htail
  generalize get tl = g at *
  obtain ⟨m, j, er⟩ := g
  simp only at hge hgt hsp ⊢
  by_cases h6 : er = 0
  · subst h6
    obtain ⟨t1, t2, t3, t4⟩ := hsp rfl
    have hfr3 := hfr2 j t3
    have HGT := Lib.hid hgt
    have hj0 : (j : Int) ≤ tl.length := by omega
    have hwz1 : IntKind.i64.wrap 1 = 1 := by decide
    have hwz2 : IntKind.i64.wrap 2 = 2 := by decide
    have hwr4 : IntKind.i64.wrap (1 + (j : Int)) = 1 + j := by rw [IntKind.wrap_i64]; simp at hBl; omega
    clear hgt hsp hge t1 t2 hfr2
    simp only [if_neg (show ¬ ((0 : Nat) ≠ 0) by simp)]
    rcases hc5 with hc5 | hc5
    all_goals
      go_enter Try.func15, Try.ntmps15
      go_wp2_with (first | (go_at_call 33; first | ((with_reducible refine (HG.out _).mono ?_); rintro e w1 ⟨rfl, rfl⟩) | ((with_reducible refine (HGT.out _).mono ?_); rintro e w1 ⟨rfl, rfl⟩)))
      generalize w.alloc _ = w1 at *
      go_region_with (first | (go_at_call 32; refine (HSEAL.out _).mono ?_; rintro e w2 ⟨rfl, b2⟩; have hb2 := on_below hbel.drew b2; have hat2 := hat.drew.on b2; obtain ⟨hl2, q0, f0, q1, f1, q2, f2, q3, f3, q4, f4⟩ := hat2.five; obtain ⟨p0, p1, p2, p3, p4⟩ := hat2.put5))
      go_wp2_with (first | (go_at_call 33; first | ((with_reducible refine (HG.out _).mono ?_); rintro e w1 ⟨rfl, rfl⟩) | ((with_reducible refine (HGT.out _).mono ?_); rintro e w1 ⟨rfl, rfl⟩)))
      go_region_with (first | (go_at_call 34; refine (ref_back m _ t4).mono ?_; rintro e w4 ⟨rfl, rfl⟩))
      all_goals
        go_wp2
        rw [hc5]
        refine bodyPost_ret (v := gotV (_, back m, tl.drop j) (n + k + 4 : Nat) 0) (by simp [results, Try.results15, go_sem, p0, p1, p2, p3, p4, hwz1, hwz2]) rfl ⟨rfl, (((((hb2.setCell (Nat.le_refl _) _).setCell (Nat.le_refl _) _).setCell (Nat.le_refl _) _).setCell (Nat.le_refl _) _).setCell (Nat.le_refl _) _).drew⟩
  · have h6' : ((er : Int) == 0) = false := by simpa using h6
    have hg0 : m = 0 ∧ j = 0 := by
      rcases hge with h | h | h
      · exact absurd h h6
      · simp at h; omega
      · simp at h; omega
    obtain ⟨rfl, rfl⟩ := hg0
    have HGT := Lib.hid hgt
    clear hgt hsp hge hfr2
    simp only [if_pos h6]
    rcases hc5 with hc5 | hc5
    all_goals
      go_enter Try.func15, Try.ntmps15
      go_wp2_with (first | (go_at_call 33; first | ((with_reducible refine (HG.out _).mono ?_); rintro e w1 ⟨rfl, rfl⟩) | ((with_reducible refine (HGT.out _).mono ?_); rintro e w1 ⟨rfl, rfl⟩)))
      generalize w.alloc _ = w1 at *
      go_region_with (first | (go_at_call 32; refine (HSEAL.out _).mono ?_; rintro e w2 ⟨rfl, b2⟩; have hb2 := on_below hbel.drew b2; have hat2 := hat.drew.on b2; obtain ⟨hl2, q0, f0, q1, f1, q2, f2, q3, f3, q4, f4⟩ := hat2.five; obtain ⟨p0, p1, p2, p3, p4⟩ := hat2.put5))
      go_wp2_with (first | (go_at_call 33; first | ((with_reducible refine (HG.out _).mono ?_); rintro e w1 ⟨rfl, rfl⟩) | ((with_reducible refine (HGT.out _).mono ?_); rintro e w1 ⟨rfl, rfl⟩)))
      refine bodyPost_ret (v := gotV zr 0 er) (by simp [results, Try.results15, go_sem, p0, p1, p2, p3, p4, zr]) rfl ⟨rfl, ((((hb2.setCell (Nat.le_refl _) _).setCell (Nat.le_refl _) _).setCell (Nat.le_refl _) _).setCell (Nat.le_refl _) _).setCell (Nat.le_refl _) _⟩
end Go.Proofs.Ytfgmbmpbgokolaa

