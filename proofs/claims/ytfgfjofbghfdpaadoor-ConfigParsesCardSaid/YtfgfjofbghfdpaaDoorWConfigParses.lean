/- The walk of the law ConfigParses. -/
import Derived.Test.YtfgfjofbghfdpaaDoorSpeaks19
import Derived.Test.YtfgfjofbghfdpaaDoorCfgIn
namespace Go.Proofs.YtfgfjofbghfdpaaDoor
set_option maxRecDepth 4000
open Go.ChangeShapes Go.WideShapes Go.ChangeAt Go.RowKit
open PWord
set_option linter.unusedVariables false
set_option linter.unusedSimpArgs false

/-- Lines, a line feed behind each. -/
def flat (ws : List ByteArray) : List UInt8 := ((bl ws).map (· ++ [10])).flatten
theorem flat_snoc (ws : List ByteArray) (x : ByteArray) : flat (ws ++ [x]) = flat ws ++ (x.data.toList ++ [10]) := by
  unfold flat
  simp only [bl, List.map_append, List.map_cons, List.map_nil, List.flatten_append, List.flatten_cons, List.flatten_nil, List.append_nil]
theorem flat_len : ∀ (ws : List ByteArray), (∀ s ∈ ws, s.size ≤ 200) → (flat ws).length ≤ ws.length * 201
  | [], _ => by simp [flat]
  | x :: ws, h => by
    have h1 := h x (by simp)
    have h2 := flat_len ws (fun s hs => h s (by simp [hs]))
    have e : flat (x :: ws) = x.data.toList ++ [10] ++ flat ws := by
      unfold flat
      simp only [bl, List.map_cons, List.flatten_cons]
    rw [e]
    have e2 : x.data.toList.length = x.size := by simp
    simp only [List.length_append, List.length_cons, List.length_nil, e2]
    omega
/-- What is read, by its number alone. -/
def ParseNum (m : Nat) (w : World) (e : Ending) (w' : World) : Prop :=
  ∃ a k c t d, e = .returned (.tuple #[.agg #[.slice a k c, .int .i64 t, .int .i64 d], .int .i64 (m : Int)]) ∧ Below w.heap.size w w'
theorem ParsePost.num {p : Cfg × Nat} {w : World} {e : Ending} {w' : World} {m : Nat} (h : ParsePost p w e w') (hm : p.2 = m) : ParseNum m w e w' := by
  obtain ⟨v, h1, h2, h3⟩ := h
  obtain ⟨a, c, rfl⟩ := h2.shape
  rw [hm] at h1
  exact ⟨a, _, c, _, _, h1, h3⟩
theorem rowu_empty (w : World) (a : Option Addr) : RowU w a [] := ⟨fun i hi => by simp at hi⟩

set_option maxRecDepth 100000 in
set_option maxHeartbeats 8000000 in
theorem walk_ConfigParses (w : World) (he : EnvW w) (hnm : Names w) (a0 : Option Addr) (n0 c0 : Nat) (l0 : List ByteArray) (w0 : Rd w (.sl .str) [.slice a0 n0 c0] l0) :
    Calls Tryd.prog 5 #[.slice a0 n0 c0] w fun e w' => e = .returned (.bool true) ∧ Below w.heap.size w w' := by
  obtain ⟨hn, hnc, hcm, hr⟩ := Rd.strs w0
  clear w0
  have HSP := Lib.hid (speaks19 w he hnm)
  by_cases hl : n0 ≤ 50
  · have hl' : ¬ (50 : Int) < n0 := by omega
    have HN := Lib.hid hn
    clear hn
    go_enter Tryd.func5, Tryd.ntmps5
    go_wp2_with (first | (go_at_call 11; refine HSP.out.mono ?_; rintro e w2 ⟨rfl, hb2⟩))
    go_loopw [3, 21] (fun v i wr => ∃ k : Nat, k ≤ n0 ∧ i = .int .i64 k ∧ v = .string (bstr (flat (l0.take k))) ∧ Hid (∀ s ∈ l0.take k, s.size ≤ 200) ∧ Below w.heap.size w wr) (fun _ i _ => n0 - (intOf i).toNat)
    case atStart => exact ⟨0, Nat.zero_le _, rfl, rfl, Lib.hid (by simp), hb2⟩
    case round =>
      clear hb2 HSP
      obtain ⟨k, hk, rfl, rfl, HS, hb⟩ := hrel
      have hrow := hr.below hb
      by_cases hlt : k < n0
      · have hk1 : k < l0.length := by rw [← HN.out]; exact hlt
        obtain ⟨b, off, rfl, hbl, q0⟩ := hrow.at_ k hk1
        have hT : l0.take (k + 1) = l0.take k ++ [l0[k]] := List.take_succ_eq_append_getElem hk1
        have hfl := flat_len _ HS.out
        rw [List.length_take] at hfl
        have HT := Lib.hid hT
        clear hT hrow
        generalize l0[k] = s at *
        clear hk1
        by_cases hs : s.size ≤ 200
        · have hs' : ¬ (200 : Int) < s.size := by omega
          have hc1 := fun w => tx_run w s.data.toList [10] (by have e2 : s.data.toList.length = s.size := by simp
                                                               simp only [List.length_cons, List.length_nil, e2]; omega)
          rw [show bstr s.data.toList = s from rfl] at hc1
          obtain ⟨u, hu⟩ : ∃ u, bstr (s.data.toList ++ [10]) = u := ⟨_, rfl⟩
          rw [hu] at hc1
          have hc2 := fun w => tx_run w (flat (l0.take k)) (s.data.toList ++ [10]) (by
            have e2 : s.data.toList.length = s.size := by simp
            simp only [List.length_append, List.length_cons, List.length_nil, e2]
            omega)
          rw [hu, ← flat_snoc, ← HT.out] at hc2
          have HS2 : Hid (∀ s' ∈ l0.take (k + 1), s'.size ≤ 200) := Lib.hid (fun s' hs' => by
            rw [HT.out] at hs'
            rcases List.mem_append.1 hs' with h | h
            · exact HS.out s' h
            · simp at h; subst h; exact hs)
          clear hu
          obtain ⟨f1, hf1⟩ : ∃ f, bstr (flat (l0.take (k + 1))) = f := ⟨_, rfl⟩
          rw [hf1] at hc2
          have HF1 := Lib.hid hf1
          clear hf1
          generalize bstr (flat (l0.take k)) = f0 at *
          go_wp2
          go_roundw
          case rel => exact ⟨k + 1, by omega, by go_num, by rw [HF1.out], HS2, hb⟩
          case measure => simp [intOf]; omega
        · have hs' : (200 : Int) < s.size := by omega
          go_wp2
          go_ret
          exact ⟨rfl, hb⟩
      · have hkn : k = n0 := by omega
        subst hkn
        have htl : l0.take k = l0 := List.take_of_length_le (by rw [← HN.out]; exact Nat.le_refl _)
        rw [htl] at HS ⊢
        have hsz : ∀ s ∈ l0, s.size ≤ 1000000 := fun s hs => by have := HS.out s hs; omega
        have hP := cf_parse a0 k c0 l0 wr (he.on hb) (hnm.on hb) hrow HN.out hnc hcm (by rw [← HN.out]; omega) hsz
        have HPRE : Hid (∀ m w', m ≤ k → Below w.heap.size w w' → Calls Tryd.prog 20 #[.slice a0 m c0] w' (ParsePost (parse (bl (l0.take m))) w')) := Lib.hid (fun m w' hm hbw =>
          cf_parse a0 m c0 (l0.take m) w' (he.on hbw) (hnm.on hbw) ((hr.below hbw).take m) (by rw [List.length_take, ← HN.out]; omega) (by omega) hcm (by rw [List.length_take]; omega) (fun s hs => hsz s (List.mem_of_mem_take hs)))
        have hbl : ∀ m, bl (l0.take m) = (bl l0).take m := fun m => by simp [bl, List.map_take]
        clear htl hsz
        by_cases h0 : (parse (bl l0)).2 = 0
        · obtain ⟨e1, e2, e3, e4⟩ := parse_ok h0
          generalize hpp : parse (bl l0) = pp at *
          obtain ⟨cc, bb⟩ := pp
          simp only at h0 e1 e2 e3 e4
          subst h0
          have hlen : (bl l0).length = k := by rw [HN.out]; simp [bl]
          rw [hlen] at e1
          have hfe : bstr (flat l0) = bstr (print cc) := by rw [e2]; rfl
          rw [hfe]
          obtain ⟨m, hm⟩ : ∃ m, cc.rules.length = m := ⟨_, rfl⟩
          rw [hm] at e1
          have hkm : (k : Int) - 1 = (m : Int) := by omega
          have hk0 : (0 : Int) < k := by omega
          have hm50 : m ≤ 50 := by omega
          have HP := Lib.hid hP
          have HM := Lib.hid hm
          have HO := Lib.hid e3
          have HRP := Lib.hid (fun a c w h => ref_print cc e4 a m c w h hm.symm (by omega))
          clear hP e1 e2 e3 e4 hpp hlen hfe hm HPRE hbl HS
          generalize bstr (print cc) = tx at *
          go_wp2_with (first | (go_at_call 20; (with_reducible refine HP.out.mono ?_); rintro e w3 ⟨v3, rfl, hs3, hb3⟩; obtain ⟨-, a3, c3, hv3, hr3⟩ := rowu_of_sl (rs := cc.rules) hs3; rw [HM.out] at hv3; subst hv3))
          have hA := At.alloc w3 [.slice a3 m c3, .int .i64 cc.timeout, .int .i64 cc.drift] 24
          have hb33 := on_below hb hb3
          have hb4 := hb33.alloc hb33.size (.cells #[.slice a3 m c3, .int .i64 cc.timeout, .int .i64 cc.drift] 24)
          have hr4 := hr3.below ((Below.refl _ _).alloc (Nat.le_refl _) (.cells #[.slice a3 m c3, .int .i64 cc.timeout, .int .i64 cc.drift] 24))
          clear hs3 hr3 hb3 hb33
          generalize w3.alloc (.cells #[.slice a3 m c3, .int .i64 cc.timeout, .int .i64 cc.drift] 24) = w4 at *
          generalize w3.heap.size = g at *
          go_loopw [43] (fun i wx => ∃ j : Nat, j ≤ m ∧ i = .int .i64 j ∧ At wx g [.slice a3 m c3, .int .i64 cc.timeout, .int .i64 cc.drift] ∧ RowU wx a3 cc.rules ∧ Below w.heap.size w wx) (fun i _ => m - (intOf i).toNat)
          case atStart => exact ⟨0, Nat.zero_le _, rfl, hA, hr4, hb4⟩
          case round =>
            clear hA hr4 hb4
            obtain ⟨j, hj, rfl, hA, hr4, hb4⟩ := hrel
            by_cases hjl : j < m
            · have hj1 : j < cc.rules.length := by rw [HM.out]; exact hjl
              obtain ⟨b1, o1, rfl, -, -⟩ := hr4.at_ j hj1
              obtain ⟨hbl1, p0, p1, p2, p3, p4⟩ := RowU.cells hr4 j hj1
              have hon := HO.out _ (List.getElem_mem hj1)
              have HC3 := Lib.hid (fun w => ref_only cc.rules[j] true hon w)
              clear hon
              generalize cc.rules[j] = r at *
              obtain ⟨rk, rb, rp, rn, rs⟩ := r
              simp only at p0 p1 p2 p3 p4
              have HC3 : Hid (∀ w, Calls Tryd.prog 16 #[.agg #[.int .i64 rk, .int .i64 rb, .int .i64 rp, .int .i64 rn, .int .i64 rs]] w fun e w' => e = .returned (.bool true) ∧ Below w.heap.size w w') := HC3
              have hbx := hb4.alloc hb4.size (.cells #[.int .i64 rk, .int .i64 rb, .int .i64 rp, .int .i64 rn, .int .i64 rs] 31)
              have hAx := hA.on ((Below.refl _ _).alloc (Nat.le_refl _) (.cells #[.int .i64 rk, .int .i64 rb, .int .i64 rp, .int .i64 rn, .int .i64 rs] 31))
              have hrx := hr4.below ((Below.refl _ _).alloc (Nat.le_refl _) (.cells #[.int .i64 rk, .int .i64 rb, .int .i64 rp, .int .i64 rn, .int .i64 rs] 31))
              clear hj1
              go_wp2_with (go_at_call 16; (with_reducible refine (HC3.out _).mono ?_); rintro e w7 ⟨rfl, hb7⟩)
              go_roundw
              case rel => exact ⟨j + 1, by omega, by go_num, hAx.on hb7, hrx.below hb7, on_below hbx hb7⟩
              case measure => simp [intOf]; omega
            · have hjm : j = m := by omega
              subst hjm
              obtain ⟨hg, d0, y0, d1, y1, d2, y2⟩ := hA.three
              have HR := Lib.hid (HRP.out a3 c3 wr hr4)
              go_wp2_with (go_at_call 18; (with_reducible refine HR.out.mono ?_); rintro e w7 ⟨rfl, hb7⟩; obtain ⟨hg7, f0, u0, f1, u1, f2, u2⟩ := (hA.on hb7).three)
              go_ret
              exact ⟨by simp, on_below hb4 hb7⟩
        · obtain ⟨e1, e2, e3, e4⟩ := parse_bad h0
          have hlen : (bl l0).length = k := by rw [HN.out]; simp [bl]
          rw [hlen] at e3
          have HE4 := Lib.hid e4
          have HBL := Lib.hid hbl
          generalize hpp : parse (bl l0) = pp at *
          obtain ⟨cc, b⟩ := pp
          simp only at h0 e1 e2 e3
          subst e1
          have HP := Lib.hid hP
          obtain ⟨y, hy⟩ : ∃ y : Int, max (k : Int) 1 = y := ⟨_, rfl⟩
          have hby : ¬ y < (b : Int) := by omega
          have hb1 : ¬ (b : Int) < 1 := by omega
          have hb0 : ¬ (b : Int) = 0 := by omega
          have HSM := Lib.hid (fun a1 c1 w' => ref_same19 [] 0 0 a1 none 0 c1 0 w' (rowu_empty _ _) (rowu_empty _ _) rfl (by omega))
          clear hP hpp hbl e4 hlen HS
          generalize bstr (flat l0) = tx at *
          by_cases hb1' : b = 1
          · subst hb1'
            go_wp2_with (first | (go_at_call 20; (with_reducible refine HP.out.mono ?_); rintro e w3 ⟨v3, rfl, hs3, hb3⟩; obtain ⟨-, a3, c3, rfl, -⟩ := rowu_of_sl (rs := []) hs3; have hb33 := on_below hb hb3) | (go_at_call 21; (with_reducible refine (HSM.out _ _ _).mono ?_); rintro e w5 ⟨rfl, hb5⟩))
            go_ret
            exact ⟨rfl, on_below (hb33.alloc hb33.size _) hb5⟩
          · have hbk : b ≤ k := by omega
            have hb2 : 2 ≤ b := by omega
            have hb1I : ((b : Int) == 1) = false := by simp; omega
            have e4 := HE4.out hb1'
            obtain ⟨q, hq⟩ : ∃ q, b - 1 = q := ⟨_, rfl⟩
            have hqI : (b : Int) - 1 = (q : Int) := by omega
            rw [hq] at e4
            have HA1 := Lib.hid (fun w' hbw => (HPRE.out q w' (by omega) hbw).mono (fun e w'' h => ParsePost.num (m := 0) h (by rw [HBL.out]; exact e4.1)))
            have HA2 := Lib.hid (fun w' hbw => (HPRE.out b w' (by omega) hbw).mono (fun e w'' h => ParsePost.num (m := b) h (by rw [HBL.out]; exact e4.2)))
            have hru1 := fun w' => rows_to (P := Tryd.prog) (a := a0) (n := k) (c := c0) hnc hcm Tryd.underlying35 one_cell q q rfl (by omega) w'
            have hru2 := fun w' => rows_to (P := Tryd.prog) (a := a0) (n := k) (c := c0) hnc hcm Tryd.underlying35 one_cell b b rfl (by omega) w'
            clear HPRE e4 HE4 HBL hq
            go_wp2_with (first | (go_at_call 20; first | ((with_reducible refine HP.out.mono ?_); rintro e w3 ⟨v3, rfl, hs3, hb3⟩; obtain ⟨-, a3, c3, rfl, -⟩ := rowu_of_sl (rs := []) hs3; have hb33 := on_below hb hb3; have hb34 := hb33.alloc hb33.size (.cells #[.slice a3 0 c3, .int .i64 0, .int .i64 0] 24)) | ((with_reducible refine (HA1.out _ (on_below hb34 hb5)).mono ?_); rintro e w6 ⟨a6, k6, c6, t6, d6, rfl, hb6⟩; have hb66 := on_below (on_below hb34 hb5) hb6; have hb67 := hb66.alloc hb66.size (.cells #[.slice a6 k6 c6, .int .i64 t6, .int .i64 d6] 24)) | ((with_reducible refine (HA2.out _ hb67).mono ?_); rintro e w8 ⟨a8, k8, c8, t8, d8, rfl, hb8⟩)) | (go_at_call 21; (with_reducible refine (HSM.out _ _ _).mono ?_); rintro e w5 ⟨rfl, hb5⟩))
            go_ret
            exact ⟨by simp, (on_below hb67 hb8).alloc (by have := (on_below hb67 hb8).size; omega) _⟩
  · have hl' : (50 : Int) < n0 := by omega
    clear hn hr
    go_enter Tryd.func5, Tryd.ntmps5
    go_wp2_with (first | (go_at_call 11; refine HSP.out.mono ?_; rintro e w2 ⟨rfl, hb2⟩))
    go_ret
    exact ⟨rfl, hb2⟩
end Go.Proofs.YtfgfjofbghfdpaaDoor
