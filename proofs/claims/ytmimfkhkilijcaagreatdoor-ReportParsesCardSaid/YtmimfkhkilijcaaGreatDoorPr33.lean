/- KConfB: what is reached of them. -/
import Derived.Deep.DeepCutAuto
import Derived.Deep.RegionHeld3
import Derived.Test.YtmimfkhkilijcaaGreatDoorPr01
import Derived.Test.YtmimfkhkilijcaaGreatDoorPr09
import Derived.Test.YtmimfkhkilijcaaGreatDoorPr10
import Derived.Test.YtmimfkhkilijcaaGreatDoorPr11
namespace Go.Proofs.YtmimfkhkilijcaaGreatDoor
set_option maxRecDepth 4000
open Go.ChangeShapes Go.WideShapes Go.ChangeAt Go.RowKit
open PWord
open Go.Lib (itoa)
set_option linter.unusedVariables false
set_option linter.unusedSimpArgs false

/-- Two texts as one, by a name. -/
theorem tx_let (a b : List UInt8) (h : a.length + b.length ≤ 9223372036854775807) : ∃ t, bstr (a ++ b) = t ∧ ∀ w, (Op.stringOp .add (bstr a) (bstr b)).run Tryz.prog w = .ok (.string t) w := ⟨_, rfl, fun w => tx_run w a b h⟩
theorem rule0r (r : Rul) (h : r.kind = 0) : rule r = [98, 111, 117, 110, 100, 101, 100, 32] ++ itoa r.bound ++ [10] := by unfold rule rline; rw [if_pos h]; rfl
theorem rule1r (r : Rul) (h : r.kind = 1) : rule r = [109, 97, 114, 107, 101, 100, 32] ++ itoa r.sign ++ [10] := by unfold rule rline; rw [if_neg (by omega), if_pos h]; rfl
theorem rule2r (r : Rul) (h : r.kind = 2) : rule r = [112, 101, 114, 99, 101, 110, 116, 32] ++ itoa r.pct ++ [32] ++ itoa r.win ++ [10] := by
  unfold rule rline
  rw [if_neg (by omega), if_neg (by omega), if_pos h]
  simp [line2, lineOf, glue]
theorem rule3r (r : Rul) (h0 : r.kind ≠ 0) (h1 : r.kind ≠ 1) (h2 : r.kind ≠ 2) : rule r = [] := by unfold rule rline; rw [if_neg h0, if_neg h1, if_neg h2]

set_option maxRecDepth 100000 in
set_option maxHeartbeats 4000000 in
theorem ref_rule (r : Rul) (hf : r.Fits) (w : World) :
    Calls Tryz.prog 90 #[r.val] w fun e w' => e = .returned (.string (bstr (rule r))) ∧ Below w.heap.size w w' := by
  have h0' := rule0r r
  have h1' := rule1r r
  have h2' := rule2r r
  have h3' := rule3r r
  obtain ⟨k, b, p, n, s⟩ := r
  obtain ⟨f0, f1, f2, f3, f4⟩ := hf
  unfold Rul.val
  simp only at *
  have hA := At.alloc w [.int .i64 k, .int .i64 b, .int .i64 p, .int .i64 n, .int .i64 s] 59
  have hb0 : Below w.heap.size w (w.alloc (.cells #[.int .i64 k, .int .i64 b, .int .i64 p, .int .i64 n, .int .i64 s] 59)) := (Below.refl _ _).alloc (Nat.le_refl _) _
  obtain ⟨hg, c0, z0, c1, z1, c2, z2, c3, z3, c4, z4⟩ := hA.five
  clear hA z0 z1 z2 z3 z4
  by_cases k0 : k = 0
  · subst k0
    rw [h0' rfl]
    have hl := itoa_len f1
    obtain ⟨t1, ht1, hc1⟩ := tx_let [98, 111, 117, 110, 100, 101, 100, 32] (itoa b) (by simp only [List.length_cons, List.length_nil]; omega)
    obtain ⟨t2, ht2, hc2⟩ := tx_let ([98, 111, 117, 110, 100, 101, 100, 32] ++ itoa b) [10] (by simp only [List.length_append, List.length_cons, List.length_nil]; omega)
    have HN := Lib.hid (fun w => ref_num b f1 w)
    clear h0' h1' h2' h3' f0 f1 f2 f3 f4 hl
    rw [ht1] at hc2
    rw [ht2]
    clear ht1 ht2
    generalize bstr (itoa b) = B at *
    go_enter Tryz.func90, Tryz.ntmps90
    go_wp2_with (go_at_call 17; refine (HN.out _).mono ?_; rintro e w2 ⟨rfl, hb2⟩)
    go_ret
    exact ⟨rfl, on_below hb0 hb2⟩
  by_cases k1 : k = 1
  · subst k1
    rw [h1' rfl]
    have hl := itoa_len f4
    obtain ⟨t1, ht1, hc1⟩ := tx_let [109, 97, 114, 107, 101, 100, 32] (itoa s) (by simp only [List.length_cons, List.length_nil]; omega)
    obtain ⟨t2, ht2, hc2⟩ := tx_let ([109, 97, 114, 107, 101, 100, 32] ++ itoa s) [10] (by simp only [List.length_append, List.length_cons, List.length_nil]; omega)
    have HN := Lib.hid (fun w => ref_num s f4 w)
    clear h0' h1' h2' h3' f0 f1 f2 f3 f4 hl
    rw [ht1] at hc2
    rw [ht2]
    clear ht1 ht2
    generalize bstr (itoa s) = B at *
    go_enter Tryz.func90, Tryz.ntmps90
    go_wp2_with (go_at_call 17; refine (HN.out _).mono ?_; rintro e w2 ⟨rfl, hb2⟩)
    go_ret
    exact ⟨rfl, on_below hb0 hb2⟩
  by_cases k2 : k = 2
  · subst k2
    rw [h2' rfl]
    have hl1 := itoa_len f2
    have hl2 := itoa_len f3
    obtain ⟨t1, ht1, hc1⟩ := tx_let [112, 101, 114, 99, 101, 110, 116, 32] (itoa p) (by simp only [List.length_cons, List.length_nil]; omega)
    obtain ⟨t2, ht2, hc2⟩ := tx_let ([112, 101, 114, 99, 101, 110, 116, 32] ++ itoa p) [32] (by simp only [List.length_append, List.length_cons, List.length_nil]; omega)
    obtain ⟨t3, ht3, hc3⟩ := tx_let ([112, 101, 114, 99, 101, 110, 116, 32] ++ itoa p ++ [32]) (itoa n) (by simp only [List.length_append, List.length_cons, List.length_nil]; omega)
    obtain ⟨t4, ht4, hc4⟩ := tx_let ([112, 101, 114, 99, 101, 110, 116, 32] ++ itoa p ++ [32] ++ itoa n) [10] (by simp only [List.length_append, List.length_cons, List.length_nil]; omega)
    have HP := Lib.hid (fun w => ref_num p f2 w)
    have HW := Lib.hid (fun w => ref_num n f3 w)
    clear h0' h1' h2' h3' f0 f1 f2 f3 f4 hl1 hl2
    rw [ht1] at hc2
    rw [ht2] at hc3
    rw [ht3] at hc4
    rw [ht4]
    clear ht1 ht2 ht3 ht4
    generalize bstr (itoa p) = A at *
    generalize bstr (itoa n) = B at *
    go_enter Tryz.func90, Tryz.ntmps90
    go_wp2
    generalize w.alloc (.cells #[.int .i64 2, .int .i64 b, .int .i64 p, .int .i64 n, .int .i64 s] 59) = w1 at *
    go_cut [2] (fun v wx => v = .string t4 ∧ Below w1.heap.size w1 wx)
    case first =>
      go_region_with (first | (go_at_call 17; first | ((with_reducible refine (HP.out _).mono ?_); rintro e wp ⟨rfl, hbp⟩; have d2p := cell_stays hbp (by first | exact c2 | exact d2q); have d3p := cell_stays hbp (by first | exact c3 | exact d3q)) | ((with_reducible refine (HW.out _).mono ?_); rintro e wq ⟨rfl, hbq⟩; have d2q := cell_stays hbq (by first | exact c2 | exact d2p); have d3q := cell_stays hbq (by first | exact c3 | exact d3p))))
      all_goals (go_wp2_with fail; go_meet; first | exact ⟨rfl, on_below (un_drew hbp) hbq⟩ | exact ⟨rfl, on_below hbp hbq⟩ | exact ⟨rfl, on_below (un_drew hbq) hbp⟩ | exact ⟨rfl, on_below hbq hbp⟩ | exact ⟨rfl, on_below (un_drew hbp) (un_drew hbq)⟩ | exact ⟨rfl, on_below hbp (un_drew hbq)⟩ | exact ⟨rfl, on_below (un_drew hbq) (un_drew hbp)⟩ | exact ⟨rfl, on_below hbq (un_drew hbp)⟩)
    case rest =>
      obtain ⟨rfl, hb2⟩ := hcut
      go_wp2
      go_ret
      exact ⟨rfl, on_below hb0 hb2⟩
  rw [h3' k0 k1 k2]
  clear h0' h1' h2' h3' f0 f1 f2 f3 f4
  go_enter Tryz.func90, Tryz.ntmps90
  go_wp2
  go_ret
  exact ⟨rfl, hb0⟩
/-- What is written behind the first k rules. -/
def ptext (c : Cfg) (k : Nat) : List UInt8 := hline c.timeout c.drift ++ [10] ++ ((c.rules.take k).map rule).flatten
theorem ptext_all (c : Cfg) : ptext c c.rules.length = print c := by unfold ptext print; rw [List.take_length]
theorem ptext_next (c : Cfg) (k : Nat) (hk : k < c.rules.length) : ptext c (k + 1) = ptext c k ++ rule c.rules[k] := by
  unfold ptext
  rw [List.take_succ_eq_append_getElem hk]
  simp only [List.map_append, List.map_cons, List.map_nil, List.flatten_append, List.flatten_cons, List.flatten_nil, List.append_nil, List.append_assoc]
theorem rule_len (r : Rul) (hf : r.Fits) : (rule r).length ≤ 67 := by
  obtain ⟨f0, f1, f2, f3, f4⟩ := hf
  by_cases k0 : r.kind = 0
  · rw [rule0r r k0]; have := itoa_len f1; simp; omega
  by_cases k1 : r.kind = 1
  · rw [rule1r r k1]; have := itoa_len f4; simp; omega
  by_cases k2 : r.kind = 2
  · rw [rule2r r k2]; have h1 := itoa_len f2; have h2 := itoa_len f3; simp; omega
  rw [rule3r r k0 k1 k2]; simp
theorem hline_len (t d : Int) (ht : in64 t) (hd : in64 d) : (hline t d).length ≤ 66 := by
  have := lineOf_len tSource [t, d] (by decide) (by simpa using ⟨ht, hd⟩)
  simpa [hline] using this
theorem ptext_len (c : Cfg) (hf : c.Fits) : ∀ k, k ≤ c.rules.length → (ptext c k).length ≤ (k + 1) * 67 := by
  intro k
  induction k with
  | zero => intro _; have := hline_len c.timeout c.drift hf.timeout hf.drift; simp [ptext]; omega
  | succ k ih =>
    intro hk
    rw [ptext_next c k (by omega), List.length_append]
    have h1 := ih (by omega)
    have h2 := rule_len c.rules[k] (hf.rules _ (List.getElem_mem _))
    omega

theorem hline_eq (t d : Int) : hline t d ++ [10] = [115, 111, 117, 114, 99, 101, 32] ++ itoa t ++ [32] ++ itoa d ++ [10] := by
  simp [hline, lineOf, glue]

set_option maxRecDepth 100000 in
set_option maxHeartbeats 4000000 in
theorem ref_print (c : Cfg) (hf : c.Fits) (a : Option Addr) (n cap : Nat) (w : World) (hr : RowU w a c.rules) (hn : n = c.rules.length) (hl : n ≤ 1000) :
    Calls Tryz.prog 43 #[.agg #[.slice a n cap, .int .i64 c.timeout, .int .i64 c.drift]] w fun e w' => e = .returned (.string (bstr (print c))) ∧ Below w.heap.size w w' := by
  have hP0 : ptext c 0 = [115, 111, 117, 114, 99, 101, 32] ++ itoa c.timeout ++ [32] ++ itoa c.drift ++ [10] := by rw [← hline_eq]; simp [ptext]
  have hPn : ptext c n = print c := by rw [hn, ptext_all]
  rw [← hPn]
  have hl1 := itoa_len hf.timeout
  have hl2 := itoa_len hf.drift
  obtain ⟨t1, ht1, hc1⟩ := tx_let [115, 111, 117, 114, 99, 101, 32] (itoa c.timeout) (by simp only [List.length_cons, List.length_nil]; omega)
  obtain ⟨t2, ht2, hc2⟩ := tx_let ([115, 111, 117, 114, 99, 101, 32] ++ itoa c.timeout) [32] (by simp only [List.length_append, List.length_cons, List.length_nil]; omega)
  obtain ⟨t3, ht3, hc3⟩ := tx_let ([115, 111, 117, 114, 99, 101, 32] ++ itoa c.timeout ++ [32]) (itoa c.drift) (by simp only [List.length_append, List.length_cons, List.length_nil]; omega)
  obtain ⟨t4, ht4, hc4⟩ := tx_let ([115, 111, 117, 114, 99, 101, 32] ++ itoa c.timeout ++ [32] ++ itoa c.drift) [10] (by simp only [List.length_append, List.length_cons, List.length_nil]; omega)
  rw [ht1] at hc2
  rw [ht2] at hc3
  rw [ht3] at hc4
  rw [← hP0] at ht4
  have HP := Lib.hid (fun w => ref_num c.timeout hf.timeout w)
  have HW := Lib.hid (fun w => ref_num c.drift hf.drift w)
  have HPL := Lib.hid (fun k hk => ptext_len c hf k hk)
  have HPN := Lib.hid (fun k hk => ptext_next c k hk)
  have HF := Lib.hid hf.rules
  have HT4 := Lib.hid ht4
  have HN := Lib.hid hn
  clear hP0 hPn hf hn ht1 ht2 ht3 ht4 hl1 hl2
  generalize c.timeout = t at *
  generalize c.drift = d at *
  generalize bstr (itoa t) = A at *
  generalize bstr (itoa d) = B at *
  have hA := At.alloc w [.slice a n cap, .int .i64 t, .int .i64 d] 24
  have hb0 : Below w.heap.size w (w.alloc (.cells #[.slice a n cap, .int .i64 t, .int .i64 d] 24)) := (Below.refl _ _).alloc (Nat.le_refl _) _
  obtain ⟨hg, c0, z0, c1, z1, c2, z2⟩ := hA.three
  go_enter Tryz.func43, Tryz.ntmps43
  go_wp2
  generalize w.alloc (.cells #[.slice a n cap, .int .i64 t, .int .i64 d] 24) = w1 at *
  go_cut [3] (fun v wx => v = .string t4 ∧ Below w1.heap.size w1 wx)
  case first =>
    go_region_with (first | (go_at_call 17; first | ((with_reducible refine (HP.out _).mono ?_); rintro e wp ⟨rfl, hbp⟩; have d1p := cell_stays hbp (by first | exact c1 | exact d1q); have d2p := cell_stays hbp (by first | exact c2 | exact d2q)) | ((with_reducible refine (HW.out _).mono ?_); rintro e wq ⟨rfl, hbq⟩; have d1q := cell_stays hbq (by first | exact c1 | exact d1p); have d2q := cell_stays hbq (by first | exact c2 | exact d2p))))
    all_goals (go_wp2_with fail; go_meet; first | exact ⟨rfl, on_below (un_drew hbp) hbq⟩ | exact ⟨rfl, on_below hbp hbq⟩ | exact ⟨rfl, on_below (un_drew hbq) hbp⟩ | exact ⟨rfl, on_below hbq hbp⟩ | exact ⟨rfl, on_below (un_drew hbp) (un_drew hbq)⟩ | exact ⟨rfl, on_below hbp (un_drew hbq)⟩ | exact ⟨rfl, on_below (un_drew hbq) (un_drew hbp)⟩ | exact ⟨rfl, on_below hbq (un_drew hbp)⟩)
  case rest =>
    obtain ⟨rfl, hb2⟩ := hcut
    have hA2 := hA.on hb2
    have hb3 := on_below hb0 hb2
    obtain rfl := HT4.out
    clear hc1 hc2 hc3 hc4 c0 c1 c2 z0 z1 z2
    go_wp2
    go_loopw [3, 4] (fun v i wr => ∃ k : Nat, k ≤ n ∧ i = .int .i64 k ∧ v = .string (bstr (ptext c k)) ∧ At wr w.heap.size [.slice a n cap, .int .i64 t, .int .i64 d] ∧ Below w.heap.size w wr) (fun _ i _ => n - (intOf i).toNat)
    case atStart => exact ⟨0, Nat.zero_le _, rfl, rfl, hA2, hb3⟩
    case round =>
      clear hA2 hb3 hb2 hA hb0
      obtain ⟨k, hk, rfl, rfl, hAt, hb⟩ := hrel
      obtain ⟨hg', c0, z0, c1, z1, c2, z2⟩ := hAt.three
      by_cases hlt : k < n
      · have hk1 : k < c.rules.length := by rw [← HN.out]; exact hlt
        have hrow := hr.below hb
        obtain ⟨b0, off, rfl, -, -⟩ := hrow.at_ k hk1
        obtain ⟨hbl, r0, r1, r2, r3, r4⟩ := RowU.cells hrow k hk1
        have hx := HF.out _ (List.getElem_mem hk1)
        have hpn := HPN.out k hk1
        obtain ⟨t9, ht9, hc9⟩ := tx_let (ptext c k) (rule c.rules[k]) (by have h1 := HPL.out k (by omega); have h2 := rule_len _ hx; omega)
        rw [← hpn] at ht9
        have HR := Lib.hid (fun w => ref_rule c.rules[k] hx w)
        have HT9 := Lib.hid ht9
        clear hrow hpn ht9 hx
        generalize hrk : c.rules[k] = r at *
        clear hrk hk1
        obtain ⟨rk, rb, rp, rn, rs⟩ := r
        simp only at r0 r1 r2 r3 r4
        have HR : Hid (∀ w, Calls Tryz.prog 90 #[.agg #[.int .i64 rk, .int .i64 rb, .int .i64 rp, .int .i64 rn, .int .i64 rs]] w fun e w' => e = .returned (.string (bstr (rule ⟨rk, rb, rp, rn, rs⟩))) ∧ Below w.heap.size w w') := HR
        generalize bstr (rule ⟨rk, rb, rp, rn, rs⟩) = RT at *
        generalize bstr (ptext c k) = PT at *
        go_wp2_with (go_at_call 90; refine (HR.out _).mono ?_; rintro e w3 ⟨rfl, hb4⟩)
        go_roundw
        case rel => exact ⟨k + 1, by omega, by go_num, (by rw [HT9.out]), hAt.on hb4, on_below hb hb4⟩
        case measure => simp [intOf]; omega
      · obtain rfl : k = n := by omega
        go_wp2
        go_ret
        exact ⟨rfl, hb⟩
end Go.Proofs.YtmimfkhkilijcaaGreatDoor

/- Which rules can be told; two sources that are one; the error of a source. -/
namespace Go.Proofs.YtmimfkhkilijcaaGreatDoor
set_option maxRecDepth 4000
open Go.ChangeShapes Go.WideShapes Go.ChangeAt Go.RowKit
open PWord
set_option linter.unusedVariables false
set_option linter.unusedSimpArgs false

set_option maxRecDepth 100000 in
set_option maxHeartbeats 4000000 in
theorem ref_only (r : Rul) (o : Bool) (ho : only r = o) (w : World) :
    Calls Tryz.prog 26 #[r.val] w fun e w' => e = .returned (.bool o) ∧ Below w.heap.size w w' := by
  have HO := Lib.hid ho
  clear ho
  obtain ⟨k, b, p, n, s⟩ := r
  unfold Rul.val
  simp only at *
  have hA := At.alloc w [.int .i64 k, .int .i64 b, .int .i64 p, .int .i64 n, .int .i64 s] 59
  have hb0 : Below w.heap.size w (w.alloc (.cells #[.int .i64 k, .int .i64 b, .int .i64 p, .int .i64 n, .int .i64 s] 59)) := (Below.refl _ _).alloc (Nat.le_refl _) _
  obtain ⟨hg, c0, z0, c1, z1, c2, z2, c3, z3, c4, z4⟩ := hA.five
  clear hA z0 z1 z2 z3 z4
  by_cases k0 : k = 0
  · subst k0
    by_cases e1 : s = 0
    · by_cases e2 : p = 0
      · by_cases e3 : n = 0
        · obtain rfl : o = true := by rw [← HO.out]; simp [only, e1, e2, e3]
          go_enter Tryz.func26, Tryz.ntmps26
          go_wp2
          go_ret
          exact ⟨by first | rfl | (refine ret_bool ?_; simp_all), (Below.refl _ _).alloc (Nat.le_refl _) _⟩
        · obtain rfl : o = false := by rw [← HO.out]; simp [only, e3]
          go_enter Tryz.func26, Tryz.ntmps26
          go_wp2
          go_ret
          exact ⟨by first | rfl | (refine ret_bool ?_; simp_all), (Below.refl _ _).alloc (Nat.le_refl _) _⟩
      · obtain rfl : o = false := by rw [← HO.out]; simp [only, e2]
        go_enter Tryz.func26, Tryz.ntmps26
        go_wp2
        go_ret
        exact ⟨by first | rfl | (refine ret_bool ?_; simp_all), (Below.refl _ _).alloc (Nat.le_refl _) _⟩
    · obtain rfl : o = false := by rw [← HO.out]; simp [only, e1]
      go_enter Tryz.func26, Tryz.ntmps26
      go_wp2
      go_ret
      exact ⟨by first | rfl | (refine ret_bool ?_; simp_all), (Below.refl _ _).alloc (Nat.le_refl _) _⟩
  by_cases k1 : k = 1
  · subst k1
    by_cases e1 : b = 0
    · by_cases e2 : p = 0
      · by_cases e3 : n = 0
        · obtain rfl : o = true := by rw [← HO.out]; simp [only, e1, e2, e3]
          go_enter Tryz.func26, Tryz.ntmps26
          go_wp2
          go_ret
          exact ⟨by first | rfl | (refine ret_bool ?_; simp_all), (Below.refl _ _).alloc (Nat.le_refl _) _⟩
        · obtain rfl : o = false := by rw [← HO.out]; simp [only, e3]
          go_enter Tryz.func26, Tryz.ntmps26
          go_wp2
          go_ret
          exact ⟨by first | rfl | (refine ret_bool ?_; simp_all), (Below.refl _ _).alloc (Nat.le_refl _) _⟩
      · obtain rfl : o = false := by rw [← HO.out]; simp [only, e2]
        go_enter Tryz.func26, Tryz.ntmps26
        go_wp2
        go_ret
        exact ⟨by first | rfl | (refine ret_bool ?_; simp_all), (Below.refl _ _).alloc (Nat.le_refl _) _⟩
    · obtain rfl : o = false := by rw [← HO.out]; simp [only, e1]
      go_enter Tryz.func26, Tryz.ntmps26
      go_wp2
      go_ret
      exact ⟨by first | rfl | (refine ret_bool ?_; simp_all), (Below.refl _ _).alloc (Nat.le_refl _) _⟩
  by_cases k2 : k = 2
  · subst k2
    by_cases e1 : b = 0
    · by_cases e2 : s = 0
      · obtain rfl : o = true := by rw [← HO.out]; simp [only, e1, e2]
        go_enter Tryz.func26, Tryz.ntmps26
        go_wp2
        go_ret
        exact ⟨by first | rfl | (refine ret_bool ?_; simp_all), (Below.refl _ _).alloc (Nat.le_refl _) _⟩
      · obtain rfl : o = false := by rw [← HO.out]; simp [only, e2]
        go_enter Tryz.func26, Tryz.ntmps26
        go_wp2
        go_ret
        exact ⟨by first | rfl | (refine ret_bool ?_; simp_all), (Below.refl _ _).alloc (Nat.le_refl _) _⟩
    · obtain rfl : o = false := by rw [← HO.out]; simp [only, e1]
      go_enter Tryz.func26, Tryz.ntmps26
      go_wp2
      go_ret
      exact ⟨by first | rfl | (refine ret_bool ?_; simp_all), (Below.refl _ _).alloc (Nat.le_refl _) _⟩
  obtain rfl : o = false := by rw [← HO.out]; simp [only, k0, k1, k2]
  go_enter Tryz.func26, Tryz.ntmps26
  go_wp2
  go_ret
  exact ⟨by first | rfl | (refine ret_bool ?_; simp_all), (Below.refl _ _).alloc (Nat.le_refl _) _⟩

set_option maxRecDepth 100000 in
set_option maxHeartbeats 4000000 in
/-- Two that are one. -/
theorem ref_same19 (rs : List Rul) (t d : Int) (a1 a2 : Option Addr) (n c1 c2 : Nat) (w : World) (h1 : RowU w a1 rs) (h2 : RowU w a2 rs) (hn : n = rs.length) (hl : n ≤ 10000) :
    Calls Tryz.prog 45 #[.agg #[.slice a1 n c1, .int .i64 t, .int .i64 d], .agg #[.slice a2 n c2, .int .i64 t, .int .i64 d]] w fun e w' => e = .returned (.bool true) ∧ Below w.heap.size w w' := by
  have HN := Lib.hid hn
  clear hn
  have hA := At.alloc w [.slice a1 n c1, .int .i64 t, .int .i64 d] 24
  have hb0 : Below w.heap.size w (w.alloc (.cells #[.slice a1 n c1, .int .i64 t, .int .i64 d] 24)) := (Below.refl _ _).alloc (Nat.le_refl _) _
  have hA1 := hA.on ((Below.refl _ _).alloc (Nat.le_refl _) (.cells #[.slice a2 n c2, .int .i64 t, .int .i64 d] 24))
  have hA2 := At.alloc (w.alloc (.cells #[.slice a1 n c1, .int .i64 t, .int .i64 d] 24)) [.slice a2 n c2, .int .i64 t, .int .i64 d] 24
  have hb2 := hb0.alloc (by simp) (.cells #[.slice a2 n c2, .int .i64 t, .int .i64 d] 24)
  rw [show (w.alloc (.cells #[.slice a1 n c1, .int .i64 t, .int .i64 d] 24)).heap.size = w.heap.size + 1 by simp] at hA2
  clear hA hb0
  go_enter Tryz.func45, Tryz.ntmps45
  go_wp2
  have hr1 := h1.below hb2
  have hr2 := h2.below hb2
  obtain ⟨hg1, c0, z0, q1, z1, q2, z2⟩ := hA1.three
  obtain ⟨hg2, d0, y0, s1, y1, s2, y2⟩ := hA2.three
  clear hA1 hA2 h1 h2 z0 z1 z2 y0 y1 y2 q1 q2 s1 s2
  generalize (w.alloc (.cells #[.slice a1 n c1, .int .i64 t, .int .i64 d] 24)).alloc (.cells #[.slice a2 n c2, .int .i64 t, .int .i64 d] 24) = w2 at *
  go_loopw [5] (fun i wr => ∃ k m : Nat, k ≤ n ∧ i = .int .i64 k ∧ wr = w2.drewN m) (fun i _ => n - (intOf i).toNat)
  case atStart => exact ⟨0, 0, Nat.zero_le _, rfl, rfl⟩
  case round =>
    obtain ⟨k, m, hk, rfl, rfl⟩ := hrel
    by_cases hlt : k < n
    · have hk1 : k < rs.length := by rw [← HN.out]; exact hlt
      obtain ⟨b1, o1, rfl, -, -⟩ := hr1.at_ k hk1
      obtain ⟨b2, o2, rfl, -, -⟩ := hr2.at_ k hk1
      obtain ⟨hbl1, p0, p1, p2, p3, p4⟩ := RowU.cells hr1 k hk1
      obtain ⟨hbl2, r0, r1, r2, r3, r4⟩ := RowU.cells hr2 k hk1
      clear hr1 hr2
      generalize rs[k] = r at *
      obtain ⟨rk, rb, rp, rn, rs'⟩ := r
      simp only at p0 p1 p2 p3 p4 r0 r1 r2 r3 r4
      clear hk1
      go_wp2
      go_region
      go_wp2
      go_roundw
      case rel => exact ⟨k + 1, m + 1, by omega, by go_num, rfl⟩
      case measure => simp [intOf]; omega
    · have hkn : k = n := by omega
      subst hkn
      go_wp2
      go_ret
      exact ⟨rfl, hb2.upd ((Upd.refl (fun _ => False) _).drewN m) hb2.size (fun _ _ h => h.elim)⟩

end Go.Proofs.YtmimfkhkilijcaaGreatDoor
