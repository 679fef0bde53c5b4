/- config: a source in words. -/
import Derived.Test.YtfgfjofbghfdpaaDoorConf6
import Derived.Test.YtfgfjofbghfdpaaDoorQBuild
import Derived.Test.YtfgfjofbghfdpaaDoorConf8
namespace Go.Proofs.YtfgfjofbghfdpaaDoor
set_option maxRecDepth 4000
open Go.ChangeShapes Go.WideShapes Go.ChangeAt Go.RowKit
open PWord
open Go.Lib (itoa)
set_option linter.unusedVariables false
set_option linter.unusedSimpArgs false

set_option maxRecDepth 100000 in
set_option maxHeartbeats 2000000 in
theorem cf_print (c : Cfg) (hf : c.Fits) (a : Option Addr) (n cap : Nat) (w : World) (he : EnvW w) (hnm : Names w) (hr : RowU w a c.rules) (hn : n = c.rules.length) (hl : n ≤ 1000) :
    Calls Tryd.prog 17 #[.agg #[.slice a n cap, .int .i64 c.timeout, .int .i64 c.drift]] w fun e w' => e = .returned (.string (bstr (print c))) ∧ Below w.heap.size w w' := by
  have hP0 : ptext c 0 = hline c.timeout c.drift ++ [10] := by simp [ptext]
  have hPn : ptext c n = print c := by rw [hn, ptext_all]
  rw [← hPn]
  have HPL := Lib.hid (fun k hk => ptext_len c hf k hk)
  have HPN := Lib.hid (fun k hk => ptext_next c k hk)
  have HF := Lib.hid hf.rules
  have ht := hf.timeout
  have hd := hf.drift
  have hh0 : Hid (∀ N w, EnvW w → w.cell? ⟨N, 0, none⟩ = some (.int .i64 c.timeout) → w.cell? ⟨N, 1, none⟩ = some (.int .i64 c.drift) → Calls Tryd.prog 37 #[.string ⟨#[115, 111, 117, 114, 99, 101]⟩, .slice (some ⟨N, 0, none⟩) 2 2] w fun e w' => e = .returned (.string (bstr (ptext c 0))) ∧ Below w.heap.size w w') :=
    Lib.hid (fun N w h1 h2 h3 => by rw [hP0]; exact line_two tSource c.timeout c.drift ht hd (by decide) N w h1 h2 h3)
  have HN := Lib.hid hn
  clear hP0 hPn hf hn ht hd
  have hA := At.alloc w [.slice a n cap, .int .i64 c.timeout, .int .i64 c.drift] 24
  have hb0 : Below w.heap.size w (w.alloc (.cells #[.slice a n cap, .int .i64 c.timeout, .int .i64 c.drift] 24)) := (Below.refl _ _).alloc (Nat.le_refl _) _
  generalize c.timeout = t at *
  generalize c.drift = d at *
  have hA := At.alloc w [.slice a n cap, .int .i64 t, .int .i64 d] 24
  have hb0 : Below w.heap.size w (w.alloc (.cells #[.slice a n cap, .int .i64 t, .int .i64 d] 24)) := (Below.refl _ _).alloc (Nat.le_refl _) _
  have hN1 : (w.alloc (.cells #[.slice a n cap, .int .i64 t, .int .i64 d] 24)).heap.size = w.heap.size + 1 := by simp
  have hN2 : ((w.alloc (.cells #[.slice a n cap, .int .i64 t, .int .i64 d] 24)).alloc (.cells #[.pointer none, .slice none 0 0] 70)).heap.size = w.heap.size + 1 + 1 := by simp
  have hbz := b_zero (w.alloc (.cells #[.slice a n cap, .int .i64 t, .int .i64 d] 24))
  rw [hN1] at hbz
  have hB3 : Below (w.alloc (.cells #[.slice a n cap, .int .i64 t, .int .i64 d] 24)).heap.size (w.alloc (.cells #[.slice a n cap, .int .i64 t, .int .i64 d] 24)) (((w.alloc (.cells #[.slice a n cap, .int .i64 t, .int .i64 d] 24)).alloc (.cells #[.pointer none, .slice none 0 0] 70)).alloc (.cells #[.int .i64 t, .int .i64 d] 3)) := ((Below.refl _ _).alloc (Nat.le_refl _) _).alloc (by simp) _
  have HE := Lib.hid ((he.on hb0).on hB3)
  have hC := (At.alloc ((w.alloc (.cells #[.slice a n cap, .int .i64 t, .int .i64 d] 24)).alloc (.cells #[.pointer none, .slice none 0 0] 70)) [.int .i64 t, .int .i64 d] 3).two
  rw [hN2] at hC
  have HC := Lib.hid hC
  have hbz2 := bld_on hbz ((Below.refl _ _).alloc (Nat.le_refl _) (.cells #[.int .i64 t, .int .i64 d] 3))
  have HWR := Lib.hid (fun w' h hB => b_write (w.heap.size + 1) (w.heap.size + 1) [] (bstr (ptext c 0)) w' h (by have h1 := HPL.out 0 (Nat.zero_le _); simp [ByteArray.size] at h1 ⊢; omega) hB)
  have hA3 := hA.on hB3
  have hb3' := on_below hb0 hB3
  have hsz3 : (w.heap.size + 1) ≤ (((w.alloc (.cells #[.slice a n cap, .int .i64 t, .int .i64 d] 24)).alloc (.cells #[.pointer none, .slice none 0 0] 70)).alloc (.cells #[.int .i64 t, .int .i64 d] 3)).heap.size := by simp
  have HA3 := Lib.hid hA3
  have HB3 := Lib.hid hb3'
  have HS3 := Lib.hid hsz3
  have HBZ := Lib.hid hbz2
  clear hC hN1 hN2 hb0 hA hbz hB3 hbz2 hA3 hb3' hsz3
  go_enter Tryd.func17, Tryd.ntmps17
  go_wp2_with (first | (go_at_call 37; (with_reducible refine (hh0.out _ _ HE.out HC.out.2.1 HC.out.2.2.2.1).mono ?_); rintro e w3 ⟨rfl, hb3⟩; have hbz3 := bld_on HBZ.out hb3; have hw3 : (w.heap.size + 1) ≤ w3.heap.size := Nat.le_trans HS3.out hb3.size) | (go_at_call 38; (with_reducible refine (HWR.out _ hbz3 hw3).mono ?_); rintro e w4 ⟨rfl, hbl4, hb4, -⟩; have hA4 := (HA3.out.on hb3).below hb4 (Nat.lt_succ_self _); obtain ⟨hg, c0, z0, c1, z1, c2, z2⟩ := hA4.three; have hb5 : Below w.heap.size w w4 := (on_below HB3.out hb3).trans (hb4.mono (Nat.le_succ _))))
  clear HE HC HWR hh0 HBZ HA3 HB3 HS3 hA4
  have hw5 : (w.heap.size + 1) ≤ w4.heap.size := Nat.le_trans hw3 hb4.size
  have hbl5 : Bld (w.heap.size + 1) (w.heap.size + 1) (ptext c 0) w4 := hbl4
  clear hbl4
  go_loopw [16] (fun i wr => ∃ k : Nat, k ≤ n ∧ i = .int .i64 k ∧ Bld (w.heap.size + 1) (w.heap.size + 1) (ptext c k) wr ∧ (w.heap.size + 1) ≤ wr.heap.size ∧ Below w.heap.size w wr) (fun i _ => n - (intOf i).toNat)
  case atStart => exact ⟨0, Nat.zero_le _, rfl, hbl5, hw5, hb5⟩
  case round =>
    clear hbl5 hw5 hb5
    obtain ⟨k, hk, rfl, hbl, hsz, hb⟩ := hrel
    by_cases hlt : k < n
    · have hk1 : k < c.rules.length := by rw [← HN.out]; exact hlt
      have hrow := hr.below hb
      obtain ⟨b0, off, rfl, -, -⟩ := hrow.at_ k hk1
      obtain ⟨hb0, r0, r1, r2, r3, r4⟩ := RowU.cells hrow k hk1
      have hx := HF.out _ (List.getElem_mem hk1)
      have hpn := HPN.out k hk1
      have hlen : (ptext c k).length + (bstr (rule c.rules[k])).size ≤ 140737488355328 := by rw [tx_size]; have h1 := HPL.out k (by omega); have h2 := rule_len _ hx; omega
      have HW := Lib.hid (fun w' h hB => b_write (w.heap.size + 1) (w.heap.size + 1) (ptext c k) (bstr (rule c.rules[k])) w' h hlen hB)
      rw [show (bstr (rule c.rules[k])).data.toList = rule c.rules[k] from rfl, ← hpn] at HW
      have HR := Lib.hid (fun w he hn => cf_rule c.rules[k] hx w he hn)
      clear hrow hpn hx hlen
      generalize hrk : c.rules[k] = r at *
      clear hrk hk1
      obtain ⟨rk, rb, rp, rn, rs⟩ := r
      simp only at r0 r1 r2 r3 r4
      have HR : Hid (∀ w, EnvW w → Names w → Calls Tryd.prog 14 #[.agg #[.int .i64 rk, .int .i64 rb, .int .i64 rp, .int .i64 rn, .int .i64 rs]] w fun e w' => e = .returned (.string (bstr (rule ⟨rk, rb, rp, rn, rs⟩))) ∧ Below w.heap.size w w') := HR
      generalize bstr (rule ⟨rk, rb, rp, rn, rs⟩) = RT at *
      have hbx := hb.alloc (Nat.le_trans (Nat.le_refl _) hb.size) (.cells #[.int .i64 rk, .int .i64 rb, .int .i64 rp, .int .i64 rn, .int .i64 rs] 31)
      have heX := he.on hbx
      have hnX := hnm.on hbx
      have hblX := bld_on hbl ((Below.refl _ _).alloc (Nat.le_refl _) (.cells #[.int .i64 rk, .int .i64 rb, .int .i64 rp, .int .i64 rn, .int .i64 rs] 31))
      go_wp2_with (first | (go_at_call 14; (with_reducible refine (HR.out _ heX hnX).mono ?_); rintro e w6 ⟨rfl, hb6⟩; have hbl6 := bld_on hblX hb6; have hw6 : (w.heap.size + 1) ≤ w6.heap.size := Nat.le_trans hsz (by have := hb6.size; simp at this; omega)) | (go_at_call 38; (with_reducible refine (HW.out _ hbl6 hw6).mono ?_); rintro e w7 ⟨rfl, hbl7, hb7, -⟩; have hb8 : Below w.heap.size w w7 := (on_below hbx hb6).trans (hb7.mono (Nat.le_succ _))))
      go_roundw
      case rel => exact ⟨k + 1, by omega, by go_num, hbl7, Nat.le_trans hw6 hb7.size, hb8⟩
      case measure => simp [intOf]; omega
    · obtain rfl : k = n := by omega
      have HT := Lib.hid (b_text (w.heap.size + 1) (w.heap.size + 1) (ptext c k) wr hbl hsz)
      go_wp2_with (go_at_call 39; (with_reducible refine HT.out.mono ?_); rintro e w6 ⟨rfl, hb6⟩)
      go_ret
      exact ⟨rfl, hb.trans (hb6.mono (Nat.le_succ _))⟩
end Go.Proofs.YtfgfjofbghfdpaaDoor
