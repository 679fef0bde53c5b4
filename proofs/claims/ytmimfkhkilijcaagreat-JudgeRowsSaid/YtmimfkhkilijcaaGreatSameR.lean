/- The document's question whether two rows of records are one. -/
import Derived.Test.YtmimfkhkilijcaaGreatKRec
import Derived.WalkKit
import Derived.ProofKit
import Derived.OpenShut
import Derived.Handy
import Derived.BigQuiet
import Derived.Deep.QuietTactic
import Derived.IntWalk
import Derived.Outline
import Derived.Lib.Hide
import Derived.WalkLawsBesides
import Derived.Deep.RegionWith
import Derived.Deep.DeepCutAuto
namespace Go.Proofs.YtmimfkhkilijcaaGreat
set_option maxRecDepth 4000
open Go.ChangeShapes Go.WideShapes Go.ChangeAt Go.RowKit
open PFrame
set_option linter.unusedVariables false

set_option maxRecDepth 100000 in
set_option maxHeartbeats 1000000 in
theorem ref_sameR (a b : Option Addr) (c d : Nat) (xs ys : List R) (w : World) (hx : RowR w a xs) (hy : RowR w b ys) (r : Bool) (hr : r = decide (xs = ys)) :
    Calls Tryz.prog 26 #[.slice a xs.length c, .slice b ys.length d] w fun e w' => e = .returned (.bool r) ∧ ∃ n, w' = w.drewN n := by
  have hl1 := hx.len
  have hl2 := hy.len
  unfold maxLen at hl1 hl2
  have HR := Lib.hid hr
  clear hr
  obtain ⟨n1, hn1⟩ : ∃ n, xs.length = n := ⟨_, rfl⟩
  obtain ⟨n2, hn2⟩ : ∃ n, ys.length = n := ⟨_, rfl⟩
  rw [hn1] at hl1 ⊢
  rw [hn2] at hl2 ⊢
  have HN1 := Lib.hid hn1
  have HN2 := Lib.hid hn2
  clear hn1 hn2
  by_cases hlen : n1 = n2
  · subst hlen
    go_enter Tryz.func26, Tryz.ntmps26
    go_wp2
    go_loopw [5] (fun i wr => ∃ k n : Nat, k ≤ n1 ∧ i = .int .i64 k ∧ Hid (xs.take k = ys.take k) ∧ wr = w.drewN n) (fun i _ => n1 - (intOf i).toNat)
    case atStart => exact ⟨0, 0, Nat.zero_le _, rfl, rfl, rfl⟩
    case round =>
      obtain ⟨k, n, hk, rfl, HT, rfl⟩ := hrel
      by_cases hlt : k < n1
      · have hk1 : k < xs.length := by rw [HN1.out]; exact hlt
        have hk2 : k < ys.length := by rw [HN2.out]; exact hlt
        obtain ⟨b1, o1, rfl, hb1, p0, p1, p2⟩ := hx.at_ k hk1
        obtain ⟨b2, o2, rfl, hb2, q0, q1, q2⟩ := hy.at_ k hk2
        have HE : Hid (xs.take (k + 1) = xs.take k ++ [xs[k]]) := List.take_succ_eq_append_getElem hk1
        have HE2 : Hid (ys.take (k + 1) = ys.take k ++ [ys[k]]) := List.take_succ_eq_append_getElem hk2
        generalize hxk : xs[k] = x at *
        generalize hyk : ys[k] = y at *
        clear hxk hyk hk1 hk2
        have hfalse : x ≠ y → r = false := by
          intro hne
          rw [HR.out, decide_eq_false_iff_not]
          intro he
          have h1 := HE.out
          rw [he, HE2.out] at h1
          exact hne (by simpa using h1.symm)
        have HFA := Lib.hid hfalse
        have HTR : Hid (x = y → xs.take (k + 1) = ys.take (k + 1)) := fun h => by rw [HE.out, HE2.out, HT.out, h]
        clear hfalse
        obtain ⟨k1, t1, x1⟩ := x
        obtain ⟨k2, t2, x2⟩ := y
        simp only at p0 p1 p2 q0 q1 q2
        by_cases e1 : k1 = k2
        · by_cases e2 : t1 = t2
          · by_cases e3 : x1 = x2
            · subst e1 e2 e3
              go_wp2
              go_region
              go_wp2
              go_roundw
              case rel => exact ⟨k + 1, n + 1, by omega, by go_num, HTR.out (by simp), rfl⟩
              case measure => simp [intOf]; omega
            · have hr0 := HFA.out (fun h => e3 (by simp at h; exact h.2.2))
              subst e1 e2
              go_wp2
              go_region
              go_wp2
              go_ret
              exact ⟨ret_bool hr0.symm, n + 1, rfl⟩
          · have hr0 := HFA.out (fun h => e2 (by simp at h; exact h.2.1))
            subst e1
            go_wp2
            go_region
            go_wp2
            go_ret
            exact ⟨ret_bool hr0.symm, n + 1, rfl⟩
        · have hr0 := HFA.out (fun h => e1 (by simp at h; exact h.1))
          go_wp2
          go_region
          go_wp2
          go_ret
          exact ⟨ret_bool hr0.symm, n + 1, rfl⟩
      · have hr1 : r = true := by
          rw [HR.out, decide_eq_true_iff]
          have h := HT.out
          rw [List.take_of_length_le (by have := HN1.out; omega), List.take_of_length_le (by have := HN2.out; omega)] at h
          exact h
        go_wp2
        go_ret
        exact ⟨ret_bool hr1.symm, n, rfl⟩
  · have hr0 : r = false := by
      rw [HR.out, decide_eq_false_iff_not]
      intro h
      exact hlen (by rw [← HN1.out, ← HN2.out, h])
    have hne : ((n1 : Int) == n2) = false := by simp; omega
    go_enter Tryz.func26, Tryz.ntmps26
    go_wp2
    go_ret
    exact ⟨ret_bool hr0.symm, 0, rfl⟩
end Go.Proofs.YtmimfkhkilijcaaGreat
