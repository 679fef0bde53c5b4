/- The document's own digits of a number. -/
import Derived.Test.YtfgfjofbghfdpaaDoorKBase
import Derived.Test.YtfgfjofbghfdpaaDoorCut
import Derived.Test.YtfgfjofbghfdpaaDoorWordPlain2
import Derived.WalkKit
import Derived.ProofKit
import Derived.OpenShut
import Derived.Handy
import Derived.BigQuiet
import Derived.Deep.QuietTactic
import Derived.IntWalk
import Derived.Outline
import Derived.Lib.Hide
import Derived.WalkLawsBesides
import Derived.Deep.RegionWith
import Derived.Deep.RegionHeld3
namespace Go.Proofs.YtfgfjofbghfdpaaDoor
set_option maxRecDepth 4000
open Go.ChangeShapes Go.WideShapes Go.ChangeAt Go.RowKit
open PWord
open Go.Lib (itoa decDigits)
set_option linter.unusedVariables false

theorem tx_size (l : List UInt8) : (bstr l).size = l.length := by simp [ByteArray.size]
theorem tx_cat (a b : List UInt8) : bstr a ++ bstr b = bstr (a ++ b) := by
  apply ByteArray.ext
  simp
theorem tx_run (w : World) (a b : List UInt8) (h : a.length + b.length ≤ 9223372036854775807) : (Op.stringOp .add (bstr a) (bstr b)).run Tryd.prog w = .ok (.string (bstr (a ++ b))) w :=
  cat_run w _ _ _ (by rw [tx_size, tx_size]; exact h) (tx_cat a b)

/-- One byte, newly laid, as a text. -/
theorem byte_text (c : Nat) (hc : c < 256) (w : World) (N : Nat) (hN : w.heap.size = N) :
    (convert 68 9 (.slice (some ⟨N, 0, none⟩) 1 1)).run Tryd.prog (w.alloc (.cells #[.int .u8 (c : Int)] 5)) = .ok (.string (bstr [UInt8.ofNat c])) (w.alloc (.cells #[.int .u8 (c : Int)] 5)) := by
  subst hN
  have e : (UInt8.ofNat c).toNat = c := by rw [UInt8.toNat_ofNat']; omega
  have h := Sl.made (B := w.heap.size) w #[.int .u8 (c : Int)] 5 1 1 1 (Nat.le_refl _) (Nat.le_refl _) (by decide) (by simp)
  exact sl_string (n := 1) (l := [UInt8.ofNat c]) (by simpa [bv, e] using h) 68 9 5 Tryd.underlying68 Tryd.underlying5 Tryd.underlying9 (B := w.heap.size)

theorem itoa_low {u : Nat} (h : u < 10) : itoa (-(u : Int)) = if u = 0 then [48] else [45, UInt8.ofNat (48 + u)] := by
  by_cases h0 : u = 0
  · subst h0
    rw [if_pos rfl]
    show itoa (0 : Nat) = _
    rw [Go.Lib.itoa_nonneg, Go.Lib.decDigits_one (by omega)]
    rfl
  · rw [if_neg h0, Go.Lib.itoa_neg u (by omega), Go.Lib.decDigits_one h]

set_option maxRecDepth 100000 in
set_option maxHeartbeats 1000000 in
/-- Numbers that aren't below 0. -/
theorem ref_num_up (n : Nat) : ∀ (w : World), n < 9223372036854775808 →
    Calls Tryd.prog 22 #[.int .i64 n] w fun e w' => e = .returned (.string (bstr (itoa n))) ∧ Below w.heap.size w w' := by
  induction n using Nat.strongRecOn with
  | _ n ih =>
    intro w hn
    obtain ⟨d, hd⟩ : ∃ d, n % 10 = d := ⟨_, rfl⟩
    have hd10 : d < 10 := by omega
    have hdi : (n : Int).tmod 10 = (d : Int) := by rw [Int.tmod_eq_emod_of_nonneg (by omega)]; omega
    have hdi2 : (n : Int) % 10 = (d : Int) := by omega
    obtain ⟨c, hce⟩ : ∃ c, 48 + d = c := ⟨_, rfl⟩
    have kc := byte_text c (by omega) w w.heap.size rfl
    have hb0 : Below w.heap.size w (w.alloc (.cells #[.int .u8 (c : Int)] 5)) := (Below.refl _ _).alloc (Nat.le_refl _) _
    have HB0 := Lib.hid hb0
    clear hb0
    obtain ⟨q, hqn⟩ : ∃ q, n / 10 = q := ⟨_, rfl⟩
    have hq : (n : Int) / 10 = (q : Int) := by omega
    have hq2 : (n : Int).tdiv 10 = (q : Int) := by rw [Int.tdiv_eq_ediv_of_nonneg (by omega)]; exact hq
    have e1 : 48 + (d : Int) = (c : Int) := by omega
    have e3 : IntKind.u8.wrap (c : Int) = (c : Int) := by rw [IntKind.wrap_u8]; omega
    have h0 : ¬ (n : Int) < 0 := by omega
    rw [Go.Lib.itoa_nonneg]
    by_cases h10 : n < 10
    · have hx : decDigits n = [UInt8.ofNat c] := by rw [Go.Lib.decDigits_one h10]; congr 2; omega
      rw [hx]
      have h10' : (n : Int) < 10 := by omega
      clear hx ih hq hq2 h10 hn hd hqn hce
      go_enter Tryd.func22, Tryd.ntmps22
      go_wp2
      go_ret
      exact ⟨rfl, HB0.out⟩
    · have hx : decDigits n = decDigits q ++ [UInt8.ofNat c] := by
        rw [decDigits, dif_neg h10, hqn, hd, hce]
      rw [hx]
      have hl := itoa_len (n := (q : Int)) ⟨by omega, by omega⟩
      rw [Go.Lib.itoa_nonneg] at hl
      have hcat := fun w => tx_run w (decDigits q) [UInt8.ofNat c] (by simp only [List.length_cons, List.length_nil]; omega)
      have hrec := fun w => ih q (by omega) w (by omega)
      have HREC := Lib.hid hrec
      have h10' : ¬ (n : Int) < 10 := by omega
      have hnI : (n : Int) < 9223372036854775808 := by omega
      rw [Go.Lib.itoa_nonneg] at HREC
      clear hx hrec ih h10 hn hd hqn hce hl
      generalize decDigits q = r at *
      go_enter Tryd.func22, Tryd.ntmps22
      go_wp2_with (first | (go_at_call 22; refine (HREC.out _).mono ?_; rintro e w2 ⟨rfl, hb2⟩))
      go_ret
      exact ⟨rfl, on_below HB0.out hb2⟩

set_option maxRecDepth 100000 in
set_option maxHeartbeats 1000000 in
/-- Numbers below 0. -/
theorem ref_num_down (u : Nat) : ∀ (w : World), 1 ≤ u → u ≤ 9223372036854775808 →
    Calls Tryd.prog 22 #[.int .i64 (-(u : Int))] w fun e w' => e = .returned (.string (bstr (itoa (-(u : Int))))) ∧ Below w.heap.size w w' := by
  induction u using Nat.strongRecOn with
  | _ u ih =>
    intro w h1 hn
    obtain ⟨d, hd⟩ : ∃ d, u % 10 = d := ⟨_, rfl⟩
    have hd10 : d < 10 := by omega
    obtain ⟨c, hce⟩ : ∃ c, 48 + d = c := ⟨_, rfl⟩
    have kc := byte_text c (by omega) w w.heap.size rfl
    have hb0 : Below w.heap.size w (w.alloc (.cells #[.int .u8 (c : Int)] 5)) := (Below.refl _ _).alloc (Nat.le_refl _) _
    have HB0 := Lib.hid hb0
    clear hb0
    obtain ⟨q, hqn⟩ : ∃ q, u / 10 = q := ⟨_, rfl⟩
    obtain ⟨n, hne⟩ : ∃ n : Int, -(u : Int) = n := ⟨_, rfl⟩
    have hdi : n.tmod 10 = -(d : Int) := by rw [← hne, Int.neg_tmod, Int.tmod_eq_emod_of_nonneg (by omega)]; omega
    obtain ⟨m, hme⟩ : ∃ m : Int, -(q : Int) = m := ⟨_, rfl⟩
    have hq2 : n.tdiv 10 = m := by rw [← hne, Int.neg_tdiv, Int.tdiv_eq_ediv_of_nonneg (by omega)]; omega
    have e1 : 48 + (d : Int) = (c : Int) := by omega
    have e2 : 48 - -(d : Int) = (c : Int) := by omega
    have e3 : IntKind.u8.wrap (c : Int) = (c : Int) := by rw [IntKind.wrap_u8]; omega
    have h0 : n < 0 := by omega
    have hnl : -9223372036854775808 ≤ n := by omega
    rw [Go.Lib.itoa_neg u h1, hne]
    by_cases h10 : u < 10
    · have hx : decDigits u = [UInt8.ofNat c] := by rw [Go.Lib.decDigits_one h10]; congr 2; omega
      rw [hx]
      have h10' : -10 < n := by omega
      have hcat := fun w => tx_run w [45] [UInt8.ofNat c] (by simp only [List.length_cons, List.length_nil]; omega)
      clear hx ih hq2 h10 hn hd hqn hce hne
      go_enter Tryd.func22, Tryd.ntmps22
      go_wp2
      go_ret
      exact ⟨rfl, HB0.out⟩
    · have hx : decDigits u = decDigits q ++ [UInt8.ofNat c] := by
        rw [decDigits, dif_neg h10, hqn, hd, hce]
      rw [hx]
      have hq1 : 1 ≤ q := by omega
      have hl := itoa_len (n := -(q : Int)) ⟨by omega, by omega⟩
      rw [Go.Lib.itoa_neg q hq1] at hl
      have hcat := fun w => tx_run w (45 :: decDigits q) [UInt8.ofNat c] (by simp only [List.length_cons, List.length_nil] at hl ⊢; omega)
      have hrec := fun w => ih q (by omega) w hq1 (by omega)
      rw [Go.Lib.itoa_neg q hq1, hme] at hrec
      have HREC := Lib.hid hrec
      have h10' : ¬ -10 < n := by omega
      have hm1 : -9223372036854775808 ≤ m := by omega
      have hm2 : m ≤ 9223372036854775807 := by omega
      clear hx hrec ih h10 hn hd hqn hce hl hne hme
      generalize decDigits q = r at *
      go_enter Tryd.func22, Tryd.ntmps22
      go_wp2_with (first | (go_at_call 22; refine (HREC.out _).mono ?_; rintro e w2 ⟨rfl, hb2⟩))
      go_ret
      exact ⟨rfl, on_below HB0.out hb2⟩

/-- The document's digits. -/
theorem ref_num (n : Int) (hn : in64 n) (w : World) : Calls Tryd.prog 22 #[.int .i64 n] w fun e w' => e = .returned (.string (bstr (itoa n))) ∧ Below w.heap.size w w' := by
  obtain ⟨h0, h1⟩ := hn
  by_cases h : 0 ≤ n
  · obtain ⟨u, rfl⟩ : ∃ u : Nat, n = u := ⟨n.toNat, by omega⟩
    exact ref_num_up u w (by omega)
  · obtain ⟨u, rfl⟩ : ∃ u : Nat, n = -(u : Int) := ⟨n.natAbs, by omega⟩
    exact ref_num_down u w (by omega) (by omega)
end Go.Proofs.YtfgfjofbghfdpaaDoor
