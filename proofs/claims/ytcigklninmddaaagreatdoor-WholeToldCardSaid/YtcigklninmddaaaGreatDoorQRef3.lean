/- The document's own digits and texts in marks. -/
import Derived.Test.YtcigklninmddaaaGreatDoorQRef2
namespace Go.Proofs.YtcigklninmddaaaGreatDoor
set_option maxRecDepth 4000
open Go.ChangeShapes Go.WideShapes Go.ChangeAt Go.RowKit
open PSign PHex PQuote
set_option linter.unusedVariables false

theorem PHex_dig : ∀ d, d < 16 → ((dig d).toNat = 48 + d ∧ d ≤ 9) ∨ ((dig d).toNat = 87 + d ∧ 10 ≤ d) := by decide

/-- One byte, newly laid, as a text. -/
theorem one_text_q (c : UInt8) (w : World) (N : Nat) (hN : w.heap.size = N) :
    (convert 44 9 (.slice (some ⟨N, 0, none⟩) 1 1)).run Tryz.prog (w.alloc (.cells #[.int .u8 (c.toNat : Int)] 5)) = .ok (.string (bstr [c])) (w.alloc (.cells #[.int .u8 (c.toNat : Int)] 5)) := by
  subst hN
  have h := Sl.made (B := w.heap.size) w #[.int .u8 (c.toNat : Int)] 5 1 1 1 (Nat.le_refl _) (Nat.le_refl _) (by decide) (by simp)
  exact sl_string (n := 1) (l := [c]) (by simpa [bv] using h) 44 9 5 Tryz.underlying44 Tryz.underlying5 Tryz.underlying9 (B := w.heap.size)

set_option maxRecDepth 100000 in
set_option maxHeartbeats 1000000 in
theorem ref_hex (n : Nat) : ∀ (w : World), n < 4294967296 →
    Calls Tryz.prog 42 #[.int .i64 n] w fun e w' => e = .returned (.string (bstr (hex n))) ∧ Below w.heap.size w w' := by
  induction n using Nat.strongRecOn with
  | _ n ih =>
    intro w hn
    obtain ⟨d, hd⟩ : ∃ d, n % 16 = d := ⟨_, rfl⟩
    have hd16 : d < 16 := by omega
    have hdi : (n : Int).tmod 16 = (d : Int) := by rw [Int.tmod_eq_emod_of_nonneg (by omega)]; omega
    have hdi2 : (n : Int) % 16 = (d : Int) := by omega
    have kc := one_text_q (dig d) w w.heap.size rfl
    have hb0 : Below w.heap.size w (w.alloc (.cells #[.int .u8 ((dig d).toNat : Int)] 5)) := (Below.refl _ _).alloc (Nat.le_refl _) _
    have HB0 := Lib.hid hb0
    clear hb0
    obtain ⟨q, hqn⟩ : ∃ q, n / 16 = q := ⟨_, rfl⟩
    have hq : (n : Int) / 16 = (q : Int) := by omega
    have hdig : (d ≤ 9 ∧ ((dig d).toNat : Int) = 48 + d) ∨ (10 ≤ d ∧ ((dig d).toNat : Int) = 87 + d) := by
      rcases PHex_dig d hd16 with h | h
      · exact .inl ⟨h.2, by omega⟩
      · exact .inr ⟨h.2, by omega⟩
    by_cases h16 : n < 16
    · have hx : hex n = [dig d] := by rw [hex_low h16]; congr 2; omega
      rw [hx]
      have h16' : (n : Int) < 16 := by omega
      clear hx ih hq h16 hn hd hqn
      generalize (dig d).toNat = c at *
      rcases hdig with ⟨h1, h2⟩ | ⟨h1, h2⟩
      · have e1 : 48 + (d : Int) = (c : Int) := h2.symm
        have e3 : IntKind.u8.wrap (c : Int) = (c : Int) := by rw [IntKind.wrap_u8]; omega
        have h9 : ¬ (9 : Int) < d := by omega
        clear h2
        go_enter Tryz.func42, Tryz.ntmps42
        go_wp2
        go_ret
        exact ⟨rfl, HB0.out⟩
      · have e1 : 97 + (d : Int) - 10 = (c : Int) := by omega
        have e3 : IntKind.u8.wrap (c : Int) = (c : Int) := by rw [IntKind.wrap_u8]; omega
        have h9 : (9 : Int) < d := by omega
        clear h2
        go_enter Tryz.func42, Tryz.ntmps42
        go_wp2
        go_ret
        exact ⟨rfl, HB0.out⟩
    · have hcat : bstr (hex q) ++ bstr [dig d] = bstr (hex n) := by rw [bcat, hex_high (n := n) (by omega), hd, hqn]
      have hlen := hex_len 7 q (by omega)
      have HC := Lib.hid hcat
      have hrec := fun w => ih q (by omega) w (by omega)
      have HREC := Lib.hid hrec
      have h16' : ¬ (n : Int) < 16 := by omega
      have hnI : (n : Int) < 4294967296 := by omega
      have hn0 : (16 : Int) ≤ (n : Int) := by omega
      clear hcat hrec ih h16 hn hd hqn
      generalize hex q = r at *
      generalize (dig d).toNat = c at *
      rcases hdig with ⟨h1, h2⟩ | ⟨h1, h2⟩
      · have e1 : 48 + (d : Int) = (c : Int) := h2.symm
        have e3 : IntKind.u8.wrap (c : Int) = (c : Int) := by rw [IntKind.wrap_u8]; omega
        have h9 : ¬ (9 : Int) < d := by omega
        clear h2
        go_enter Tryz.func42, Tryz.ntmps42
        go_wp2_with (first | (go_at_call 42; refine (HREC.out _).mono ?_; rintro e w2 ⟨rfl, hb2⟩))
        go_ret
        exact ⟨by rw [HC.out]; rfl, on_below HB0.out hb2⟩
      · have e1 : 97 + (d : Int) - 10 = (c : Int) := by omega
        have e3 : IntKind.u8.wrap (c : Int) = (c : Int) := by rw [IntKind.wrap_u8]; omega
        have h9 : (9 : Int) < d := by omega
        clear h2
        go_enter Tryz.func42, Tryz.ntmps42
        go_wp2_with (first | (go_at_call 42; refine (HREC.out _).mono ?_; rintro e w2 ⟨rfl, hb2⟩))
        go_ret
        exact ⟨by rw [HC.out]; rfl, on_below HB0.out hb2⟩

set_option maxRecDepth 100000 in
set_option maxHeartbeats 1000000 in
theorem ref_quote (s : ByteArray) (w : World) (hs : s.size ≤ 4096) :
    Calls Tryz.prog 28 #[.string s] w fun e w' => e = .returned (.string (bstr (quote s.data.toList))) ∧ Below w.heap.size w w' := by
  have hsig := ref_signs s w hs
  have hlen := signs_len s.data.toList
  have hl2 : s.data.toList.length = s.size := by simp
  have hrg := signs_range s.data.toList
  have hq : quote s.data.toList = (34 :: toldAll (signs s.data.toList)) ++ [34] := rfl
  rw [hq]
  rw [hl2] at hlen
  clear hq hl2
  have HSIG := Lib.hid hsig
  clear hsig
  generalize signs s.data.toList = l at *
  have HRG := Lib.hid hrg
  have HL := Lib.hid (Nat.le_trans hlen hs)
  clear hrg hlen
  go_enter Tryz.func28, Tryz.ntmps28
  go_wp2_with (first | (go_at_call 41; refine HSIG.out.mono ?_; rintro e w1 ⟨v, rfl, hsl, hb1⟩))
  obtain ⟨-, a, c, rfl, hint⟩ := hsl.ints
  have HINT := Lib.hid hint
  clear hsl HSIG hint
  go_wp2
  go_loopw [3, 5, 6] (fun o i n wr => ∃ k : Nat, k ≤ l.length ∧ i = .int .i64 k ∧ o = .string (bstr (34 :: toldAll (l.take k))) ∧ Below w1.heap.size w1 wr) (fun _ i _ _ => l.length - (intOf i).toNat)
  case atStart => exact ⟨0, Nat.zero_le _, rfl, rfl, Below.refl _ _⟩
  case round =>
    obtain ⟨k, hk, rfl, rfl, hb⟩ := hrel
    by_cases hlt : k < l.length
    · obtain ⟨b, off, rfl, hbb, hc⟩ := HINT.out k hlt
      have hcx : wr.cell? ⟨b, off + k, none⟩ = some (.int .i64 l[k]) := cell_on hb hc hbb
      have hz := HRG.out l[k] (List.getElem_mem hlt)
      have hsn : toldAll (l.take (k + 1)) = toldAll (l.take k) ++ told l[k] := by rw [List.take_succ_eq_append_getElem hlt, toldAll_snoc]
      have hal : (34 :: toldAll (l.take k)).length ≤ 40961 := by
        have h1 := toldAll_len (l.take k) (fun n hn => HRG.out n (List.mem_of_mem_take hn))
        have h2 : (l.take k).length ≤ k := List.length_take_le _ _
        have h3 := HL.out
        simp only [List.length_cons]
        omega
      have HSN := Lib.hid hsn
      have hk4 : k < 4096 := by have := HL.out; omega
      clear hc hsn
      generalize ho : 34 :: toldAll (l.take k) = o at *
      have HO := Lib.hid ho
      clear ho
      generalize l[k] = z at *
      by_cases hneg : z < 0
      · obtain ⟨m, hm⟩ : ∃ m : Nat, -z - 1 = (m : Int) := ⟨(-z - 1).toNat, by omega⟩
        have ht : told z = [92, 120] ++ hex m := by unfold told; rw [if_pos hneg, show (-1 - z).toNat = m by omega]
        have hlen := hex_len 1 m (by omega)
        have hcat : bstr o ++ (⟨#[92, 120]⟩ : ByteArray) ++ bstr (hex m) = bstr (o ++ told z) := by
          rw [ht, ← List.append_assoc]
          exact (congrArg (· ++ bstr (hex m)) (bcat o [92, 120])).trans (bcat _ _)
        have hhex := fun w => ref_hex m w (by omega)
        have HC := Lib.hid hcat
        have HH := Lib.hid hhex
        have hzw : IntKind.i64.wrap (-z) = -z := by rw [IntKind.wrap_i64]; omega
        clear ht hcat hhex
        generalize hex m = x at *
        go_wp2_with (first | (go_at_call 42; refine (HH.out _).mono ?_; rintro e w2 ⟨rfl, hb2⟩))
        have hb3 : Below w1.heap.size w1 w2 := on_below hb hb2
        go_roundw
        case rel => exact ⟨k + 1, by omega, by go_num, by rw [HC.out, HSN.out, ← List.cons_append, HO.out], hb3⟩
        case measure => simp [intOf]; omega
      · by_cases h34 : z = 34
        · subst h34
          have ht : told 34 = [92, 34] := by decide
          have hcat : bstr o ++ (⟨#[92]⟩ : ByteArray) ++ bstr [34] = bstr (o ++ told 34) := by
            rw [ht]
            exact (congrArg (· ++ bstr [34]) (bcat o [92])).trans ((bcat _ _).trans (by simp))
          have kc : (convert 44 9 (.slice (some ⟨wr.heap.size, 0, none⟩) 1 1)).run Tryz.prog (wr.alloc (.cells #[.int .u8 34] 5)) = .ok (.string (bstr [34])) (wr.alloc (.cells #[.int .u8 34] 5)) := one_text_q 34 wr wr.heap.size rfl
          have hb3 : Below w1.heap.size w1 (wr.alloc (.cells #[.int .u8 34] 5)) := hb.alloc hb.size _
          have HC := Lib.hid hcat
          have HB3 := Lib.hid hb3
          clear ht hcat hb3 hneg hz
          go_wp2
          go_roundw
          case rel => exact ⟨k + 1, by omega, by go_num, by rw [HC.out, HSN.out, ← List.cons_append, HO.out], HB3.out⟩
          case measure => simp [intOf]; omega
        by_cases h92 : z = 92
        · subst h92
          have ht : told 92 = [92, 92] := by decide
          have hcat : bstr o ++ (⟨#[92]⟩ : ByteArray) ++ bstr [92] = bstr (o ++ told 92) := by
            rw [ht]
            exact (congrArg (· ++ bstr [92]) (bcat o [92])).trans ((bcat _ _).trans (by simp))
          have kc : (convert 44 9 (.slice (some ⟨wr.heap.size, 0, none⟩) 1 1)).run Tryz.prog (wr.alloc (.cells #[.int .u8 92] 5)) = .ok (.string (bstr [92])) (wr.alloc (.cells #[.int .u8 92] 5)) := one_text_q 92 wr wr.heap.size rfl
          have hb3 : Below w1.heap.size w1 (wr.alloc (.cells #[.int .u8 92] 5)) := hb.alloc hb.size _
          have HC := Lib.hid hcat
          have HB3 := Lib.hid hb3
          clear ht hcat hb3 hneg hz
          go_wp2
          go_roundw
          case rel => exact ⟨k + 1, by omega, by go_num, by rw [HC.out, HSN.out, ← List.cons_append, HO.out], HB3.out⟩
          case measure => simp [intOf]; omega
        obtain ⟨m, hm⟩ : ∃ m : Nat, z = (m : Int) := ⟨z.toNat, by omega⟩
        subst hm
        have e34 : ((m : Int) == 34) = false := by simpa using h34
        have e92 : ((m : Int) == 92) = false := by simpa using h92
        by_cases hout : (m : Int) < 32 ∨ 126 < (m : Int)
        · have ht : told (m : Int) = [92, 117, 123] ++ hex m ++ [125] := by unfold told; rw [if_neg hneg, if_pos hout]; rfl
          have hlen := hex_len 5 m (by omega)
          have hcat : bstr o ++ (⟨#[92, 117, 123]⟩ : ByteArray) ++ bstr (hex m) ++ (⟨#[125]⟩ : ByteArray) = bstr (o ++ told (m : Int)) := by
            rw [ht]
            have e1 := bcat o [92, 117, 123]
            have e2 := bcat (o ++ [92, 117, 123]) (hex m)
            have e3 := bcat (o ++ [92, 117, 123] ++ hex m) [125]
            have h1 := congrArg (fun x => x ++ bstr (hex m) ++ (⟨#[125]⟩ : ByteArray)) e1
            have h2 := congrArg (fun x => x ++ (⟨#[125]⟩ : ByteArray)) e2
            exact h1.trans (h2.trans (e3.trans (by simp)))
          have hhex := fun w => ref_hex m w (by omega)
          have HC := Lib.hid hcat
          have HH := Lib.hid hhex
          clear ht hcat hhex hneg hz h34 h92
          generalize hex m = x at *
          by_cases h32 : (m : Int) < 32
          all_goals
            have h126 : (m : Int) < 32 ∨ (126 : Int) < (m : Int) := hout
            first | (have k1 : (126 : Int) < (m : Int) := by omega) | skip
            clear h126
            clear hout
            go_wp2_with (first | (go_at_call 42; refine (HH.out _).mono ?_; rintro e w2 ⟨rfl, hb2⟩))
            all_goals try (
              have hb3 : Below w1.heap.size w1 w2 := on_below hb hb2
              go_roundw
              case rel => exact ⟨k + 1, by omega, by go_num, by rw [HC.out, HSN.out, ← List.cons_append, HO.out], hb3⟩
              case measure => simp [intOf]; omega)
        · have h32 : (32 : Int) ≤ (m : Int) := by omega
          have h126 : (m : Int) ≤ 126 := by omega
          have hc8 : ((UInt8.ofNat m).toNat : Int) = (m : Int) := by simp; omega
          have ht : told (m : Int) = [UInt8.ofNat m] := by unfold told; rw [if_neg hneg, if_neg hout, if_neg (by omega)]; rfl
          have hcat : bstr o ++ bstr [UInt8.ofNat m] = bstr (o ++ told (m : Int)) := by rw [ht]; exact bcat _ _
          have kc := one_text_q (UInt8.ofNat m) wr wr.heap.size rfl
          rw [hc8] at kc
          have hb3 : Below w1.heap.size w1 (wr.alloc (.cells #[.int .u8 (m : Int)] 5)) := hb.alloc hb.size _
          have HC := Lib.hid hcat
          have HB3 := Lib.hid hb3
          clear ht hcat hb3 hc8 hneg hz hout h34 h92
          generalize UInt8.ofNat m = u at *
          go_wp2
          go_roundw
          case rel => exact ⟨k + 1, by omega, by go_num, by rw [HC.out, HSN.out, ← List.cons_append, HO.out], HB3.out⟩
          case measure => simp [intOf]; omega
    · obtain rfl : k = l.length := by omega
      rw [List.take_length] at *
      have hal : (34 :: toldAll l).length ≤ 40961 := by
        have h1 := toldAll_len l HRG.out
        have h3 := HL.out
        simp only [List.length_cons]
        omega
      have hcat : bstr (34 :: toldAll l) ++ (⟨#[34]⟩ : ByteArray) = bstr ((34 :: toldAll l) ++ [34]) := bcat _ [34]
      have HC := Lib.hid hcat
      clear hcat
      generalize ho : 34 :: toldAll l = o at *
      have HO := Lib.hid ho
      clear ho
      go_wp2
      go_ret
      exact ⟨by rw [← List.cons_append, HO.out]; try (rw [HC.out]); try rfl, hb1.trans (hb.mono hb1.size)⟩
end Go.Proofs.YtcigklninmddaaaGreatDoor
