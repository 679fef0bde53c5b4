/- The walk of the law QuoteBack. -/
import Derived.Test.YtfgmbmpbgokolaaDoorWQuoteOne
namespace Go.Proofs.YtfgmbmpbgokolaaDoor
open Go.ChangeShapes Go.WideShapes Go.ChangeAt Go.RowKit
open PSign PHex PQuote
set_option linter.unusedVariables false

theorem dig_seen : ∀ d, d < 16 → 32 ≤ (dig d).toNat ∧ (dig d).toNat ≤ 126 := by decide
theorem hex_seen (n : Nat) : ∀ c ∈ hex n, 32 ≤ c.toNat ∧ c.toNat ≤ 126 := by
  intro c hc
  obtain ⟨d, hd, rfl⟩ := hex_mem n hc
  exact dig_seen d hd
theorem told_seen (n : Int) : ∀ c ∈ told n, 32 ≤ c.toNat ∧ c.toNat ≤ 126 := by
  intro c hc
  unfold told at hc
  split at hc
  · rcases List.mem_append.1 hc with h | h
    · simp only [List.mem_cons, List.not_mem_nil, or_false] at h
      rcases h with rfl | rfl <;> decide
    · exact hex_seen _ c h
  · split at hc
    · rcases List.mem_append.1 hc with h | h
      · rcases List.mem_append.1 h with h | h
        · simp only [List.mem_cons, List.not_mem_nil, or_false] at h
          rcases h with rfl | rfl | rfl <;> decide
        · exact hex_seen _ c h
      · simp only [List.mem_cons, List.not_mem_nil, or_false] at h
        subst h
        decide
    · split at hc
      · simp only [List.mem_cons, List.not_mem_nil, or_false] at hc
        rcases hc with rfl | rfl
        · decide
        · rw [UInt8.toNat_ofNat']; omega
      · simp only [List.mem_cons, List.not_mem_nil, or_false] at hc
        subst hc
        rw [UInt8.toNat_ofNat']; omega
theorem quote_seen (l : List UInt8) : ∀ c ∈ quote l, 32 ≤ c.toNat ∧ c.toNat ≤ 126 := by
  intro c hc
  unfold quote at hc
  rcases List.mem_append.1 hc with h | h
  · rcases List.mem_cons.1 h with rfl | h
    · decide
    · unfold toldAll at h
      obtain ⟨n, _, hn⟩ := List.mem_flatMap.1 h
      exact told_seen n c hn
  · simp only [List.mem_cons, List.not_mem_nil, or_false] at h
    subst h
    decide
theorem quote_at (l : List UInt8) (k : Nat) (h : k < (bstr (quote l)).size) : 32 ≤ ((bstr (quote l))[k].toNat : Int) ∧ ((bstr (quote l))[k].toNat : Int) ≤ 126 := by
  have hm := quote_seen l ((bstr (quote l))[k]) (by
    show (quote l).toArray[k] ∈ _
    simp)
  omega
theorem quote_big (l : List UInt8) : (bstr (quote l)).size ≤ 10 * l.length + 2 := by
  rw [bstr_len]
  unfold quote
  have h1 := toldAll_len (signs l) (signs_range l)
  have h2 := signs_len l
  simp only [List.length_append, List.length_cons, List.length_nil]
  omega

set_option maxRecDepth 100000 in
set_option maxHeartbeats 1000000 in
theorem walk_QuoteBack (w : World) (he : Env w) (a0 : ByteArray) (w0 : a0.size ≤ maxLen) :
    Calls Tryd.prog 4 #[.string a0] w fun e w' => e = .returned (.bool true) ∧ Below w.heap.size w w' := by
  have H4 := Lib.hid (speaks4 w he)
  by_cases hbig : 500 < a0.size
  · go_enter Tryd.func4, Tryd.ntmps4
    go_wp2_with (first | (go_at_call 7; refine H4.out.mono ?_; rintro e w1 ⟨rfl, hb1⟩))
    go_ret
    exact ⟨rfl, hb1⟩
  · have hl : a0.data.toList.length = a0.size := by simp
    have HQ : Hid (∀ w, Env w → Calls Tryd.prog 13 #[.string a0] w fun e w' => e = .returned (.string (bstr (quote a0.data.toList))) ∧ Below w.heap.size w w') := fun w he => q_quote a0 w (by omega) he
    have HR : Hid (∀ w, Calls Tryd.prog 15 #[.string a0] w fun e w' => e = .returned (.string (bstr (quote a0.data.toList))) ∧ Below w.heap.size w w') := fun w => ref_quote a0 w (by omega)
    have HU : Hid (∀ w, Env w → Calls Tryd.prog 14 #[.string (bstr (quote a0.data.toList))] w fun e w' => e = .returned (.tuple #[.string a0, .bool true]) ∧ Below w.heap.size w w') := by
      intro w he
      have h := unq_ok a0.data.toList w he (by omega)
      rw [bstr_of] at h
      exact h
    have HS : Hid (∀ (k : Nat) (h : k < (bstr (quote a0.data.toList)).size), 32 ≤ ((bstr (quote a0.data.toList))[k].toNat : Int) ∧ ((bstr (quote a0.data.toList))[k].toNat : Int) ≤ 126) := quote_at _
    have hqs := quote_big a0.data.toList
    have hqs : (bstr (quote a0.data.toList)).size ≤ 6000 := by omega
    clear hl
    generalize bstr (quote a0.data.toList) = q at *
    go_enter Tryd.func4, Tryd.ntmps4
    go_wp2_with (first | (go_at_call 7; refine H4.out.mono ?_; rintro e w1 ⟨rfl, hb1⟩; have he1 := he.on hb1) | (go_at_call 13; refine (HQ.out _ he1).mono ?_; rintro e w2 ⟨rfl, hb2⟩))
    have he2 := he1.on hb2
    have hb3 := on_below hb1 hb2
    go_loopw [16] (fun i wr => ∃ k : Nat, k ≤ q.size ∧ i = .int .i64 k ∧ Below w2.heap.size w2 wr) (fun i _ => q.size - (intOf i).toNat)
    case atStart => exact ⟨0, Nat.zero_le _, rfl, Below.refl _ _⟩
    case round =>
      obtain ⟨k, hk, rfl, hb⟩ := hrel
      by_cases hlt : k < q.size
      · obtain ⟨s1, s2⟩ := HS.out k hlt
        go_wp2
        go_roundw
        case rel => exact ⟨k + 1, by omega, by go_num, hb⟩
        case measure => simp [intOf]; omega
      · have hkl : k = q.size := by omega
        subst hkl
        have he3 := he2.on hb
        have hb4 := on_below hb3 hb
        go_wp2_with (first | (go_at_call 14; refine (HU.out _ he3).mono ?_; rintro e w4 ⟨rfl, hb5⟩) | (go_at_call 15; refine (HR.out _).mono ?_; rintro e w5 ⟨rfl, hb6⟩))
        go_ret
        exact ⟨rfl, on_below (on_below hb4 hb5) hb6⟩
end Go.Proofs.YtfgmbmpbgokolaaDoor
