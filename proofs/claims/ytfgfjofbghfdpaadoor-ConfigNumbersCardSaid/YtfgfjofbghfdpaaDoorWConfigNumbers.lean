/- The walk of the law ConfigNumbers. -/
import Derived.Test.YtfgfjofbghfdpaaDoorSpeaks19
import Derived.Test.YtfgfjofbghfdpaaDoorConf5
import Derived.Test.YtfgfjofbghfdpaaDoorKBase
namespace Go.Proofs.YtfgfjofbghfdpaaDoor
set_option maxRecDepth 4000
open Go.ChangeShapes Go.WideShapes Go.ChangeAt Go.RowKit
open PWord
open Go.Lib (itoa)
set_option linter.unusedVariables false
set_option linter.unusedSimpArgs false

/-- Numbers as words. -/
def numsB (ns : List Int) : List ByteArray := ns.map fun n => bstr (itoa n)
theorem numsB_len (ns : List Int) : (numsB ns).length = ns.length := by simp [numsB]
theorem numsB_snoc (ns : List Int) (n : Int) : numsB (ns ++ [n]) = numsB ns ++ [bstr (itoa n)] := by simp [numsB]
theorem numsB_nums (ns : List Int) (h : ∀ n ∈ ns, in64 n) : nums (bl (numsB ns)) = some ns := by
  have e : bl (numsB ns) = ns.map itoa := by simp only [bl, numsB, List.map_map]; rfl
  rw [e]
  exact nums_map ns h
theorem numsB_more (ns : List Int) (h : ∀ n ∈ ns, in64 n) (s : ByteArray) : nums (bl (numsB ns ++ [s])) = (PWord.numOf s.data.toList).map fun n => ns ++ [n] := by
  have e : bl (numsB ns ++ [s]) = bl (numsB ns) ++ [s.data.toList] := by simp only [bl, List.map_append, List.map_cons, List.map_nil]
  rw [e, nums_append, numsB_nums ns h, nums_cons]
  cases PWord.numOf s.data.toList <;> rfl

set_option maxRecDepth 100000 in
set_option maxHeartbeats 4000000 in
theorem walk_ConfigNumbers (w : World) (he : EnvW w) (hnm : Names w) (a0 : Option Addr) (n0 c0 : Nat) (l0 : List Int) (w0 : Rd w (.sl (.int .i64)) [.slice a0 n0 c0] l0) (a1 : ByteArray) (w1 : a1.size ≤ maxLen) :
    Calls Tryd.prog 6 #[.slice a0 n0 c0, .string a1] w fun e w' => e = .returned (.bool true) ∧ Below w.heap.size w w' := by
  obtain ⟨hn, hr⟩ := Rd.ints w0
  clear w0
  have HSP := Lib.hid (speaks19 w he hnm)
  by_cases hl : n0 ≤ 50
  · have hl' : ¬ (50 : Int) < n0 := by omega
    by_cases hs : a1.size ≤ 100
    · have hs' : ¬ (100 : Int) < a1.size := by omega
      have hb64 : ∀ x ∈ l0, in64 x := fun x hx => bounds_i64 (hr.wf x hx)
      have HN := Lib.hid hn
      have HB := Lib.hid hb64
      have HNO := Lib.hid (numsB_nums l0 hb64)
      have HMO := Lib.hid (numsB_more l0 hb64 a1)
      obtain ⟨i0, hi, hz0, hz1, hz2⟩ := info_parts info_str
      clear hn hb64
      go_enter Tryd.func6, Tryd.ntmps6
      go_wp2_with (first | (go_at_call 11; refine HSP.out.mono ?_; rintro e w2 ⟨rfl, hb2⟩))
      go_loopw [5, 24] (fun v i wr => ∃ (k : Nat) (av : Option Addr) (cv : Nat), i = .int .i64 k ∧ k ≤ n0 ∧ v = .slice av k cv ∧ Sl w.heap.size wr 1 (.slice av k cv) k (sv (numsB (l0.take k))) ∧ Below w.heap.size w wr) (fun _ i _ => n0 - (intOf i).toNat)
      case atStart => exact ⟨0, none, 0, rfl, Nat.zero_le _, rfl, Sl.nil _ _ _, hb2⟩
      case round =>
        clear hb2 HSP
        obtain ⟨k, av, cv, rfl, hk, rfl, hsl, hb⟩ := hrel
        have hri := hr.below hb
        by_cases hlt : k < n0
        · have hk1 : k < l0.length := by rw [← HN.out]; exact hlt
          obtain ⟨b, off, rfl, hbl, q0⟩ := hri.at_ k hk1
          have HT : Hid (l0.take (k + 1) = l0.take k ++ [l0[k]]) := List.take_succ_eq_append_getElem hk1
          have hx := HB.out _ (List.getElem_mem hk1)
          have HI := Lib.hid (fun w => ref_num _ hx w)
          clear hri
          generalize hxk : l0[k] = x at *
          clear hxk hk1 hx
          have hm1 : k + 1 ≤ maxLen := by unfold maxLen; omega
          have hwB := hb.size
          go_wp2_with (first | (go_at_call 22; (with_reducible refine (HI.out _).mono ?_); rintro e w3 ⟨rfl, hb3⟩; have hs2 := (hsl.onW hb3).alloc (.cells #[.string (bstr (itoa x))] 9); have hw2 : w.heap.size ≤ w3.heap.size := Nat.le_trans hwB hb3.size) | (at_builtin; refine wpList_append_sl _ rfl (.tmp 28) (.tmp 31) 35 35 rfl 9 i0 _ 16 Tryd.underlying35 hi hz0 hz1 hz2 rfl rfl hs2 _ 1 [.string (bstr (itoa x))] rfl (src_oneN Tryd.underlying35 _ (.string (bstr (itoa x))) _ _ (by simp) rfl) hm1 (by omega) (by simp; omega) ?_; intro v1 w4 k1 k2 k3; obtain ⟨av1, cv1, rfl⟩ := k1.shape))
          go_roundw
          case rel => exact ⟨k + 1, _, _, by go_num, by omega, rfl, (by rw [HT.out, numsB_snoc, sv_snoc]; exact k1), ((on_below hb hb3).alloc (by omega) _).upd k2 (by simp; omega) (fun i _ hi => by have := (hsl.lt i hi).1; omega)⟩
          case measure => simp [intOf]; omega
        · have hkn : k = n0 := by omega
          subst hkn
          rw [List.take_of_length_le (by rw [← HN.out]; exact Nat.le_refl _)] at hsl
          obtain ⟨hln, a2, c2, hv, hc2, hrow⟩ := rows_of_sl hsl
          have hnl := numsB_len l0
          rw [← HN.out] at hnl
          have hv2 : Value.slice av k cv = .slice a2 k c2 := by rw [hv, hnl]
          cases hv2
          have hszs : ∀ s ∈ numsB l0, s.size ≤ 1000000 := fun s hs => by
            obtain ⟨x, hx, rfl⟩ := List.mem_map.1 hs
            rw [tx_size]
            have := itoa_len (HB.out x hx)
            omega
          have hN1 := cf_numbers av k cv (numsB l0) wr (he.on hb) hrow (by rw [hnl]) (by omega) hszs
          rw [HNO.out] at hN1
          have HN1 := Lib.hid hN1
          have hm1 : k + 1 ≤ maxLen := by unfold maxLen; omega
          have HSZ := Lib.hid hszs
          have HNL := Lib.hid hnl
          have hwB := hb.size
          clear hN1 hszs hnl hv hln hrow hc2
          cases ho : PWord.numOf a1.data.toList with
          | none =>
            rw [ho] at HMO
            clear ho
            have HN2 : Hid (∀ (a : Option Addr) (c : Nat) (w' : World), Below w.heap.size w w' → Sl w.heap.size w' 1 (.slice a (k + 1) c) (k + 1) (sv (numsB l0) ++ [.string a1]) → Calls Tryd.prog 23 #[.slice a (k + 1) c] w' (NumPost (none) w')) := Lib.hid (fun a c w' hbw hslw => by
              rw [← sv_snoc] at hslw
              obtain ⟨hln, a2, c2, hv, hc2, hrow⟩ := rows_of_sl hslw
              have hll : (numsB l0 ++ [a1]).length = k + 1 := by rw [List.length_append, HNL.out]; rfl
              have hv2 : Value.slice a (k + 1) c = .slice a2 (k + 1) c2 := by rw [hv, hll]
              cases hv2
              have h := cf_numbers a (k + 1) c (numsB l0 ++ [a1]) w' (he.on hbw) hrow (by rw [hll]) (by omega) (fun s hs => by
                rcases List.mem_append.1 hs with hs | hs
                · exact HSZ.out s hs
                · simp at hs; subst hs; omega)
              rw [HMO.out] at h
              exact h)
            go_wp2_with (first | (go_at_call 23; first | ((with_reducible refine HN1.out.mono ?_); rintro e w3 ⟨v3, rfl, hg3, hb3⟩; obtain ⟨-, a3, c3, rfl, hr3⟩ := rowi_of_sl (l := l0) hg3 HB.out; have hs3 := (hsl.onW hb3).alloc (.cells #[.string a1] 9); have hw3 : w.heap.size ≤ w3.heap.size := Nat.le_trans hwB hb3.size) | ((with_reducible refine (HN2.out _ _ _ hb4 k1).mono ?_); rintro e w5 ⟨v5, rfl, hg5, hb5⟩; obtain ⟨a5, c5, rfl⟩ := hg5.shape; have hr5 := hr3b.below hb5; have hri5 := hr.below (on_below hb4 hb5); have HSA := Lib.hid (ref_sameI l0 a3 a0 c3 c0 _ _ w5 hr5 hri5 rfl HN.out (by rw [← HN.out]; omega)))) | (at_builtin; refine wpList_append_sl _ rfl (.tmp 40) (.tmp 42) 35 35 rfl 9 i0 _ 16 Tryd.underlying35 hi hz0 hz1 hz2 rfl rfl hs3 _ 1 [.string a1] rfl (src_oneN Tryd.underlying35 _ (.string a1) _ _ (by simp) rfl) hm1 (by omega) (by simp; omega) ?_; intro v4 w4 k1 k2 k3; obtain ⟨av4, cv4, rfl⟩ := k1.shape; have hb4 := ((on_below hb hb3).alloc (by omega) (.cells #[.string a1] 9)).upd k2 (by simp; omega) (fun i _ hi => by have := (hsl.lt i hi).1; omega); have hg4 := (hg3.alloc (.cells #[.string a1] 9)).upd k2 (fun q hq hq2 => by have h1 := (hg3.lt q hq).1; have h2 := (hsl.lt q hq2).2; omega); obtain ⟨-, a3b, c3b, hv3b, hr3b⟩ := rowi_of_sl (l := l0) hg4 HB.out; obtain ⟨e1, -, e2⟩ := Value.slice.inj hv3b; rw [← e1] at hr3b; clear e1 e2 hv3b) | (go_at_call 24; refine HSA.out.mono ?_; rintro e w6 ⟨rfl, m6, rfl⟩))
            go_ret
            exact ⟨by simp, (on_below hb4 hb5).upd ((Upd.refl (fun _ => False) _).drewN m6) (on_below hb4 hb5).size (fun _ _ h => h.elim)⟩
          | some m =>
            rw [ho] at HMO
            obtain ⟨hem, hmb⟩ := numOf_some ho
            obtain rfl : a1 = bstr (itoa m) := by rw [hem]
            have HIM := Lib.hid (fun w => ref_num m hmb w)
            have hb64' : ∀ x ∈ l0 ++ [m], in64 x := fun x hx => by
              rcases List.mem_append.1 hx with hx | hx
              · exact HB.out x hx
              · simp at hx; subst hx; exact hmb
            have HB2 := Lib.hid hb64'
            clear ho hem hb64'
            have HN2 : Hid (∀ (a : Option Addr) (c : Nat) (w' : World), Below w.heap.size w w' → Sl w.heap.size w' 1 (.slice a (k + 1) c) (k + 1) (sv (numsB l0) ++ [.string (bstr (itoa m))]) → Calls Tryd.prog 23 #[.slice a (k + 1) c] w' (NumPost (some (l0 ++ [m])) w')) := Lib.hid (fun a c w' hbw hslw => by
              rw [← sv_snoc] at hslw
              obtain ⟨hln, a2, c2, hv, hc2, hrow⟩ := rows_of_sl hslw
              have hll : (numsB l0 ++ [bstr (itoa m)]).length = k + 1 := by rw [List.length_append, HNL.out]; rfl
              have hv2 : Value.slice a (k + 1) c = .slice a2 (k + 1) c2 := by rw [hv, hll]
              cases hv2
              have h := cf_numbers a (k + 1) c (numsB l0 ++ [bstr (itoa m)]) w' (he.on hbw) hrow (by rw [hll]) (by omega) (fun s hs => by
                rcases List.mem_append.1 hs with hs | hs
                · exact HSZ.out s hs
                · simp at hs; subst hs; omega)
              rw [HMO.out] at h
              exact h)
            go_wp2_with (first | (go_at_call 23; first | ((with_reducible refine HN1.out.mono ?_); rintro e w3 ⟨v3, rfl, hg3, hb3⟩; obtain ⟨-, a3, c3, rfl, hr3⟩ := rowi_of_sl (l := l0) hg3 HB.out; have hs3 := (hsl.onW hb3).alloc (.cells #[.string (bstr (itoa m))] 9); have hw3 : w.heap.size ≤ w3.heap.size := Nat.le_trans hwB hb3.size) | ((with_reducible refine (HN2.out _ _ _ hb4 k1).mono ?_); rintro e w5 ⟨v5, rfl, hg5, hb5⟩; obtain ⟨hl5, a5, c5, rfl, hr5m⟩ := rowi_of_sl (l := l0 ++ [m]) hg5 HB2.out; have hll5 : (l0 ++ [m]).length = k + 1 := (by rw [List.length_append, ← HN.out]; rfl); obtain ⟨b5, o5, rfl, hbl5, q5⟩ := hr5m.at_ k (by omega); rw [List.getElem_append_right (by rw [← HN.out]; exact Nat.le_refl _)] at q5; simp only [List.getElem_singleton] at q5; have hr5 := hr3b.below hb5; have hri5 := hr.below (on_below hb4 hb5); have HSA := Lib.hid (ref_sameI l0 a3 a0 c3 c0 _ _ w5 hr5 hri5 rfl HN.out (by rw [← HN.out]; omega)))) | (at_builtin; refine wpList_append_sl _ rfl (.tmp 40) (.tmp 42) 35 35 rfl 9 i0 _ 16 Tryd.underlying35 hi hz0 hz1 hz2 rfl rfl hs3 _ 1 [.string (bstr (itoa m))] rfl (src_oneN Tryd.underlying35 _ (.string (bstr (itoa m))) _ _ (by simp) rfl) hm1 (by omega) (by simp; omega) ?_; intro v4 w4 k1 k2 k3; obtain ⟨av4, cv4, rfl⟩ := k1.shape; have hb4 := ((on_below hb hb3).alloc (by omega) (.cells #[.string (bstr (itoa m))] 9)).upd k2 (by simp; omega) (fun i _ hi => by have := (hsl.lt i hi).1; omega); have hg4 := (hg3.alloc (.cells #[.string (bstr (itoa m))] 9)).upd k2 (fun q hq hq2 => by have h1 := (hg3.lt q hq).1; have h2 := (hsl.lt q hq2).2; omega); obtain ⟨-, a3b, c3b, hv3b, hr3b⟩ := rowi_of_sl (l := l0) hg4 HB.out; obtain ⟨e1, -, e2⟩ := Value.slice.inj hv3b; rw [← e1] at hr3b; clear e1 e2 hv3b) | (go_at_call 24; refine HSA.out.mono ?_; rintro e w6 ⟨rfl, m6, rfl⟩) | (go_at_call 22; (with_reducible refine (HIM.out _).mono ?_); rintro e w7 ⟨rfl, hb7⟩))
            go_ret
            exact ⟨by simp, on_below ((on_below hb4 hb5).upd ((Upd.refl (fun _ => False) _).drewN m6) (on_below hb4 hb5).size (fun _ _ h => h.elim)) hb7⟩
    · have hs' : (100 : Int) < a1.size := by omega
      go_enter Tryd.func6, Tryd.ntmps6
      go_wp2_with (first | (go_at_call 11; refine HSP.out.mono ?_; rintro e w2 ⟨rfl, hb2⟩))
      go_ret
      exact ⟨rfl, hb2⟩
  · have hl' : (50 : Int) < n0 := by omega
    go_enter Tryd.func6, Tryd.ntmps6
    go_wp2_with (first | (go_at_call 11; refine HSP.out.mono ?_; rintro e w2 ⟨rfl, hb2⟩))
    go_ret
    exact ⟨rfl, hb2⟩
end Go.Proofs.YtfgfjofbghfdpaaDoor
