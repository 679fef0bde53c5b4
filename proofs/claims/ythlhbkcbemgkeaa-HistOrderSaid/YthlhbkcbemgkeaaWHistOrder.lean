/- The walk of the law HistOrder. -/
import Derived.Test.YthlhbkcbemgkeaaSpeaks8
namespace Go.Proofs.Ythlhbkcbemgkeaa
open Go.ChangeShapes Go.WideShapes Go.ChangeAt Go.RowKit
open PHist
set_option linter.unusedVariables false
set_option linter.unusedSimpArgs false

abbrev hcells : Obj := .cells #[.slice none 0 0, .int .i64 0] 42
/-- Two rows of numbers, apart. -/
def Two (w0 : World) (wr : World) (ga gb : Nat) (la lb : List Int) : Prop := ∃ Fa Fb, HistL wr Fa ga la ∧ HistL wr Fb gb lb ∧ (∀ k, Fa k → ¬ Fb k) ∧ (∀ k, Fa k → w0.heap.size ≤ k) ∧ (∀ k, Fb k → w0.heap.size ≤ k) ∧ Below w0.heap.size w0 wr
theorem Two.below {w0 wr w' : World} {ga gb : Nat} {la lb : List Int} (h : Two w0 wr ga gb la lb) (hb : Below wr.heap.size wr w') : Two w0 w' ga gb la lb := by
  obtain ⟨Fa, Fb, h1, h2, h3, h4, h5, h6⟩ := h
  exact ⟨Fa, Fb, h1.below hb, h2.below hb, h3, h4, h5, h6.trans (hb.mono h6.size)⟩
theorem Two.bel {w0 wr : World} {ga gb : Nat} {la lb : List Int} (h : Two w0 wr ga gb la lb) : Below w0.heap.size w0 wr := by
  obtain ⟨_, _, _, _, _, _, _, h⟩ := h
  exact h
theorem Two.start (w0 w1 : World) (hb : Below w0.heap.size w0 w1) : Two w0 ((w1.alloc hcells).alloc hcells) w1.heap.size (w1.heap.size + 1) [] [] := by
  have h1 := (HistL.zero w1 42).upd (S := fun _ => False) ((Upd.refl _ _).alloc hcells) (fun _ _ h => h)
  have h2 := HistL.zero (w1.alloc hcells) 42
  have e : (w1.alloc hcells).heap.size = w1.heap.size + 1 := by simp
  rw [e] at h2
  have hbs := hb.size
  exact ⟨_, _, h1, h2, fun k hk hk' => by omega, fun k hk => by omega, fun k hk => by omega, (hb.alloc hbs _).alloc (by rw [e]; omega) _⟩
theorem Two.addA {w0 wr : World} {ga gb : Nat} {la lb : List Int} (h : Two w0 wr ga gb la lb) (hl : la.length ≤ 900) (n : Int) : Calls Try.prog 23 #[.pointer (some ⟨ga, 0, none⟩), .int .i64 n] wr fun e w' => e = .returned (.tuple #[]) ∧ Two w0 w' ga gb (n :: la) lb := by
  obtain ⟨Fa, Fb, h1, h2, h3, h4, h5, h6⟩ := h
  refine (hl_add Fa ga la n wr h1 hl).mono ?_
  rintro e w' ⟨he, F', k1, k2, k3⟩
  have hs := h6.size
  exact ⟨he, F', Fb, k1, h2.upd k2 (fun k hk hk' => h3 k hk' hk), fun k hk hk' => (k3 k hk).elim (fun h => h3 k h hk') (fun h => by have := h2.lt k hk'; omega), fun k hk => (k3 k hk).elim (h4 k) (fun h => by omega), h5, h6.upd k2 hs (fun i _ hi => h4 i hi)⟩
theorem Two.addB {w0 wr : World} {ga gb : Nat} {la lb : List Int} (h : Two w0 wr ga gb la lb) (hl : lb.length ≤ 900) (n : Int) : Calls Try.prog 23 #[.pointer (some ⟨gb, 0, none⟩), .int .i64 n] wr fun e w' => e = .returned (.tuple #[]) ∧ Two w0 w' ga gb la (n :: lb) := by
  obtain ⟨Fa, Fb, h1, h2, h3, h4, h5, h6⟩ := h
  refine (hl_add Fb gb lb n wr h2 hl).mono ?_
  rintro e w' ⟨he, F', k1, k2, k3⟩
  have hs := h6.size
  exact ⟨he, Fa, F', h1.upd k2 (fun k hk hk' => h3 k hk hk'), k1, fun k hk hk' => (k3 k hk').elim (fun h => h3 k hk h) (fun h => by have := h1.lt k hk; omega), h4, fun k hk => (k3 k hk).elim (h5 k) (fun h => by omega), h6.upd k2 hs (fun i _ hi => h5 i hi)⟩
theorem Two.perm {w0 wr : World} {ga gb : Nat} {la la' lb lb' : List Int} (h : Two w0 wr ga gb la lb) (p1 : la.Perm la') (p2 : lb.Perm lb') : Two w0 wr ga gb la' lb' := by
  obtain ⟨Fa, Fb, h1, h2, h3⟩ := h
  exact ⟨Fa, Fb, h1.perm p1, h2.perm p2, h3⟩

set_option maxRecDepth 100000 in
set_option maxHeartbeats 4000000 in
theorem walk_HistOrder (w : World) (a0 : Option Addr) (n0 c0 : Nat) (l0 : List Int) (w0 : Rd w (.sl (.int .i64)) [.slice a0 n0 c0] l0) :
    Calls Try.prog 6 #[.slice a0 n0 c0] w fun e w' => e = .returned (.bool true) ∧ Below w.heap.size w w' := by
  obtain ⟨rfl, hl⟩ := w0.ints
  have hc := Rd.capI w0
  clear w0
  by_cases hbig : 100 < l0.length
  · go_enter Try.func6, Try.ntmps6
    go_wp2_with (first | (go_at_call 20; refine (speaks8 _).mono ?_; rintro e w1 ⟨rfl, b1⟩))
    go_ret
    exact ⟨rfl, b1⟩
  obtain ⟨i0, hi0, hz0, hz1, hz2⟩ := info_parts info_int
  go_enter Try.func6, Try.ntmps6
  go_wp2_with (first | (go_at_call 20; refine (speaks8 _).mono ?_; rintro e w1 ⟨rfl, b1⟩))
  go_loopw [22] (fun i wr => ∃ k : Nat, k ≤ l0.length ∧ i = .int .i64 k ∧ Two w wr w1.heap.size (w1.heap.size + 1) (l0.take k) (l0.drop (l0.length - k))) (fun i _ => l0.length - (intOf i).toNat)
  case atStart => exact ⟨0, Nat.zero_le _, rfl, by rw [List.take_zero, Nat.sub_zero, List.drop_length]; exact Two.start w w1 b1⟩
  case round =>
    obtain ⟨k, hk, rfl, htw⟩ := hrel
    by_cases hlt : k < l0.length
    · have hbw : Below w.heap.size w wr := by obtain ⟨_, _, _, _, _, _, _, h⟩ := htw; exact h
      have hlt2 : l0.length - 1 - k < l0.length := by omega
      obtain ⟨b, off, rfl, hb, hc1⟩ := (hl.below hbw).at_ k hlt
      have HA := Lib.hid (htw.addA (by simp; omega) l0[k])
      have hlB : (l0.drop (l0.length - k)).length ≤ 900 := by simp; omega
      have hp1 : (l0[k] :: l0.take k).Perm (l0.take (k + 1)) := by rw [List.take_succ_eq_append_getElem hlt]; exact (List.perm_append_singleton _ _).symm
      have hp2 : l0[l0.length - 1 - k] :: l0.drop (l0.length - k) = l0.drop (l0.length - (k + 1)) := by
        rw [List.drop_eq_getElem_cons (show l0.length - (k + 1) < l0.length by omega)]
        congr 2 <;> omega
      have HPP := Lib.hid hp1
      clear hp1 htw
      have hcy := fun w2 (hbw2 : Below w.heap.size w w2) => ((hl.below hbw2).cell (l0.length - 1 - k) hlt2).2
      generalize l0[k] = x at *
      generalize hy : l0[l0.length - 1 - k] = y at *
      clear hy
      go_wp2_with (go_at_call 23; (with_reducible refine HA.out.mono ?_); rintro e w2 ⟨rfl, ht2⟩; have hbw2 : Below w.heap.size w w2 := (by obtain ⟨_, _, _, _, _, _, _, h⟩ := ht2; exact h); have hc2 := hcy w2 hbw2; have HB := Lib.hid (ht2.addB hlB y))
      go_wp2_with (go_at_call 23; (with_reducible refine HB.out.mono ?_); rintro e w3 ⟨rfl, ht3⟩)
      rw [hp2] at ht3
      have ht4 := ht3.perm HPP.out (List.Perm.refl _)
      exact ⟨⟨k + 1, by omega, by go_num, ht4⟩, by simp [intOf]; omega⟩
    · obtain rfl : k = l0.length := by omega
      rw [List.take_length, Nat.sub_self, List.drop_zero] at htw
      clear hlt hk
      have hbw : Below w.heap.size w wr := by obtain ⟨_, _, _, _, _, _, _, h⟩ := htw; exact h
      have hu0 : Upd (fun _ => False) wr (wr.alloc (.cells #[] 3)) := (Upd.refl _ wr).alloc _
      have hb0 : Below wr.heap.size wr (wr.alloc (.cells #[] 3)) := hu0.below (Nat.le_refl _) (fun _ _ h => h.elim)
      have hs0 : Sl wr.heap.size (wr.alloc (.cells #[] 3)) 1 (.slice (some ⟨wr.heap.size, 0, none⟩) 0 0) 0 [] := Sl.made (B := wr.heap.size) wr #[] 3 1 0 0 (Nat.le_refl _) (Nat.le_refl _) (Nat.zero_le _) (by simp)
      have hrow := (hl.below hbw).below hb0
      have hbd := fun x (hx : x ∈ l0) => bounds_i64 (hl.wf x hx)
      have hA : ∀ (v1 : Value) (w2 : World), Sl wr.heap.size w2 1 v1 (0 + l0.length) ([] ++ iv l0) → Upd (fun k => (Value.slice (some ⟨wr.heap.size, 0, none⟩) 0 0).ownBlock = some k) (wr.alloc (.cells #[] 3)) w2 → ∃ a2 c2, v1 = .slice a2 l0.length c2 ∧ l0.length ≤ c2 ∧ RowI w2 .i64 a2 l0 ∧ Two w w2 w1.heap.size (w1.heap.size + 1) l0 l0 := by
        intro v1 w2 h1 h2
        rw [List.nil_append, Nat.zero_add] at h1
        obtain ⟨_, a2, c2, rfl, hr⟩ := rowi_of_sl h1 hbd
        exact ⟨a2, c2, rfl, h1.le, hr, htw.below (hb0.upd h2 (by simp) (fun i hi hk => by simp [Value.ownBlock] at hk; omega))⟩
      clear htw
      go_wp2_with (at_builtin; refine wpList_append_sl (v := .slice (some ⟨wr.heap.size, 0, none⟩) 0 0) _ rfl (.tmp 40) (.tmp 41) 22 22 rfl 3 i0 (.int .i64 0) 8 Try.underlying22 hi0 hz0 hz1 hz2 rfl rfl hs0 _ l0.length (iv l0) rfl (src_ints Try.underlying22 _ a0 l0.length c0 l0 hrow rfl) (by unfold maxLen; omega) (by omega) (by simp) ?_; intro v1 w2 k1 k2 k3; obtain ⟨a2, c2, rfl, hac2, hr2, ht2⟩ := hA _ _ k1 k2)
      go_loopw [6, 7, 45] (fun v z i wx => ∃ (k m c : Nat) (L : List Int) (a : Option Addr) (zi : Int), k ≤ l0.length ∧ i = .int .i64 k ∧ v = .slice a m c ∧ m = L.length ∧ m ≤ c ∧ RowI wx .i64 a L ∧ L.Perm ((srt l0).drop k) ∧ z = .int .i64 zi ∧ Hid (∀ t (h : t < (srt l0).length), k ≤ t → 0 < k → zi ≤ (srt l0)[t]) ∧ Two w wx w1.heap.size (w1.heap.size + 1) l0 l0) (fun _ _ i _ => l0.length - (intOf i).toNat)
      case atStart => exact ⟨0, l0.length, c2, l0, a2, 0, Nat.zero_le _, rfl, rfl, rfl, hac2, hr2, by rw [List.drop_zero]; exact (srt_perm l0).symm, rfl, Lib.hid (fun t h h1 h2 => by omega), ht2⟩
      case round =>
        obtain ⟨k, m, c, L, a, zi, hk, rfl, rfl, hm, hmc, hrL, hpL, rfl, hz, htw⟩ := hrel
        subst hm
        have hsl := srt_len l0
        by_cases hlt : k < l0.length
        · have hks : k < (srt l0).length := by omega
          obtain ⟨Fa, Fb, hA1, hB1, hAB, hFa, hFb, hbx⟩ := htw
          have hget : (srt l0)[k + 1 - 1]? = some (srt l0)[k] := by rw [Nat.add_sub_cancel, List.getElem?_eq_getElem hks]
          have hdk : (srt l0).drop k = (srt l0)[k] :: (srt l0).drop (k + 1) := List.drop_eq_getElem_cons hks
          have hzz := hz.out k hks (Nat.le_refl _)
          have hsort := srt_sorted l0
          have hnext : Hid (∀ t (h : t < (srt l0).length), k + 1 ≤ t → 0 < k + 1 → (srt l0)[k] ≤ (srt l0)[t]) := Lib.hid (fun t h h1 _ => sorted_le hsort k t (by omega) h)
          rw [hdk] at hpL
          generalize (srt l0)[k] = x at *
          have hmem : x ∈ L := hpL.mem_iff.2 (List.mem_cons_self ..)
          have hwp : (wout x L).Perm ((srt l0).drop (k + 1)) := List.Perm.cons_inv ((wout_perm x L hmem).trans hpL)
          have hll : L.length ≤ 1000 := by have := hpL.length_eq; rw [List.length_cons, List.length_drop] at this; omega
          have HR := fun F g wx (h : HistL wx F g l0) => Lib.hid (hl_rank F g l0 (k + 1) ((k : Int) + 1) (by omega) (some x) x true wx h (by omega) (by omega) hget rfl rfl)
          have HW := fun wx (h : RowI wx .i64 a L) => Lib.hid (ref_without a L.length c L x wx rfl hmc h hmem hll)
          have HWP := Lib.hid hwp
          clear hget hdk hsort hpL hmem hwp
          have hnn : (x != x) = false := by simp
          go_wp2_with (go_at_call 25; (with_reducible refine (HR _ _ _ hA1).out.mono ?_); rintro e w3 ⟨rfl, b3⟩; have hB3 := hB1.below b3)
          go_wp2_with (go_at_call 25; (with_reducible refine (HR _ _ _ hB3).out.mono ?_); rintro e w4 ⟨rfl, b4⟩; have b34 := b3.trans (b4.mono b3.size); have hr4 := hrL.below b34)
          have hbw4 := hbx.trans (b34.mono hbx.size)
          have hT4 : Two w w4 w1.heap.size (w1.heap.size + 1) l0 l0 := ⟨Fa, Fb, hA1.below b34, hB1.below b34, hAB, hFa, hFb, hbw4⟩
          by_cases hk0 : 0 < k
          · have hzz' := hzz hk0
            go_wp2_with (go_at_call 21; (with_reducible refine (HW _ hr4).out.mono ?_); rintro e w5 ⟨a5, m5, c5, rfl, hm5, hmc5, hr5, b5⟩; have hT5 := hT4.below b5)
            go_roundw
            case rel => exact ⟨k + 1, (wout x L).length, c5, wout x L, a5, x, by omega, by go_num, rfl, rfl, by omega, hr5, HWP.out, rfl, hnext, hT5⟩
            case measure => simp [intOf]; omega
          · go_wp2_with (go_at_call 21; (with_reducible refine (HW _ hr4).out.mono ?_); rintro e w5 ⟨a5, m5, c5, rfl, hm5, hmc5, hr5, b5⟩; have hT5 := hT4.below b5)
            go_roundw
            case rel => exact ⟨k + 1, (wout x L).length, c5, wout x L, a5, x, by omega, by go_num, rfl, rfl, by omega, hr5, HWP.out, rfl, hnext, hT5⟩
            case measure => simp [intOf]; omega
        · have hL0 : L.length = 0 := by rw [hpL.length_eq, List.length_drop]; omega
          have hbx := htw.bel
          go_wp2
          go_ret
          exact ⟨rfl, hbx⟩
end Go.Proofs.Ythlhbkcbemgkeaa
