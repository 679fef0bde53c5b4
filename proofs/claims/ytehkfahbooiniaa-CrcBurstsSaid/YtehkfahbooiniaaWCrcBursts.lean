/- The walk of the law CrcBursts. -/
import Derived.Test.YtehkfahbooiniaaCrcRef2
import Derived.Test.YtehkfahbooiniaaCrcBurst
import Derived.Test.YtehkfahbooiniaaBytes
namespace Go.Proofs.Ytehkfahbooiniaa
open Go.ChangeShapes Go.WideShapes Go.ChangeAt Go.RowKit
open PCrc
set_option linter.unusedVariables false

/-- What the law's loop keeps. -/
structure Harm (l : List UInt8) (n first : Nat) (c : Nat → Nat) : Prop where
  lt : ∀ j, c j < 256
  tail : ∀ j, n ≤ j → c j = ((sld l).getD j 0).toNat
  bit : ∀ k, k < 8 * n → k < first ∨ first + 32 ≤ k → bt (c (k / 8)) (k % 8) = tb l k

theorem harm_start (l : List UInt8) (first : Nat) : Harm l l.length first (fun j => ((sld l).getD j 0).toNat) := by
  refine ⟨fun j => UInt8.toNat_lt _, fun j hj => rfl, fun k hk _ => ?_⟩
  have h : k / 8 < l.length := by omega
  unfold tb bt
  rw [List.getElem?_eq_getElem h]
  have : (sld l).getD (k / 8) 0 = l[k / 8] := by
    unfold sld
    rw [List.getD_eq_getElem?_getD, List.getElem?_append_left h, List.getElem?_eq_getElem h]
    rfl
  rw [this]
  rfl

theorem harm_next {l : List UInt8} {n first m : Nat} {c : Nat → Nat} (h : Harm l n first c) (hm : m < 32) (hk : first + m < 8 * n) :
    Harm l n first (fun j => if j = (first + m) / 8 then c j ^^^ 2 ^ ((first + m) % 8) else c j) := by
  refine ⟨fun j => ?_, fun j hj => ?_, fun k hk' hw => ?_⟩
  · show (if _ then _ else _) < 256
    split
    · exact flip_lt (h.lt _) (Nat.mod_lt _ (by decide))
    · exact h.lt _
  · show (if _ then _ else _) = _
    rw [if_neg (by omega)]
    exact h.tail j hj
  · show bt (if _ then _ else _) _ = _
    split
    · rename_i e
      rw [flip_other _ _ _ (by omega)]
      exact h.bit k hk' hw
    · exact h.bit k hk' hw

/-- The bytes behind the loop. -/
def harmed (n : Nat) (c : Nat → Nat) : List UInt8 := (List.range n).map fun j => UInt8.ofNat (c j)
theorem harmed_len (n : Nat) (c : Nat → Nat) : (harmed n c).length = n := by simp [harmed]
theorem harmed_get {n : Nat} {c : Nat → Nat} (hc : ∀ j, c j < 256) (j : Nat) (h : j < (harmed n c).length) : (harmed n c)[j].toNat = c j := by
  simp [harmed]
  have := hc j
  omega
theorem harm_bits {l : List UInt8} {n first : Nat} {c : Nat → Nat} (hl : l.length = n) (h : Harm l n first c) (k : Nat) (hk : k < 8 * l.length) (hw : k < first ∨ first + 32 ≤ k) : tb l k = tb (harmed n c) k := by
  rw [← h.bit k (by omega) hw]
  unfold tb bt
  rw [List.getElem?_eq_getElem (by rw [harmed_len]; omega)]
  have := harmed_get (n := n) h.lt (k / 8) (by rw [harmed_len]; omega)
  simp only [Option.map_some, Option.getD_some]
  rw [this]
theorem harm_cells {l : List UInt8} {n first : Nat} {c : Nat → Nat} (hl : l.length = n) (h : Harm l n first c) (j : Nat) (hj : j < (harmed n c ++ four (PCrc.sum l)).length) : c j = (harmed n c ++ four (PCrc.sum l))[j].toNat := by
  by_cases hjn : j < n
  · rw [List.getElem_append_left (by rw [harmed_len]; exact hjn), harmed_get h.lt]
  · rw [List.getElem_append_right (by rw [harmed_len]; omega), h.tail j (by omega)]
    have hj4 : j - n < (four (PCrc.sum l)).length := by rw [List.length_append, harmed_len] at hj; omega
    unfold sld
    rw [List.getD_eq_getElem?_getD, List.getElem?_append_right (by omega)]
    simp only [harmed_len, hl]
    rw [List.getElem?_eq_getElem hj4]
    rfl

set_option maxRecDepth 100000 in
set_option maxHeartbeats 1000000 in
theorem walk_CrcBursts (w : World) (a0 : ByteArray) (w0 : a0.size ≤ maxLen) (a1 : Int) (w1 : (Lit.int .u16 a1).wf = true) (a2 : Int) (w2 : (Lit.int .u32 a2).wf = true) :
    Calls Try.prog 5 #[.string a0, .int .u16 a1, .int .u32 a2] w fun e w' => e = .returned (.bool true) ∧ Below w.heap.size w w' := by
  have hb1 := bounds_u16 w1
  have hb2 := bounds_u32 w2
  obtain ⟨at', rfl⟩ := Int.eq_ofNat_of_zero_le hb1.1
  obtain ⟨mask, rfl⟩ := Int.eq_ofNat_of_zero_le hb2.1
  clear w1 w2
  by_cases hbig : 2000 < a0.size
  · go_enter Try.func5, Try.ntmps5
    go_wp2_with (go_at_call 6; refine (speaks3 _).mono ?_; rintro e w1 ⟨rfl, hb⟩)
    go_ret
    exact ⟨rfl, hb⟩
  · by_cases hemp : a0.size = 0
    · have : a0 = ⟨#[]⟩ := by
        apply ByteArray.ext
        exact Array.eq_empty_of_size_eq_zero hemp
      subst this
      clear hemp hbig
      go_enter Try.func5, Try.ntmps5
      go_wp2_with (go_at_call 6; refine (speaks3 _).mono ?_; rintro e w1 ⟨rfl, hb⟩)
      go_ret
      exact ⟨rfl, hb⟩
    · have hne : a0.toList.isEmpty = false := by
        rw [Lib.toList_data]
        cases h : a0.data.toList with
        | nil => exfalso; apply hemp; have := congrArg List.length h; simpa using this
        | cons x l => rfl
      have kb := fun w => bytes_run w (bstr (sld a0.data.toList))
      have hsz : (bstr (sld a0.data.toList)).size = a0.size + 4 := by
        show (sld a0.data.toList).toArray.size = _
        rw [List.size_toArray, sld_len]
        simp
      rw [hsz] at kb
      obtain ⟨n, hn⟩ : ∃ n, a0.size = n := ⟨_, rfl⟩
      obtain ⟨first, hfirst⟩ : ∃ f, at' % (8 * n) = f := ⟨_, rfl⟩
      have hn1 : 1 ≤ n := by omega
      have hflt : first < 8 * n := by rw [← hfirst]; exact Nat.mod_lt _ (by omega)
      obtain ⟨N, hN⟩ : ∃ N, 8 * n = N := ⟨_, rfl⟩
      have hNi : 8 * (n : Int) = (N : Int) := by omega
      have hfi : (at' : Int) % (N : Int) = (first : Int) := by rw [← hfirst, hN]; rfl
      rw [hN] at hflt
      rw [hn] at hsz
      have hlen : a0.data.toList.length = n := by simp; omega
      have HLEN := Lib.hid hlen
      have hn2 : n ≤ 2000 := by omega
      have hd2 : decide (2000 < (n : Int)) = false := by simp; omega
      have hd3 : (2000 < (n : Int)) = False := by simp; omega
      clear hbig
      go_enter Try.func5, Try.ntmps5
      go_wp2_with (first | (go_at_call 6; refine (speaks3 _).mono ?_; rintro e w1 ⟨rfl, hb⟩) | (go_at_call 7; refine (crc_new _).mono ?_; rintro e w2 ⟨g, rfl, hg, ht2, hb2⟩) | (go_at_call 8; refine (crc_seal g a0 _ ht2 (by omega)).mono ?_; rintro e w3 ⟨rfl, hb3⟩; have ht3 := tab_on (B := 0) ht2 hb3))
      have hown := bytes_own w3 (bstr (sld a0.data.toList)) 5 (by rw [hsz]; unfold maxLen; omega)
      rw [hsz] at hown
      have hall : Below w.heap.size w (Lib.bytesWorld w3 5 (bstr (sld a0.data.toList))) := bytes_below (on_below (on_below hb hb2) hb3) (Nat.le_refl _) _ _
      have htab : Tab (Lib.bytesWorld w3 5 (bstr (sld a0.data.toList))) g := Own.upd ht3 (bytes_upd (fun _ => False) w3 _ _) id
      have hG : g < w3.heap.size := ht3.lt
      have hB : w.heap.size ≤ w3.heap.size := (on_below (on_below hb hb2) hb3).size
      have hharm : Harm a0.data.toList n first (fun j => ((sld a0.data.toList).getD j 0).toNat) := by rw [← hlen]; exact harm_start _ _
      have HOWN := Lib.hid hown
      clear hlen kb hown hne ht2 ht3 hb hb2 hb3
      generalize Lib.bytesWorld w3 5 (bstr (sld a0.data.toList)) = w4 at *
      generalize w3.heap.size = G at *
      have hcap := grownCap_ge w3 (n + 4) 0 5
      generalize grownCap w3 (n + 4) 0 5 = cap at *
      have hcapI : (n : Int) ≤ (cap : Int) := by omega
      rw [hfi]
      go_loopw [11, 12, 36] (fun i k x wx => ∃ (m : Nat) (c : Nat → Nat), m ≤ 32 ∧ x = .int .i64 m ∧ Own wx G 0 (n + 4) (fun j => .int .u8 (c j : Nat)) ∧ Harm a0.data.toList n first c ∧ Tab wx g ∧ Below w.heap.size w wx) (fun _ _ x _ => 32 - (intOf x).toNat)
      case atStart => exact ⟨0, _, by omega, rfl, HOWN.out, hharm, htab, hall⟩
      case round =>
        clear HOWN hharm htab hall
        obtain ⟨m, c, hm, rfl, ho, hh, ht, hb⟩ := hrel
        by_cases hlt : m < 32
        · obtain ⟨kk, hkk⟩ : ∃ kk, first + m = kk := ⟨_, rfl⟩
          have hki : (first : Int) + (m : Int) = (kk : Int) := by omega
          obtain ⟨q, hq⟩ : ∃ q, kk / 8 = q := ⟨_, rfl⟩
          obtain ⟨r, hr⟩ : ∃ r, kk % 8 = r := ⟨_, rfl⟩
          have hqi : (kk : Int) / 8 = (q : Int) := by omega
          have hri : (kk : Int) % 8 = (r : Int) := by omega
          have hr8 : r < 8 := by omega
          have HQ := Lib.hid hq
          have HR := Lib.hid hr
          have HK := Lib.hid hkk
          have HN := Lib.hid hN
          clear hq hr hkk
          go_wp2
          · have hqn : q < n + 4 := by have := HQ.out
                                       have := HN.out
                                       omega
            have hqI : (q : Int) < (n : Int) + 4 := by omega
            have hc := ho.cell q hqn
            have hf := ho.free q hqn
            have hlt3 := ho.lt
            have hset := ho.drew.set q hqn (.int .u8 (c q ^^^ 2 ^ r : Nat))
            have hcl := hh.lt q
            have hx := xor_u8 (c q) (2 ^ r) hcl (by have : 2 ^ r < 2 ^ 8 := Nat.pow_lt_pow_right (by decide) hr8
                                                    exact this)
            rw [Nat.zero_add] at hc hf hset
            have hp2 : (2 : Int) ^ r % 256 = ((2 ^ r : Nat) : Int) := by
              have h1 : 2 ^ r < 2 ^ 8 := Nat.pow_lt_pow_right (by decide) hr8
              rw [show (2 : Int) ^ r = ((2 ^ r : Nat) : Int) by simp]
              exact Int.emod_eq_of_lt (Int.natCast_nonneg _) (Int.ofNat_lt.2 h1)
            have hkN : first + m < 8 * n := by have := HN.out
                                               have := HK.out
                                               omega
            have hnext := harm_next hh hlt hkN
            rw [HK.out, HQ.out, HR.out] at hnext
            have HX := Lib.hid hx
            have HP2 := Lib.hid hp2
            have HSET := Lib.hid hset
            clear hx hp2 hset
            go_region
            have hown2 : Own ((wr.setCell ⟨G, q, none⟩ (.int .u8 (bits .xor .u8 (c q : Int) ((2 : Int) ^ r % 256)))).drew) G 0 (n + 4) (fun j => .int .u8 ((if j = q then c j ^^^ 2 ^ r else c j : Nat) : Int)) := by
              rw [HP2.out, HX.out]
              exact HSET.out.congr (fun j hj => by by_cases e : j = q <;> simp [e])
            have htab2 : Tab ((wr.setCell ⟨G, q, none⟩ (.int .u8 (bits .xor .u8 (c q : Int) ((2 : Int) ^ r % 256)))).drew) g :=
              Own.upd (S := fun k => k = G) ht (((Upd.refl (fun k => k = G) wr).setCell (p := ⟨G, q, none⟩) (fun _ => rfl) _).drew) (by omega)
            have hbel2 : Below w.heap.size w ((wr.setCell ⟨G, q, none⟩ (.int .u8 (bits .xor .u8 (c q : Int) ((2 : Int) ^ r % 256)))).drew) := (hb.setCell (by exact hB) _).drew
            go_wp2
            go_roundw
            case rel => exact ⟨m + 1, _, by omega, by go_num, hown2, hnext, htab2, hbel2⟩
            case measure => simp [intOf]; omega
          · go_roundw
            case rel => first | exact ⟨m + 1, c, by omega, by go_num, ho, hh, ht, hb⟩ | ((repeat apply Exists.intro); exact ⟨⟨m + 1, c, by omega, by go_num, ho, hh, ht, hb⟩, rfl⟩)
            case measure => simp [intOf]; omega
          · go_roundw
            case rel => first | exact ⟨m + 1, c, by omega, by go_num, ho, hh, ht, hb⟩ | ((repeat apply Exists.intro); exact ⟨⟨m + 1, c, by omega, by go_num, ho, hh, ht, hb⟩, rfl⟩)
            case measure => simp [intOf]; omega
        · obtain rfl : m = 32 := by omega
          have hx1 := harm_cells HLEN.out hh
          have hxl : (harmed n c ++ four (PCrc.sum a0.data.toList)).length = n + 4 := by rw [List.length_append, harmed_len, four_len]
          have kc1 := own_string (P := Try.prog) ho (harmed n c ++ four (PCrc.sum a0.data.toList)) (by omega) (fun j hj => by rw [hx1 j hj]) cap 32 9 5 Try.underlying32 Try.underlying5 Try.underlying9
          rw [hxl] at kc1
          have kc2 : ∀ w', Own w' G 0 (n + 4) (fun j => .int .u8 (c j : Nat)) → _ := fun w' ho' => own_string (P := Try.prog) (w := w') ho' (harmed n c) (by rw [harmed_len]; omega) (fun j hj => by rw [harmed_get hh.lt j hj]) cap 32 9 5 Try.underlying32 Try.underlying5 Try.underlying9
          rw [harmed_len] at kc2
          have hopn := burst_opn a0.data.toList (harmed n c) first (by rw [HLEN.out, harmed_len]) (by rw [HLEN.out]; omega) (harm_bits HLEN.out hh)
          have hop := crc_open g (bstr (harmed n c ++ four (PCrc.sum a0.data.toList))) wr ht (by show (harmed n c ++ four (PCrc.sum a0.data.toList)).toArray.size ≤ _; rw [List.size_toArray, hxl]; omega)
          have e0 : (bstr (harmed n c ++ four (PCrc.sum a0.data.toList))).data.toList = harmed n c ++ four (PCrc.sum a0.data.toList) := rfl
          rw [e0, hopn] at hop
          clear e0 hopn hx1 hxl hlt
          generalize opened (harmed n c ++ four (PCrc.sum a0.data.toList)) = od at *
          by_cases heq : harmed n c = a0.data.toList
          · rw [decide_eq_true heq] at hop
            have he2 : bstr (harmed n c) = a0 := by rw [heq]
            rw [he2] at kc2
            have HOP := Lib.hid hop
            have KC2 := Lib.hid kc2
            clear hop kc2 heq he2
            go_wp2_with (first | (go_at_call 9; refine HOP.out.mono ?_; rintro e w5 ⟨rfl, hb5⟩; have ho5 : Own w5 G 0 (n + 4) (fun j => .int .u8 (c j : Nat)) := Own.below ho hb5 ho.lt; have kc5 := KC2.out w5 ho5))
            go_ret
            exact ⟨rfl, on_below hb hb5⟩
          · rw [decide_eq_false heq] at hop
            have hq : (harmed n c == a0.toList) = false := by rw [Lib.toList_data]; simpa using heq
            have HOP := Lib.hid hop
            have KC2 := Lib.hid kc2
            clear hop kc2 heq
            go_wp2_with (first | (go_at_call 9; refine HOP.out.mono ?_; rintro e w5 ⟨rfl, hb5⟩; have ho5 : Own w5 G 0 (n + 4) (fun j => .int .u8 (c j : Nat)) := Own.below ho hb5 ho.lt; have kc5 := KC2.out w5 ho5))
            go_ret
            exact ⟨rfl, on_below hb hb5⟩
end Go.Proofs.Ytehkfahbooiniaa
