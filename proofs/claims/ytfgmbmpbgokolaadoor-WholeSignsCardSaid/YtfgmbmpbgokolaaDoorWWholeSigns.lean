/- The walk of the law WholeSigns. -/
import Derived.Test.YtfgmbmpbgokolaaDoorWQuoteSigns
import Derived.Test.YtfgmbmpbgokolaaDoorCrc3
import Derived.Test.YtfgmbmpbgokolaaDoorCrcMore
namespace Go.Proofs.YtfgmbmpbgokolaaDoor
open Go.ChangeShapes Go.WideShapes Go.ChangeAt Go.RowKit
open PSign PHex PQuote PCrc
set_option linter.unusedVariables false

theorem quo_a (w : World) (he : Env w) : Calls Tryd.prog 13 #[.string ⟨#[97]⟩] w fun e w' => e = .returned (.string ⟨#[34, 97, 34]⟩) ∧ Below w.heap.size w w' := by
  have h := q_quote ⟨#[97]⟩ w (by simp [ByteArray.size]) he
  have e : PQuote.quote [97] = [34, 97, 34] := by
    unfold PQuote.quote
    rw [signs_cons _ (by simp), show sg [97] = 97 by decide, show stp [97] = 1 by decide]
    show 34 :: toldAll (97 :: signs []) ++ [34] = _
    rw [signs_nil]
    decide
  rw [show (ByteArray.mk #[97]).data.toList = [97] from rfl, e] at h
  exact h
theorem sum_line (g : Nat) (w : World) (h : Tab w g) : Calls Tryd.prog 17 #[.pointer (some ⟨g, 0, none⟩), .string ⟨#[49, 50, 51, 52, 53, 54, 55, 56, 57]⟩] w fun e w' => e = .returned (.int .u32 (3421780262 : Nat)) ∧ ∃ n, w' = w.drewN n :=
  crc_sum_v 3421780262 g ⟨#[49, 50, 51, 52, 53, 54, 55, 56, 57]⟩ w h (by decide) sum_nine

/-- The byte at a place. -/
def bAt (X : List UInt8) (j : Nat) : UInt8 := X.getD j 0
theorem sg_cell (w : World) (X : List UInt8) (N j : Nat) (hN : X.length = N) (hj : j < N) (hX : N ≤ 3042) (e : TypeId) :
    (Lib.bytesWorld w e (bstr X)).cell? ⟨w.heap.size, j, none⟩ = some (.int .u8 ((bAt X j).toNat : Int)) ∧ (Lib.bytesWorld w e (bstr X)).frozen? ⟨w.heap.size, j, none⟩ = false := by
  have hs : (bstr X).size = N := by rw [bstr_len]; exact hN
  have ho := bytes_own w (bstr X) e (by rw [hs]; unfold maxLen; omega)
  rw [hs] at ho
  have c := ho.cell j hj
  have f := ho.free j hj
  rw [Nat.zero_add] at c f
  exact ⟨c, f⟩
theorem sg_text (w : World) (X : List UInt8) (N j : Nat) (hN : X.length = N) (hj : j < N) (hX : N ≤ 3042) (c : UInt8) (z : Int) (hz : z = c.toNat) (cap : Nat) :
    (convert 36 9 (.slice (some ⟨w.heap.size, 0, none⟩) N cap)).run Tryd.prog ((Lib.bytesWorld w 5 (bstr X)).setCell ⟨w.heap.size, j, none⟩ (.int .u8 z)) =
      .ok (.string (bstr (X.set j c))) ((Lib.bytesWorld w 5 (bstr X)).setCell ⟨w.heap.size, j, none⟩ (.int .u8 z)) := by
  subst hz
  have hs : (bstr X).size = N := by rw [bstr_len]; exact hN
  have ho := bytes_own w (bstr X) 5 (by rw [hs]; unfold maxLen; omega)
  rw [hs] at ho
  have h2 := ho.set j hj (.int .u8 (c.toNat : Int))
  rw [Nat.zero_add] at h2
  have h3 := own_string (P := Tryd.prog) h2 (X.set j c) (by rw [List.length_set]; omega) (fun i hi => by
    show (if i = j then _ else _) = _
    rw [List.getElem_set]
    by_cases e : j = i
    · subst e
      rw [if_pos rfl, if_pos rfl]
    · rw [if_neg (fun h => e h.symm), if_neg e]
      have hi' : i < X.length := by rw [List.length_set] at hi; exact hi
      simp [List.getD, List.getElem?_eq_getElem hi']) cap 36 9 5 Tryd.underlying36 Tryd.underlying5 Tryd.underlying9
  rw [List.length_set, hN] at h3
  exact h3

set_option maxRecDepth 100000 in
set_option maxHeartbeats 2000000 in
theorem walk_WholeSigns (w : World) (he : Env w) (a0 : ByteArray) (w0 : a0.size ≤ maxLen) (a1 : Int) (w1 : (Lit.int .u16 a1).wf = true) (a2 : Int) (w2 : (Lit.int .u8 a2).wf = true) :
    Calls Tryd.prog 6 #[.string a0, .int .u16 a1, .int .u8 a2] w fun e w' => e = .returned (.bool true) ∧ Below w.heap.size w w' := by
  have hb1 := bounds_u16 w1
  have hb2 := bounds_u8 w2
  obtain ⟨at', rfl⟩ := Int.eq_ofNat_of_zero_le hb1.1
  obtain ⟨by', rfl⟩ := Int.eq_ofNat_of_zero_le hb2.1
  clear w1 w2
  have HA := Lib.hid quo_a
  have HSUM := Lib.hid sum_line
  by_cases hbig : 300 < a0.size
  · go_enter Tryd.func6, Tryd.ntmps6
    go_wp2_with (first | (go_at_call 16; refine (crc_new _).mono ?_; rintro e w2 ⟨g, rfl, hg, ht2, hbl⟩; have he2 := he.on hbl) | (go_at_call 17; refine (HSUM.out g _ ht2).mono ?_; rintro e w3 ⟨rfl, n, rfl⟩) | (go_at_call 13; refine (HA.out _ (he2.on (below_drewN (Below.refl _ _) n))).mono ?_; rintro e w4 ⟨rfl, hb4⟩))
    go_ret
    exact ⟨rfl, on_below (below_drewN hbl n) hb4⟩
  · have hl : a0.data.toList.length = a0.size := by simp
    have hL : (sld a0.data.toList).length ≤ 304 := by rw [sld_len]; omega
    have HSEAL : Hid (∀ (g : Nat) (w : World), Tab w g → Calls Tryd.prog 18 #[.pointer (some ⟨g, 0, none⟩), .string a0] w fun e w' => e = .returned (.string (bstr (sld a0.data.toList))) ∧ Below w.heap.size w w') := fun g w h => crc_seal g a0 w h (by omega)
    have HOPEN : Hid (∀ (g : Nat) (w : World), Tab w g → Calls Tryd.prog 19 #[.pointer (some ⟨g, 0, none⟩), .string (bstr (sld a0.data.toList))] w fun e w' => e = .returned (.tuple #[.string a0, .bool true]) ∧ Below w.heap.size w w') := fun g w h => crc_open_sld g a0 w h (by omega)
    have HQ : Hid (∀ w, Env w → Calls Tryd.prog 13 #[.string (bstr (sld a0.data.toList))] w fun e w' => e = .returned (.string (bstr (PQuote.quote (sld a0.data.toList)))) ∧ Below w.heap.size w w') := fun w he => q_quote (bstr (sld a0.data.toList)) w (by rw [bstr_len]; omega) he
    have HU : Hid (∀ w, Env w → Calls Tryd.prog 14 #[.string (bstr (PQuote.quote (sld a0.data.toList)))] w fun e w' => e = .returned (.tuple #[.string (bstr (sld a0.data.toList)), .bool true]) ∧ Below w.heap.size w w') := fun w he => unq_ok (sld a0.data.toList) w he (by omega)
    have hqs := quote_big (sld a0.data.toList)
    generalize sld a0.data.toList = L at *
    have hqn : 1 ≤ (PQuote.quote L).length := by unfold PQuote.quote; simp
    obtain ⟨X, hX⟩ : ∃ X, PQuote.quote L = X := ⟨_, rfl⟩
    rw [hX] at hqs hqn HQ HU
    have hx3 : (bstr X).size = X.length := bstr_len X
    have hXs : X.length ≤ 3042 := by omega
    have kb := fun w => bytes_run w (bstr X)
    rw [hx3] at kb
    have HXL := Lib.hid hX
    clear hqs hX hL hl
    obtain ⟨N, hN⟩ : ∃ N, X.length = N := ⟨_, rfl⟩
    rw [hN] at kb hqn hXs hx3
    obtain ⟨j, hj⟩ : ∃ j, at' % N = j := ⟨_, rfl⟩
    have hjN : j < N := by rw [← hj]; exact Nat.mod_lt _ hqn
    have hji : (at' : Int) % (N : Int) = (j : Int) := by rw [← hj]; rfl
    have hNz : (N : Int) ≠ 0 := by omega
    have HN := Lib.hid hN
    clear hj hN
    have he2' : ∀ (w2 : World), Below w.heap.size w w2 → Env w2 := fun w2 h => he.on h
    have HE := Lib.hid he2'
    clear he2'
    obtain ⟨c', hc'⟩ : ∃ c' : UInt8, c' = UInt8.ofNat ((bAt X j).toNat + by') := ⟨_, rfl⟩
    have hcz : (((bAt X j).toNat : Int) + by') % 256 = (c'.toNat : Int) := by
      rw [hc', UInt8.toNat_ofNat']
      omega
    have HC := Lib.hid hc'
    have HCZ := Lib.hid hcz
    have hYl : (bstr (X.set j c')).size ≤ 4096 := by rw [bstr_len, List.length_set, HN.out]; omega
    have HU2 : Hid (∀ w, Env w → Calls Tryd.prog 14 #[.string (bstr (X.set j c'))] w (UnqPost (bstr (X.set j c')) w)) := fun w he => unq_any _ w he hYl
    clear hc' hcz hYl
    go_enter Tryd.func6, Tryd.ntmps6
    go_wp2_with (first | (go_at_call 16; refine (crc_new _).mono ?_; rintro e w2 ⟨g, rfl, hg, ht2, hbl⟩; have he2 := he.on hbl) | (go_at_call 17; refine (HSUM.out g _ ht2).mono ?_; rintro e w3 ⟨rfl, n, rfl⟩) | (go_at_call 13; first | ((with_reducible refine (HA.out _ (he2.on (below_drewN (Below.refl _ _) n))).mono ?_); rintro e w4 ⟨rfl, hb4⟩; have hb5 := on_below (below_drewN hbl n) hb4; have ht5 := tab_on (B := 0) (tab_drewN ht2 n) hb4) | ((with_reducible refine (HQ.out _ (HE.out _ hb7)).mono ?_); rintro e w8 ⟨rfl, hb8⟩; have hb9 := on_below hb7 hb8; have ht9 := tab_on (B := 0) ht7 hb8)) | (go_at_call 18; refine (HSEAL.out g _ ht5).mono ?_; rintro e w6 ⟨rfl, hb6⟩; have hb7 := on_below hb5 hb6; have ht7 := tab_on (B := 0) ht5 hb6) | (go_at_call 14; (with_reducible refine (HU.out _ (HE.out _ hb9)).mono ?_); rintro e w10 ⟨rfl, hb10⟩; have hb11 := on_below hb9 hb10; have ht11 := tab_on (B := 0) ht9 hb10) | (go_at_call 19; refine (HOPEN.out g _ ht11).mono ?_; rintro e w12 ⟨rfl, hb12⟩; have hb13 := on_below hb11 hb12; have hown := bytes_own w12 (bstr X) 5 (by rw [hx3]; unfold maxLen; omega); have hbW := bytes_below hb13 (Nat.le_refl _) (bstr X) 5; obtain ⟨qc, qf⟩ := sg_cell w12 X N j HN.out hjN hXs 5; have hgl : w12.heap.size < (Lib.bytesWorld w12 5 (bstr X)).heap.size := (by rw [Lib.bytesWorld_size]; omega); have kc := sg_text w12 X N j HN.out hjN hXs c' _ HCZ.out (grownCap w12 N 0 5); have hbS := hbW.setCell (p := ⟨w12.heap.size, j, none⟩) hb13.size (.int .u8 ((((bAt X j).toNat : Int) + by') % 256))))
    go_at_call 14
    refine (HU2.out _ (HE.out _ hbS)).mono ?_
    rintro e w14 ⟨l, b, rfl, hll, ht, hf, hb14⟩
    have hbF := on_below hbS hb14
    by_cases hby : by' = 0
    · subst hby
      clear ht hf hll
      go_wp2
      go_ret
      exact ⟨rfl, hbF⟩
    have hby0 : ((by' : Int) == 0) = false := by simpa using hby
    cases b with
    | false =>
      clear ht hf hll
      go_wp2
      go_ret
      exact ⟨rfl, hbF⟩
    | true =>
      have hne : l ≠ L := by
        intro hl
        have h1 := ht rfl
        rw [hl, HXL.out] at h1
        have h2 : X = X.set j c' := h1
        have hjX : j < X.length := by rw [HN.out]; exact hjN
        have h3 : X[j] = c' := by
          have h4 : (X.set j c')[j]'(by rw [List.length_set]; exact hjX) = c' := List.getElem_set_self _
          rw [← h4]
          exact (List.getElem_of_eq h2 hjX)
        have h5 : bAt X j = X[j] := by unfold bAt; simp [List.getD, List.getElem?_eq_getElem hjX]
        have h6 := HCZ.out
        rw [h5, h3] at h6
        have := c'.toNat_lt
        omega
      have hnl : (l != L) = true := by simpa using hne
      clear ht hf hll hne
      go_wp2
      go_ret
      exact ⟨ret_bool hnl, hbF⟩
end Go.Proofs.YtfgmbmpbgokolaaDoor
