/- quote.Unquote of a Quote. -/
import Derived.Test.YtcigklninmddaaaGreatDoorQUn3
namespace Go.Proofs.YtcigklninmddaaaGreatDoor
set_option maxRecDepth 4000
open Go.ChangeShapes Go.WideShapes Go.ChangeAt Go.RowKit
open PSign PHex PQuote
set_option linter.unusedVariables false

theorem told_pos (z : Int) : 1 ≤ (told z).length := by
  unfold told
  split
  · simp
  · split
    · simp
    · split <;> simp
theorem suf_yes (x p : List UInt8) (w : World) (h : (x ++ p).length ≤ 100000) : Calls Tryz.prog 80 #[.string (bstr (x ++ p)), .string (bstr p)] w fun e w' => e = .returned (.tuple #[.string (bstr x), .bool true]) ∧ w = w' := by
  have hp : Lib.hasSuffix (x ++ p) p = true := by
    unfold Lib.hasSuffix
    rw [List.isSuffixOf_iff_suffix]
    exact ⟨x, rfl⟩
  have ht : Lib.trimSuffix (x ++ p) p = x := by
    unfold Lib.trimSuffix
    rw [if_pos hp, List.length_append, Nat.add_sub_cancel, List.take_left]
  have h2 := Tryz.strings_CutSuffix (bstr (x ++ p)) (bstr p) w (by rw [bstr_len]; omega)
  rw [bstr_list, bstr_list, hp, ht] at h2
  exact h2.mono fun e w' h => ⟨h.1, h.2.symm⟩
theorem ext_rest (a r : List UInt8) (n : Nat) (hn : n = (bstr (a ++ r)).size) : (bstr (a ++ r)).extract a.length n = bstr r := by
  apply ByteArray.ext
  apply Array.ext'
  rw [Lib.extract_data]
  show List.take (n - a.length) (List.drop a.length (a ++ r)) = r
  rw [List.drop_left, List.take_of_length_le]
  rw [hn, bstr_len, List.length_append]
  omega
theorem drop_ne' {l : List UInt8} {pos : Nat} (h : pos < l.length) : l.drop pos ≠ [] := by
  intro e
  have := congrArg List.length e
  rw [List.length_drop] at this
  simp at this
  omega

set_option maxRecDepth 100000 in
set_option maxHeartbeats 1000000 in
theorem untold_ok (l : List UInt8) (w : World) (he : Env w) (hs : l.length ≤ 4096) :
    Calls Tryz.prog 60 #[.string (bstr (quote l))] w fun e w' => e = .returned (.tuple #[.string (bstr l), .bool true]) ∧ Below w.heap.size w w' := by
  have hlen : (toldAll (signs l)).length ≤ 40960 := by
    have h1 := toldAll_len (signs l) (signs_range l)
    have h2 := signs_len l
    omega
  have hc1 := fun w => cut_yes (quote l) [34] (toldAll (signs l) ++ [34]) rfl w
  have hc2 := fun w => suf_yes (toldAll (signs l)) [34] w (by rw [List.length_append]; simp; omega)
  have HC1 := Lib.hid hc1
  have HC2 := Lib.hid hc2
  have HLEN := Lib.hid hlen
  have hbm := bld_made w
  have hz := b_zero w
  have hb0 : Below w.heap.size w (w.alloc (.cells #[.pointer none, .slice none 0 0] 46)) := (Below.refl _ _).alloc (Nat.le_refl _) _
  have HZ := Lib.hid hz
  have HB0 := Lib.hid hb0
  clear hz hb0 hc1 hc2 hlen
  generalize bstr (quote l) = q at *
  generalize bstr (toldAll (signs l) ++ [34]) = q1 at *
  obtain ⟨q2, hq2⟩ : ∃ q2, bstr (toldAll (signs l)) = q2 := ⟨_, rfl⟩
  have HC3 : Hid (∀ w, Calls Tryz.prog 80 #[.string q1, .string (bstr [34])] w fun e w' => e = .returned (.tuple #[.string q2, .bool true]) ∧ w = w') := by
    intro w
    rw [← hq2]
    exact HC2.out w
  have HQ2 := Lib.hid hq2
  clear HC2 hq2
  go_enter Tryz.func60, Tryz.ntmps60
  go_wp2_with (first | (go_at_call 79; refine (HC1.out _).mono ?_; rintro e w1 ⟨rfl, rfl⟩) | (go_at_call 80; refine (HC3.out _).mono ?_; rintro e w1 ⟨rfl, rfl⟩))
  clear hbm
  go_loopw [4, 8, 9] (fun v p k wr => ∃ (t : ByteArray) (pos : Nat), v = .string t ∧ Hid (t = bstr (toldAll (signs (l.drop pos)))) ∧ pos ≤ l.length ∧ Bld w.heap.size w.heap.size (l.take pos) wr ∧ Below w.heap.size w wr) (fun v _ _ _ => strLen v)
  case atStart => exact ⟨q2, 0, rfl, HQ2.out.symm, Nat.zero_le _, HZ.out, HB0.out⟩
  case round =>
    obtain ⟨t, pos, rfl, HT, hp, hbl, hb⟩ := hrel
    have heW := he.on hb
    by_cases hlt : pos < l.length
    · have hne := drop_ne' hlt
      have hcons := signs_cons (l.drop pos) hne
      rw [List.drop_drop] at hcons
      have henc := enc_sg (l.drop pos) hne
      have hstr := sg_stray (l.drop pos)
      have hrg := sg_range (l.drop pos)
      have hst := stp_le (l.drop pos) hne
      have hta : toldAll (signs (l.drop pos)) = told (sg (l.drop pos)) ++ toldAll (signs (l.drop (pos + stp (l.drop pos)))) := by
        rw [hcons]
        unfold toldAll
        rw [List.flatMap_cons]
      have htake : l.take (pos + stp (l.drop pos)) = l.take pos ++ enc (sg (l.drop pos)) := by rw [henc, List.take_add]
      rw [List.length_drop] at hst
      have hrl : (toldAll (signs (l.drop (pos + stp (l.drop pos))))).length ≤ 40960 := by
        have h1 := toldAll_len (signs (l.drop (pos + stp (l.drop pos)))) (signs_range _)
        have h2 := signs_len (l.drop (pos + stp (l.drop pos)))
        rw [List.length_drop] at h2
        omega
      have HTT := HT.out
      rw [hta] at HTT
      have hpt := told_pos (sg (l.drop pos))
      have hel : (enc (sg (l.drop pos))).length ≤ 4096 := by rw [henc]; rw [List.length_take, List.length_drop]; omega
      clear henc hcons hta hne HT
      generalize sg (l.drop pos) = z at *
      generalize stp (l.drop pos) = st at *
      have hfi := fun w' (h : Env w') => first_ok z (toldAll (signs (l.drop (pos + st)))) w' h hstr hrg.2 (by omega)
      have hex := ext_rest (told z) (toldAll (signs (l.drop (pos + st)))) _ rfl
      have hsz : (bstr (told z ++ toldAll (signs (l.drop (pos + st))))).size = (told z).length + (toldAll (signs (l.drop (pos + st)))).length := by rw [bstr_len, List.length_append]
      have hne : (bstr (told z ++ toldAll (signs (l.drop (pos + st))))).toList.isEmpty = false := by
        rw [Lib.toList_data]
        cases h : told z with
        | nil => rw [h] at hpt; simp at hpt
        | cons a b => rfl
      rw [← HTT] at hfi hex hsz hne
      have HFI := Lib.hid hfi
      have HEX := Lib.hid hex
      have HTK := Lib.hid htake
      have hk0 : (((told z).length : Int) == 0) = false := by simp; intro e; rw [e] at hpt; simp at hpt
      have hkI : ((told z).length : Int) ≤ (t.size : Int) := by omega
      have hwr := fun w' (h : Bld w.heap.size w.heap.size (l.take pos) w') (hB : w.heap.size ≤ w'.heap.size) => b_write w.heap.size w.heap.size (l.take pos) (bstr (enc z)) w' h (by rw [bstr_len, List.length_take]; omega) hB
      have HWR := Lib.hid hwr
      have HSZ := Lib.hid hsz
      clear hfi hex htake hwr HTT hstr hrg hsz
      go_wp2_with (go_at_call 81; refine (HFI.out _ heW).mono ?_)
      rintro e w2 ⟨rfl, hb2⟩
      have hb3 := on_below hb hb2
      go_wp2_with (first | (go_at_call 16; refine (HWR.out _ (bld_below (B' := 0) hbl hb2) hb3.size).mono ?_; rintro e w4 ⟨rfl, hon4⟩))
      have hb4 : Below w.heap.size w w4 := hb3.trans hon4.2.1
      go_roundw
      case rel => exact ⟨_, pos + st, rfl, HEX.out, by omega, (by have := hon4.1; rw [← HTK.out] at this; exact this), hb4⟩
      case measure => rw [HEX.out]; simp only [strLen]; rw [bstr_len, HSZ.out]; omega
    · have hd : l.drop pos = [] := List.drop_eq_nil_of_le (by omega)
      have ht0 : t = ⟨#[]⟩ := by rw [HT.out, hd, signs_nil]; rfl
      have hlt' : l.take pos = l := List.take_of_length_le (by omega)
      rw [hlt'] at hbl
      subst ht0
      clear HT hd hlt'
      have htx := b_text w.heap.size w.heap.size l wr hbl hb.size
      have HTX := Lib.hid htx
      clear htx
      go_wp2_with (first | (go_at_call 20; refine HTX.out.mono ?_; rintro e w5 ⟨rfl, hb5⟩))
      go_ret2
      exact ⟨rfl, hb.trans hb5⟩

set_option maxRecDepth 100000 in
set_option maxHeartbeats 1000000 in
theorem unq_ok (l : List UInt8) (w : World) (he : Env w) (hs : l.length ≤ 4096) :
    Calls Tryz.prog 40 #[.string (bstr (quote l))] w fun e w' => e = .returned (.tuple #[.string (bstr l), .bool true]) ∧ Below w.heap.size w w' := by
  have hu := untold_ok l w he hs
  have hq := fun w' (h : Env w') => q_quote (bstr l) w' (by rw [bstr_len]; omega) h
  have HU := Lib.hid hu
  have HQ := Lib.hid hq
  clear hu hq
  generalize bstr (quote l) = q at *
  go_enter Tryz.func40, Tryz.ntmps40
  go_wp2_with (first | (go_at_call 60; refine HU.out.mono ?_; rintro e w1 ⟨rfl, hb1⟩) | (go_at_call 61; refine (HQ.out _ (he.on hb1)).mono ?_; rintro e w2 ⟨rfl, hb2⟩))
  go_ret2
  exact ⟨rfl, on_below hb1 hb2⟩
end Go.Proofs.YtcigklninmddaaaGreatDoor
