/- quote.Quote: the whole text in marks. -/
import Derived.Test.YtcigklninmddaaaGreatDoorQTold
namespace Go.Proofs.YtcigklninmddaaaGreatDoor
set_option maxRecDepth 4000
open Go.ChangeShapes Go.WideShapes Go.ChangeAt Go.RowKit
open PSign PHex PQuote
set_option linter.unusedVariables false

theorem bld_made (w : World) : (zeroValue 46).run Tryz.prog w = .ok (.agg #[.pointer none, .slice none 0 0]) w := by kernel_rfl

theorem bstr_len (l : List UInt8) : (bstr l).size = l.length := by simp [ByteArray.size]
theorem bstr_list (l : List UInt8) : (bstr l).data.toList = l := rfl

theorem BldOn.it {B b g pos : Nat} {l : List UInt8} {s : ByteArray} {w w' : World} (h : BldOn B b l w w') (hk : w.heap[g]? = some (.stringIter s pos)) (hg : g ≠ b) : w'.heap[g]? = some (.stringIter s pos) := h.2.2.iter hk hg

/-- A builder that a call that makes memory alone leaves as it is. -/
theorem bld_below {B b B' : Nat} {l : List UInt8} {w w' : World} (h : Bld B b l w) (hb : Below w.heap.size w w') : Bld B b l w' := by
  have keep : ∀ k o, w.heap[k]? = some o → w'.heap[k]? = some o := fun k o hk => by rw [hb.block k (Array.getElem?_eq_some_iff.1 hk).1]; exact hk
  have at_ : ∀ p, Lib.BuilderAtF 46 5 B b p (Lib.byteCells l) w → Lib.BuilderAtF 46 5 B b p (Lib.byteCells l) w' := by
    intro p ⟨hB, v, hbk, hown, hne⟩
    refine ⟨hB, v, keep _ _ hbk, ⟨hown.1, ?_⟩, hne⟩
    rcases hown.2 with h0 | ⟨g, cap, cur, fz, h1, h2, h3, h4⟩
    · exact .inl h0
    · exact .inr ⟨g, cap, cur, fz, h1, h2, keep _ _ h3, h4⟩
  exact h.elim (fun x => .inl (at_ _ x)) (fun x => .inr (at_ _ x))

theorem acc_len {s : ByteArray} {acc rest : List Int} (h : signs s.data.toList = acc ++ rest) (hs : s.size ≤ 4096) : (34 :: toldAll acc).length ≤ 40961 := by
  have h1 := signs_len s.data.toList
  have h2 : s.data.toList.length = s.size := by simp
  have h3 := toldAll_len acc (fun n hn => signs_range s.data.toList n (by rw [h]; exact List.mem_append_left _ hn))
  rw [h, List.length_append] at h1
  simp
  omega

set_option maxRecDepth 100000 in
set_option maxHeartbeats 1000000 in
theorem q_quote (s : ByteArray) (w : World) (hs : s.size ≤ 4096) (he : Env w) :
    Calls Tryz.prog 61 #[.string s] w fun e w' => e = .returned (.string (bstr (quote s.data.toList))) ∧ Below w.heap.size w w' := by
  have hbm := bld_made w
  have hz := b_zero w
  have hb0 : Below w.heap.size w (w.alloc (.cells #[.pointer none, .slice none 0 0] 46)) := (Below.refl _ _).alloc (Nat.le_refl _) _
  have hsz1 : (w.alloc (.cells #[.pointer none, .slice none 0 0] 46)).heap.size = w.heap.size + 1 := by simp
  have HSZ := Lib.hid hsz1
  have HZ := Lib.hid hz
  have HB0 := Lib.hid hb0
  clear hsz1 hz hb0
  have hw1 := fun w' (h : Bld w.heap.size w.heap.size [] w') (hB : w.heap.size ≤ w'.heap.size) => b_write w.heap.size w.heap.size [] ⟨#[34]⟩ w' h (by decide) hB
  have HW1 := Lib.hid hw1
  clear hw1
  go_enter Tryz.func61, Tryz.ntmps61
  go_wp2_with (first | (go_at_call 16; refine (HW1.out _ HZ.out HB0.out.size).mono ?_; rintro e w1 ⟨rfl, hon⟩))
  clear hbm HW1
  have hb1 : Below w.heap.size w w1 := HB0.out.trans hon.2.1
  have hbld1 : Bld w.heap.size w.heap.size [34] w1 := hon.1
  have hlt1 : w.heap.size < w1.heap.size := by have := hon.2.1.size; rw [HSZ.out] at this; omega
  clear HZ HB0 HSZ hon
  go_loopw [4, 5] (fun i r wr => ∃ (pos : Nat) (acc : List Int), wr.heap[w1.heap.size]? = some (.stringIter s pos) ∧ pos ≤ s.size ∧ Hid (signs s.data.toList = acc ++ signs (s.data.toList.drop pos)) ∧ Bld w.heap.size w.heap.size (34 :: toldAll acc) wr ∧ Below w.heap.size w wr) (fun _ _ wr => s.size - wr.iterPos w1.heap.size)
  case atStart => exact ⟨0, [], World.iter_heap w1 s 0, Nat.zero_le _, rfl, hbld1.alloc _, hb1.alloc (by omega) _⟩
  case round =>
    obtain ⟨pos, acc, hit, hp, HA, hbl, hb⟩ := hrel
    have hpos0 := iterPos_it hit
    have hal := acc_len HA.out hs
    by_cases hlt : pos < s.size
    · have hnx : ∀ ty, (Instr.next (.pointer (some ⟨w1.heap.size, 0, none⟩)) true ty).run Tryz.prog wr = _ := fun ty => Lib.run_next_any_at wr w1.heap.size s pos ty hit hlt
      have hit2 := Lib.iterAt_heap wr w1.heap.size s pos (pos + (Utf8.decode s pos).2) hit
      have hb2 := Lib.below_iterAt hb (k := w1.heap.size) (by omega) s (pos + (Utf8.decode s pos).2)
      have hbl2 : Bld w.heap.size w.heap.size (34 :: toldAll acc) (wr.iterAt w1.heap.size s (pos + (Utf8.decode s pos).2)) := Lib.IsBuilderF.iterAt hbl hit _
      have hnum := fun w' => q_number_at s pos w' hlt
      have hsg := signs_at s pos hlt
      have hst := stp_at s pos hlt
      have hst1 := stp_pos (s.data.toList.drop pos)
      have hrg := sg_range (s.data.toList.drop pos)
      rw [step_of_decode] at hnx hit2 hb2 hbl2
      have HN := Lib.hid hnum
      have HA2 : Hid (signs s.data.toList = (acc ++ [sg (s.data.toList.drop pos)]) ++ signs (s.data.toList.drop (pos + stp (s.data.toList.drop pos)))) := by
        show _ = _
        rw [HA.out, hsg, List.append_assoc]
        rfl
      clear hnum hsg hit hbl HA
      generalize sg (s.data.toList.drop pos) = z at *
      generalize stp (s.data.toList.drop pos) = st at *
      generalize hW : wr.iterAt w1.heap.size s (pos + st) = W1 at *
      have hltW := lt_of_it hit2
      clear hW
      have he2 : Env W1 := he.on hb2
      have htold := q_told z W1 hrg.1 hrg.2 he2
      have htl := told_len z hrg.1 hrg.2
      have hsn := toldAll_snoc acc z
      have HT := Lib.hid htold
      have HSN := Lib.hid hsn
      have hwr := fun w' (h : Bld w.heap.size w.heap.size (34 :: toldAll acc) w') (hB : w.heap.size ≤ w'.heap.size) => b_write w.heap.size w.heap.size (34 :: toldAll acc) (bstr (told z)) w' h (by rw [bstr_len]; omega) hB
      have HWR := Lib.hid hwr
      clear htold hsn hwr
      go_wp2_with (first | (go_at_call 83; refine (HN.out _).mono ?_; rintro e x1 ⟨rfl, rfl⟩) | (go_at_call 82; refine HT.out.mono ?_; rintro e w3 ⟨rfl, hb3⟩) | (go_at_call 16; refine (HWR.out _ (bld_below (B' := 0) hbl2 hb3) (Nat.le_trans hb2.size hb3.size)).mono ?_; rintro e w4 ⟨rfl, hon4⟩))
      have hit3 : w3.heap[w1.heap.size]? = some (.stringIter s (pos + st)) := by rw [hb3.block _ hltW]; exact hit2
      have hit4 := hon4.it hit3 (by omega)
      have hb4 : Below w.heap.size w w4 := (on_below hb2 hb3).trans hon4.2.1
      go_roundw
      case rel => exact ⟨pos + st, acc ++ [z], hit4, hst, HA2.out, (by have := hon4.1; rw [List.cons_append, ← HSN.out] at this; exact this), hb4⟩
      case measure => rw [iterPos_it hit4, hpos0]; omega
    · have hnx : ∀ ty, (Instr.next (.pointer (some ⟨w1.heap.size, 0, none⟩)) true ty).run Tryz.prog wr = _ := fun ty => Lib.run_next_end_at wr w1.heap.size s pos ty hit hlt
      have hend := signs_end s pos hlt
      have hall := HA.out
      rw [hend, List.append_nil] at hall
      have hq : quote s.data.toList = (34 :: toldAll acc) ++ [34] := by unfold quote; rw [hall]
      have HQ := Lib.hid hq
      have hwr := b_write w.heap.size w.heap.size (34 :: toldAll acc) ⟨#[34]⟩ wr hbl (by show _ + 1 ≤ _; omega) hb.size
      have HWR := Lib.hid hwr
      clear hall hend HA hq hwr
      go_wp2_with (first | (go_at_call 16; refine HWR.out.mono ?_; rintro e w4 ⟨rfl, hon4⟩; have hb4 := hb.trans hon4.2.1) | (go_at_call 20; refine (b_text _ _ _ _ hon4.1 hb4.size).mono ?_; rintro e w5 ⟨rfl, hb5⟩))
      go_ret
      exact ⟨by rw [HQ.out]; rfl, hb4.trans hb5⟩
end Go.Proofs.YtcigklninmddaaaGreatDoor
