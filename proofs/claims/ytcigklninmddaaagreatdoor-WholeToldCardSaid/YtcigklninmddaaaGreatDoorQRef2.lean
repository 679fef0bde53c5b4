/- The document's own signs: whole texts. -/
import Derived.Test.YtcigklninmddaaaGreatDoorQRef
namespace Go.Proofs.YtcigklninmddaaaGreatDoor
set_option maxRecDepth 4000
open Go.ChangeShapes Go.WideShapes Go.ChangeAt Go.RowKit
open PSign PHex PQuote
set_option linter.unusedVariables false

set_option maxRecDepth 100000 in
set_option maxHeartbeats 1000000 in
theorem ref_first (t : ByteArray) (w : World) (hs : t.size ≤ 4096) (hne : 0 < t.size) :
    Calls Tryz.prog 62 #[.string t] w fun e w' => e = .returned (.tuple #[.int .i64 ((first t.data.toList).1 : Nat), .int .i64 ((first t.data.toList).2 : Nat)]) ∧ w = w' := by
  by_cases c2 : 192 ≤ byt t.data.toList 0 ∧ byt t.data.toList 0 < 224
  · exact ref_first2 t w hs hne c2.1 c2.2
  by_cases c3 : 224 ≤ byt t.data.toList 0 ∧ byt t.data.toList 0 < 240
  · exact ref_first3 t w hs hne c3.1 c3.2
  by_cases c4 : 240 ≤ byt t.data.toList 0 ∧ byt t.data.toList 0 < 248
  · exact ref_first4 t w hs hne c4.1 c4.2
  have hb := byt_get t 0 hne
  have hlt := byt_lt t.data.toList 0
  by_cases c1 : byt t.data.toList 0 < 128
  · have hf : first t.data.toList = (byt t.data.toList 0, 1) := by unfold first; rw [if_pos c1]
    rw [hf]
    clear hf
    generalize byt t.data.toList 0 = c at *
    have h1 : (c : Int) < 128 := by omega
    have h0 : (0 : Int) ≤ (c : Int) := by omega
    clear c1 c2 c3 c4 hs hlt
    go_enter Tryz.func62, Tryz.ntmps62
    go_wp2
    go_ret2
    exact ⟨rfl, rfl⟩
  · have hf : first t.data.toList = (0, 0) := by unfold first; rw [if_neg c1, if_neg c2, if_neg c3, if_neg c4]
    rw [hf]
    clear hf
    generalize byt t.data.toList 0 = c at *
    have h1 : ¬ (c : Int) < 128 := by omega
    by_cases h192 : c < 192
    · have k1 : ¬ (192 : Int) ≤ c := by omega
      have k2 : ¬ (224 : Int) ≤ c := by omega
      have k3 : ¬ (240 : Int) ≤ c := by omega
      clear c1 c2 c3 c4 hs hlt h192
      go_enter Tryz.func62, Tryz.ntmps62
      go_wp2
      go_ret2
      exact ⟨rfl, rfl⟩
    · have k1 : (192 : Int) ≤ c := by omega
      have k0 : (c : Int) < 256 := by omega
      have k2 : ¬ (c : Int) < 224 := by omega
      have k3 : (224 : Int) ≤ c := by omega
      have k4 : ¬ (c : Int) < 240 := by omega
      have k5 : (240 : Int) ≤ c := by omega
      have k6 : ¬ (c : Int) < 248 := by omega
      clear c1 c2 c3 c4 hs hlt h192
      go_enter Tryz.func62, Tryz.ntmps62
      go_wp2
      go_ret2
      exact ⟨rfl, rfl⟩

theorem ref_first_at (s : ByteArray) (pos : Nat) (w : World) (hs : s.size ≤ 4096) (h : pos < s.size) :
    Calls Tryz.prog 62 #[.string (s.extract pos s.size)] w fun e w' => e = .returned (.tuple #[.int .i64 ((first (s.data.toList.drop pos)).1 : Nat), .int .i64 ((first (s.data.toList.drop pos)).2 : Nat)]) ∧ w = w' := by
  have h1 := ref_first (s.extract pos s.size) w (by simp; omega) (by simp; omega)
  rw [ext_drop'] at h1
  exact h1

set_option maxRecDepth 100000 in
set_option maxHeartbeats 1000000 in
theorem ref_signs (s : ByteArray) (w : World) (hs : s.size ≤ 4096) :
    Calls Tryz.prog 41 #[.string s] w fun e w' => ∃ v, e = .returned v ∧ Sl w.heap.size w' 1 v (signs s.data.toList).length (iv (signs s.data.toList)) ∧ Below w.heap.size w w' := by
  obtain ⟨i0, hi, hz0, hz1, hz2⟩ := info_parts info_int
  have hlen := signs_len s.data.toList
  have hl2 : s.data.toList.length = s.size := by simp
  rw [hl2] at hlen
  have HLEN := Lib.hid hlen
  clear hlen hl2
  have h0 : Sl w.heap.size (w.alloc (.cells #[] 3)) 1 (.slice (some ⟨w.heap.size, 0, none⟩) 0 0) 0 [] := by
    simpa using Sl.made (B := w.heap.size) w #[] 3 1 0 0 (Nat.le_refl _) (Nat.le_refl _) (Nat.zero_le _) (by simp)
  have H0 := Lib.hid h0
  clear h0
  go_enter Tryz.func41, Tryz.ntmps41
  go_wp2
  go_loopw [3, 4, 5, 6] (fun v i n m wr => ∃ (pos : Nat) (acc : List Int), i = .int .i64 pos ∧ pos ≤ s.size ∧ Hid (signs s.data.toList = acc ++ signs (s.data.toList.drop pos)) ∧ Sl w.heap.size wr 1 v acc.length (iv acc) ∧ Below w.heap.size w wr) (fun _ i _ _ _ => s.size - (intOf i).toNat)
  case atStart => exact ⟨0, [], rfl, Nat.zero_le _, rfl, H0.out, (Below.refl _ _).alloc (Nat.le_refl _) _⟩
  case round =>
    obtain ⟨pos, acc, rfl, hp, HA, hsl, hb⟩ := hrel
    by_cases hlt : pos < s.size
    · have hfirst := fun w' => ref_first_at s pos w' hs hlt
      have hsg := signs_at s pos hlt
      have hst := stp_at s pos hlt
      have hst1 := stp_pos (s.data.toList.drop pos)
      have hrg := sg_range (s.data.toList.drop pos)
      have hb0 := byt_get s pos hlt
      have hbd : byt s.data.toList pos = byt (s.data.toList.drop pos) 0 := by
        unfold byt
        rw [List.getD_eq_getElem?_getD, List.getD_eq_getElem?_getD, List.getElem?_drop, Nat.add_zero]
      rw [hbd] at hb0
      have hal : acc.length < 4096 := by
        have h1 := HLEN.out
        rw [HA.out, List.length_append, hsg] at h1
        simp at h1
        omega
      have HA2 : Hid (signs s.data.toList = (acc ++ [sg (s.data.toList.drop pos)]) ++ signs (s.data.toList.drop (pos + stp (s.data.toList.drop pos)))) := by
        show _ = _
        rw [HA.out, hsg, List.append_assoc]
        rfl
      have hsgo := sg_of (s.data.toList.drop pos)
      have hstd : stp (s.data.toList.drop pos) = if (first (s.data.toList.drop pos)).2 = 0 then 1 else (first (s.data.toList.drop pos)).2 := rfl
      have HFI := Lib.hid hfirst
      have hblt := byt_lt (s.data.toList.drop pos) 0
      clear hsg HA hbd hfirst
      generalize sg (s.data.toList.drop pos) = z at *
      generalize stp (s.data.toList.drop pos) = st at *
      generalize first (s.data.toList.drop pos) = f at *
      generalize byt (s.data.toList.drop pos) 0 = b at *
      obtain ⟨f1, f2⟩ := f
      simp only at hsgo hstd HFI
      have hBw := hb.size
      by_cases hf : f2 = 0
      · rw [if_pos hf] at hsgo hstd
        subst hf hstd
        have hneg : -(b : Int) - 1 = z := hsgo.symm
        have hwn : IntKind.i64.wrap (-(b : Int)) = -(b : Int) := by rw [IntKind.wrap_i64]; omega
        clear hsgo
        go_wp2_with (first | (go_at_call 62; refine (HFI.out _).mono ?_; rintro e w1 ⟨rfl, rfl⟩) | (at_builtin; refine wpList_append_sl _ rfl (.tmp 27) (.tmp 29) 75 75 rfl 3 i0 (.int .i64 0) 8 Tryz.underlying75 hi hz0 hz1 hz2 rfl rfl (hsl.alloc _) _ 1 _ rfl (src_one Tryz.underlying75 _ _ _ rfl) (by unfold maxLen; omega) (by omega) (by simp; omega) ?_; intro v1 w3 k1 k2 k3))
        have hb3 : Below w.heap.size w w3 := (hb.alloc hBw _).upd k2 (by simp; omega) (fun i _ e => (hsl.lt _ e).1)
        go_roundw
        case rel => exact ⟨pos + 1, acc ++ [z], by go_num, hst, HA2.out, by rw [List.length_append, iv_append]; exact k1, hb3⟩
        case measure => simp [intOf]; omega
      · rw [if_neg hf] at hsgo hstd
        subst hstd hsgo
        have hf' : ((st : Int) == 0) = false := by simp; omega
        go_wp2_with (first | (go_at_call 62; refine (HFI.out _).mono ?_; rintro e w1 ⟨rfl, rfl⟩) | (at_builtin; refine wpList_append_sl _ rfl (.tmp 27) (.tmp 29) 75 75 rfl 3 i0 (.int .i64 0) 8 Tryz.underlying75 hi hz0 hz1 hz2 rfl rfl (hsl.alloc _) _ 1 _ rfl (src_one Tryz.underlying75 _ _ _ rfl) (by unfold maxLen; omega) (by omega) (by simp; omega) ?_; intro v1 w3 k1 k2 k3))
        have hb3 : Below w.heap.size w w3 := (hb.alloc hBw _).upd k2 (by simp; omega) (fun i _ e => (hsl.lt _ e).1)
        go_roundw
        case rel => exact ⟨pos + st, acc ++ [(f1 : Int)], by go_num, hst, HA2.out, by rw [List.length_append, iv_append]; exact k1, hb3⟩
        case measure => simp [intOf]; omega
    · have he := signs_end s pos hlt
      have hall := HA.out
      rw [he, List.append_nil] at hall
      have HALL := Lib.hid hall
      clear hall he HA
      go_wp2
      go_ret
      exact ⟨_, rfl, by rw [HALL.out]; exact hsl, hb⟩

/-- A row of numbers that is owned, cell by cell. -/
theorem Sl.ints {B : Nat} {w : World} {v : Value} {n : Nat} {l : List Int} (h : Sl B w 1 v n (iv l)) : n = l.length ∧ ∃ a c, v = .slice a n c ∧ ∀ (j : Nat) (hj : j < l.length), ∃ b off, a = some ⟨b, off, none⟩ ∧ b < w.heap.size ∧ w.cell? ⟨b, off + j, none⟩ = some (.int .i64 l[j]) := by
  have hn : n = l.length := by have := h.1; simp [iv] at this; omega
  refine ⟨hn, ?_⟩
  rcases h.2 with ⟨rfl, rfl⟩ | ⟨g, off, cap, rfl, _, hg, _, _, h3, _⟩
  · exact ⟨_, _, rfl, fun j hj => by omega⟩
  · refine ⟨_, _, rfl, fun j hj => ⟨g, off, rfl, hg, ?_⟩⟩
    rw [h3 j (by omega)]
    simp [iv, hj]

end Go.Proofs.YtcigklninmddaaaGreatDoor
