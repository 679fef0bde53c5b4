/- quote: a text's signs, by the program and by the document. -/
import Derived.Test.YtcigklninmddaaaGreatDoorQFmt
import Derived.Test.YtcigklninmddaaaGreatDoorKBase
import Derived.Test.YtcigklninmddaaaGreatDoorKSPlain
import Derived.Lib.OthersKept
namespace Go.Proofs.YtcigklninmddaaaGreatDoor
set_option maxRecDepth 4000
open Go.ChangeShapes Go.WideShapes Go.ChangeAt Go.RowKit
open PSign
set_option linter.unusedVariables false

theorem byt_get (t : ByteArray) (k : Nat) (h : k < t.size) : (t[k]'h).toNat = byt t.data.toList k := by
  have h' : k < t.data.size := h
  unfold byt
  rw [List.getD_eq_getElem?_getD]
  simp
  rw [Array.getElem?_eq_getElem h']
  rfl
theorem prefix_bad (l : List UInt8) : Lib.hasPrefix l [239, 191, 189] = decide (3 ≤ l.length ∧ byt l 0 = 239 ∧ byt l 1 = 191 ∧ byt l 2 = 189) := by
  match l with
  | [] => rfl
  | [a] => simp [Lib.hasPrefix, List.isPrefixOf]
  | [a, b] => simp [Lib.hasPrefix, List.isPrefixOf]
  | a :: b :: c :: r =>
    have h0 : byt (a :: b :: c :: r) 0 = a.toNat := rfl
    have h1 : byt (a :: b :: c :: r) 1 = b.toNat := rfl
    have h2 : byt (a :: b :: c :: r) 2 = c.toNat := rfl
    have n0 : (239 : UInt8).toNat = 239 := rfl
    have n1 : (191 : UInt8).toNat = 191 := rfl
    have n2 : (189 : UInt8).toNat = 189 := rfl
    rw [Bool.eq_iff_iff, decide_eq_true_eq, h0, h1, h2]
    simp only [Lib.hasPrefix, List.isPrefixOf, Bool.and_true, Bool.and_eq_true, beq_iff_eq, List.length_cons, ← UInt8.toNat_inj, n0, n1, n2]
    constructor
    · intro h
      omega
    · intro h
      omega

set_option maxHeartbeats 400000 in
theorem q_number (t : ByteArray) (z : Int) (w : World) (hne : t.data.toList ≠ []) (hz : z = if (first t.data.toList).2 = 0 then 65533 else ((first t.data.toList).1 : Int)) :
    Calls Tryz.prog 83 #[.string t, .int .i32 z] w fun e w' => e = .returned (.int .i64 (sg t.data.toList)) ∧ w = w' := by
  have hp := Tryz.strings_HasPrefix t ⟨#[239, 191, 189]⟩
  have hq : Lib.hasPrefix t.data.toList (ByteArray.mk #[239, 191, 189]).data.toList = decide ((first t.data.toList).1 = 65533 ∧ (first t.data.toList).2 ≠ 0) := (prefix_bad _).trans (decide_eq_decide.2 (first_bad _).symm)
  rw [hq] at hp
  clear hq
  have hsz : 0 < t.size := by
    have : t.data.toList.length = t.size := by simp
    have := List.length_pos_iff.2 hne
    omega
  have hb0 := byt_get t 0 hsz
  have hsg := sg_of t.data.toList
  have hf2 : (first t.data.toList).2 ≠ 0 → (first t.data.toList).1 ≤ 1114111 := first_big _
  have hlt := byt_lt t.data.toList 0
  generalize byt t.data.toList 0 = b at *
  generalize (first t.data.toList) = f at *
  obtain ⟨f1, f2⟩ := f
  simp only at *
  by_cases h1 : f2 = 0
  · rw [if_pos h1] at hz hsg
    have hd : decide (f1 = 65533 ∧ f2 ≠ 0) = false := by simp [h1]
    rw [hd] at hp
    have HP := Lib.hid hp
    have HSG := Lib.hid hsg
    subst hz
    clear hp hd h1 hf2 hsg
    go_enter Tryz.func83, Tryz.ntmps83
    go_wp2_with (first | (go_at_call 104; refine (HP.out _).mono ?_; rintro e w1 ⟨rfl, rfl⟩))
    go_ret
    exact ⟨ret_int (by rw [HSG.out]; omega), rfl⟩
  · rw [if_neg h1] at hz hsg
    have hf3 := hf2 h1
    have HSG := Lib.hid hsg
    by_cases h2 : f1 = 65533
    · have hd : decide (f1 = 65533 ∧ f2 ≠ 0) = true := by simp [h1, h2]
      rw [hd] at hp
      have HP := Lib.hid hp
      subst h2
      subst hz
      clear hp hd hf2 hsg h1
      go_enter Tryz.func83, Tryz.ntmps83
      go_wp2_with (first | (go_at_call 104; refine (HP.out _).mono ?_; rintro e w1 ⟨rfl, rfl⟩))
      go_ret
      exact ⟨ret_int (by rw [HSG.out]; rfl), rfl⟩
    · have hne2 : ((f1 : Int) == 65533) = false := by simp; omega
      subst hz
      clear hp hf2 hsg h1
      go_enter Tryz.func83, Tryz.ntmps83
      go_wp2
      go_ret
      exact ⟨ret_int (by rw [HSG.out]), rfl⟩

/-! ### Going through a text -/

theorem upd_iterAt (w : World) (g : Nat) (s : ByteArray) (pos : Nat) : Upd (fun k => k = g) w (w.iterAt g s pos) :=
  ⟨rfl, rfl, rfl, by rw [Lib.iterAt_size]; exact Nat.le_refl _, fun k hk hn => Lib.iterAt_other w g k s pos hn⟩
theorem lt_of_it {w : World} {g : Nat} {o : Obj} (h : w.heap[g]? = some o) : g < w.heap.size := (Array.getElem?_eq_some_iff.1 h).1
theorem iterPos_it {w : World} {g pos : Nat} {s : ByteArray} (h : w.heap[g]? = some (.stringIter s pos)) : w.iterPos g = pos := by
  simp [World.iterPos, h]
theorem ext_drop' (s : ByteArray) (n : Nat) : (s.extract n s.size).data.toList = s.data.toList.drop n := by
  rw [Lib.extract_data]
  have : s.data.toList.length = s.size := by simp
  rw [List.take_of_length_le]
  rw [List.length_drop]
  omega
theorem drop_ne {s : ByteArray} {pos : Nat} (h : pos < s.size) : s.data.toList.drop pos ≠ [] := by
  intro e
  have := congrArg List.length e
  rw [List.length_drop] at this
  simp at this
  have : s.data.size = s.size := rfl
  omega
/-- What the range finds there. -/
theorem sign_of_decode (s : ByteArray) (pos : Nat) : ((Utf8.decode s pos).1 : Int) = if (first (s.data.toList.drop pos)).2 = 0 then 65533 else ((first (s.data.toList.drop pos)).1 : Int) := by
  rw [decode_first]
  split <;> simp_all
theorem step_of_decode (s : ByteArray) (pos : Nat) : (Utf8.decode s pos).2 = stp (s.data.toList.drop pos) := by
  rw [decode_first]
  unfold stp
  split <;> simp_all
/-- quote.number at a place of a text. -/
theorem q_number_at (s : ByteArray) (pos : Nat) (w : World) (h : pos < s.size) :
    Calls Tryz.prog 83 #[.string (s.extract pos s.size), .int .i32 ((Utf8.decode s pos).1 : Int)] w fun e w' => e = .returned (.int .i64 (sg (s.data.toList.drop pos))) ∧ w = w' := by
  have h1 := q_number (s.extract pos s.size) ((Utf8.decode s pos).1 : Int) w (by rw [ext_drop']; exact drop_ne h) (by rw [ext_drop']; exact sign_of_decode s pos)
  rw [ext_drop'] at h1
  exact h1

theorem signs_at (s : ByteArray) (pos : Nat) (h : pos < s.size) : signs (s.data.toList.drop pos) = sg (s.data.toList.drop pos) :: signs (s.data.toList.drop (pos + stp (s.data.toList.drop pos))) := by
  rw [signs_cons _ (drop_ne h), List.drop_drop]
theorem signs_end (s : ByteArray) (pos : Nat) (h : ¬ pos < s.size) : signs (s.data.toList.drop pos) = [] := by
  rw [List.drop_eq_nil_of_le (by simp; exact Nat.le_of_not_lt h), signs_nil]
theorem stp_at (s : ByteArray) (pos : Nat) (h : pos < s.size) : pos + stp (s.data.toList.drop pos) ≤ s.size := by
  have := stp_le _ (drop_ne h)
  rw [List.length_drop] at this
  have h2 : s.data.toList.length = s.size := by simp
  omega
theorem signs_len (l : List UInt8) : (signs l).length ≤ l.length := by
  have h : ∀ n (l : List UInt8), l.length ≤ n → (signs l).length ≤ l.length := by
    intro n
    induction n with
    | zero => intro l hl; have : l = [] := List.eq_nil_of_length_eq_zero (by omega); subst this; rw [signs_nil]; simp
    | succ n ih =>
      intro l hl
      by_cases hn : l = []
      · subst hn; rw [signs_nil]; simp
      · have h1 := stp_pos l
        have h2 := stp_le l hn
        have h3 := ih (l.drop (stp l)) (by rw [List.length_drop]; omega)
        rw [List.length_drop] at h3
        rw [signs_cons l hn]
        simp
        omega
  exact h _ l (Nat.le_refl _)

theorem iv_append (a b : List Int) : iv (a ++ b) = iv a ++ iv b := List.map_append

/-- Has a row of numbers that one, not below 0? -/
def hasn (l : List Int) (n : Int) : Bool := decide (0 ≤ n ∧ n ∈ l)
theorem has_at (s : ByteArray) (pos : Nat) (n : Int) (h : pos < s.size) (hn : 0 ≤ n) : hasn (signs (s.data.toList.drop pos)) n = (decide (n = sg (s.data.toList.drop pos)) || hasn (signs (s.data.toList.drop (pos + stp (s.data.toList.drop pos)))) n) := by
  rw [signs_at s pos h]
  unfold hasn
  rw [Bool.eq_iff_iff]
  simp [hn]

end Go.Proofs.YtcigklninmddaaaGreatDoor
