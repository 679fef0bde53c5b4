/- quote: a text's signs, by the program and by the document. -/
import Derived.Test.YtmimfkhkilijcaaGreatKBase
import Derived.Test.YtmimfkhkilijcaaGreatKSPlain
import Derived.Test.YtmimfkhkilijcaaGreatShelf
import Derived.WalkKit
import Derived.ProofKit
import Derived.OpenShut
import Derived.Handy
import Derived.BigQuiet
import Derived.Deep.QuietTactic
import Derived.IntWalk
import Derived.Outline
import Derived.WalkLawsBesides
import Derived.Deep.RegionWith
import Derived.Deep.RegionHeld3
import Derived.Lib.OthersKept
import Derived.Deep.OwnRows
namespace Go.Proofs.YtmimfkhkilijcaaGreat
set_option maxRecDepth 4000
open Go.ChangeShapes Go.WideShapes Go.ChangeAt Go.RowKit
open PSign
set_option linter.unusedVariables false

theorem byt_get (t : ByteArray) (k : Nat) (h : k < t.size) : (t[k]'h).toNat = byt t.data.toList k := by
  have h' : k < t.data.size := h
  unfold byt
  rw [List.getD_eq_getElem?_getD]
  simp
  rw [Array.getElem?_eq_getElem h']
  rfl
theorem prefix_bad (l : List UInt8) : Lib.hasPrefix l [239, 191, 189] = decide (3 ≤ l.length ∧ byt l 0 = 239 ∧ byt l 1 = 191 ∧ byt l 2 = 189) := by
  match l with
  | [] => rfl
  | [a] => simp [Lib.hasPrefix, List.isPrefixOf]
  | [a, b] => simp [Lib.hasPrefix, List.isPrefixOf]
  | a :: b :: c :: r =>
    have h0 : byt (a :: b :: c :: r) 0 = a.toNat := rfl
    have h1 : byt (a :: b :: c :: r) 1 = b.toNat := rfl
    have h2 : byt (a :: b :: c :: r) 2 = c.toNat := rfl
    have n0 : (239 : UInt8).toNat = 239 := rfl
    have n1 : (191 : UInt8).toNat = 191 := rfl
    have n2 : (189 : UInt8).toNat = 189 := rfl
    rw [Bool.eq_iff_iff, decide_eq_true_eq, h0, h1, h2]
    simp only [Lib.hasPrefix, List.isPrefixOf, Bool.and_true, Bool.and_eq_true, beq_iff_eq, List.length_cons, ← UInt8.toNat_inj, n0, n1, n2]
    constructor
    · intro h
      omega
    · intro h
      omega

set_option maxHeartbeats 400000 in
theorem q_number (t : ByteArray) (z : Int) (w : World) (hne : t.data.toList ≠ []) (hz : z = if (first t.data.toList).2 = 0 then 65533 else ((first t.data.toList).1 : Int)) :
    Calls Tryz.prog 178 #[.string t, .int .i32 z] w fun e w' => e = .returned (.int .i64 (sg t.data.toList)) ∧ w = w' := by
  have hp := Tryz.strings_HasPrefix t ⟨#[239, 191, 189]⟩
  have hq : Lib.hasPrefix t.data.toList (ByteArray.mk #[239, 191, 189]).data.toList = decide ((first t.data.toList).1 = 65533 ∧ (first t.data.toList).2 ≠ 0) := (prefix_bad _).trans (decide_eq_decide.2 (first_bad _).symm)
  rw [hq] at hp
  clear hq
  have hsz : 0 < t.size := by
    have : t.data.toList.length = t.size := by simp
    have := List.length_pos_iff.2 hne
    omega
  have hb0 := byt_get t 0 hsz
  have hsg := sg_of t.data.toList
  have hf2 : (first t.data.toList).2 ≠ 0 → (first t.data.toList).1 ≤ 1114111 := first_big _
  have hlt := byt_lt t.data.toList 0
  generalize byt t.data.toList 0 = b at *
  generalize (first t.data.toList) = f at *
  obtain ⟨f1, f2⟩ := f
  simp only at *
  by_cases h1 : f2 = 0
  · rw [if_pos h1] at hz hsg
    have hd : decide (f1 = 65533 ∧ f2 ≠ 0) = false := by simp [h1]
    rw [hd] at hp
    have HP := Lib.hid hp
    have HSG := Lib.hid hsg
    subst hz
    clear hp hd h1 hf2 hsg
    go_enter Tryz.func178, Tryz.ntmps178
    go_wp2_with (first | (go_at_call 179; refine (HP.out _).mono ?_; rintro e w1 ⟨rfl, rfl⟩))
    go_ret
    exact ⟨ret_int (by rw [HSG.out]; omega), rfl⟩
  · rw [if_neg h1] at hz hsg
    have hf3 := hf2 h1
    have HSG := Lib.hid hsg
    by_cases h2 : f1 = 65533
    · have hd : decide (f1 = 65533 ∧ f2 ≠ 0) = true := by simp [h1, h2]
      rw [hd] at hp
      have HP := Lib.hid hp
      subst h2
      subst hz
      clear hp hd hf2 hsg h1
      go_enter Tryz.func178, Tryz.ntmps178
      go_wp2_with (first | (go_at_call 179; refine (HP.out _).mono ?_; rintro e w1 ⟨rfl, rfl⟩))
      go_ret
      exact ⟨ret_int (by rw [HSG.out]; rfl), rfl⟩
    · have hne2 : ((f1 : Int) == 65533) = false := by simp; omega
      subst hz
      clear hp hf2 hsg h1
      go_enter Tryz.func178, Tryz.ntmps178
      go_wp2
      go_ret
      exact ⟨ret_int (by rw [HSG.out]), rfl⟩

/-! ### Going through a text -/

theorem upd_iterAt (w : World) (g : Nat) (s : ByteArray) (pos : Nat) : Upd (fun k => k = g) w (w.iterAt g s pos) :=
  ⟨rfl, rfl, rfl, by rw [Lib.iterAt_size]; exact Nat.le_refl _, fun k hk hn => Lib.iterAt_other w g k s pos hn⟩
theorem lt_of_it {w : World} {g : Nat} {o : Obj} (h : w.heap[g]? = some o) : g < w.heap.size := (Array.getElem?_eq_some_iff.1 h).1
theorem iterPos_it {w : World} {g pos : Nat} {s : ByteArray} (h : w.heap[g]? = some (.stringIter s pos)) : w.iterPos g = pos := by
  simp [World.iterPos, h]
theorem ext_drop' (s : ByteArray) (n : Nat) : (s.extract n s.size).data.toList = s.data.toList.drop n := by
  rw [Lib.extract_data]
  have : s.data.toList.length = s.size := by simp
  rw [List.take_of_length_le]
  rw [List.length_drop]
  omega
theorem drop_ne {s : ByteArray} {pos : Nat} (h : pos < s.size) : s.data.toList.drop pos ≠ [] := by
  intro e
  have := congrArg List.length e
  rw [List.length_drop] at this
  simp at this
  have : s.data.size = s.size := rfl
  omega
/-- What the range finds there. -/
theorem sign_of_decode (s : ByteArray) (pos : Nat) : ((Utf8.decode s pos).1 : Int) = if (first (s.data.toList.drop pos)).2 = 0 then 65533 else ((first (s.data.toList.drop pos)).1 : Int) := by
  rw [decode_first]
  split <;> simp_all
theorem step_of_decode (s : ByteArray) (pos : Nat) : (Utf8.decode s pos).2 = stp (s.data.toList.drop pos) := by
  rw [decode_first]
  unfold stp
  split <;> simp_all
/-- quote.number at a place of a text. -/
theorem q_number_at (s : ByteArray) (pos : Nat) (w : World) (h : pos < s.size) :
    Calls Tryz.prog 178 #[.string (s.extract pos s.size), .int .i32 ((Utf8.decode s pos).1 : Int)] w fun e w' => e = .returned (.int .i64 (sg (s.data.toList.drop pos))) ∧ w = w' := by
  have h1 := q_number (s.extract pos s.size) ((Utf8.decode s pos).1 : Int) w (by rw [ext_drop']; exact drop_ne h) (by rw [ext_drop']; exact sign_of_decode s pos)
  rw [ext_drop'] at h1
  exact h1

theorem signs_at (s : ByteArray) (pos : Nat) (h : pos < s.size) : signs (s.data.toList.drop pos) = sg (s.data.toList.drop pos) :: signs (s.data.toList.drop (pos + stp (s.data.toList.drop pos))) := by
  rw [signs_cons _ (drop_ne h), List.drop_drop]
theorem signs_end (s : ByteArray) (pos : Nat) (h : ¬ pos < s.size) : signs (s.data.toList.drop pos) = [] := by
  rw [List.drop_eq_nil_of_le (by simp; exact Nat.le_of_not_lt h), signs_nil]
theorem stp_at (s : ByteArray) (pos : Nat) (h : pos < s.size) : pos + stp (s.data.toList.drop pos) ≤ s.size := by
  have := stp_le _ (drop_ne h)
  rw [List.length_drop] at this
  have h2 : s.data.toList.length = s.size := by simp
  omega
theorem signs_len (l : List UInt8) : (signs l).length ≤ l.length := by
  have h : ∀ n (l : List UInt8), l.length ≤ n → (signs l).length ≤ l.length := by
    intro n
    induction n with
    | zero => intro l hl; have : l = [] := List.eq_nil_of_length_eq_zero (by omega); subst this; rw [signs_nil]; simp
    | succ n ih =>
      intro l hl
      by_cases hn : l = []
      · subst hn; rw [signs_nil]; simp
      · have h1 := stp_pos l
        have h2 := stp_le l hn
        have h3 := ih (l.drop (stp l)) (by rw [List.length_drop]; omega)
        rw [List.length_drop] at h3
        rw [signs_cons l hn]
        simp
        omega
  exact h _ l (Nat.le_refl _)

theorem iv_append (a b : List Int) : iv (a ++ b) = iv a ++ iv b := List.map_append

/-- Has a row of numbers that one, not below 0? -/
def hasn (l : List Int) (n : Int) : Bool := decide (0 ≤ n ∧ n ∈ l)
theorem has_at (s : ByteArray) (pos : Nat) (n : Int) (h : pos < s.size) (hn : 0 ≤ n) : hasn (signs (s.data.toList.drop pos)) n = (decide (n = sg (s.data.toList.drop pos)) || hasn (signs (s.data.toList.drop (pos + stp (s.data.toList.drop pos)))) n) := by
  rw [signs_at s pos h]
  unfold hasn
  rw [Bool.eq_iff_iff]
  simp [hn]

set_option maxRecDepth 100000 in
set_option maxHeartbeats 1000000 in
theorem q_has (s : ByteArray) (n : Int) (w : World) (hn1 : -9223372036854775808 ≤ n) (hn2 : n ≤ 9223372036854775807) :
    Calls Tryz.prog 177 #[.string s, .int .i64 n] w fun e w' => e = .returned (.bool (hasn (signs s.data.toList) n)) ∧ Below w.heap.size w w' := by
  by_cases h0 : n < 0
  · have hf : hasn (signs s.data.toList) n = false := by unfold hasn; rw [decide_eq_false_iff_not]; omega
    rw [hf]
    clear hf
    go_enter Tryz.func177, Tryz.ntmps177
    go_wp2
    go_ret
    exact ⟨rfl, Below.refl _ _⟩
  · have hn0 : 0 ≤ n := by omega
    go_enter Tryz.func177, Tryz.ntmps177
    go_wp2
    go_loopw [5, 6] (fun i r wr => ∃ pos : Nat, wr.heap[w.heap.size]? = some (.stringIter s pos) ∧ pos ≤ s.size ∧ Hid (hasn (signs s.data.toList) n = hasn (signs (s.data.toList.drop pos)) n) ∧ Below w.heap.size w wr) (fun _ _ wr => s.size - wr.iterPos w.heap.size)
    case atStart => exact ⟨0, World.iter_heap w s 0, Nat.zero_le _, rfl, (Below.refl _ _).alloc (Nat.le_refl _) _⟩
    case round =>
      obtain ⟨pos, hit, hp, HA, hb⟩ := hrel
      have hpos0 := iterPos_it hit
      by_cases hlt : pos < s.size
      · have hnx : ∀ ty, (Instr.next (.pointer (some ⟨w.heap.size, 0, none⟩)) true ty).run Tryz.prog wr = _ := fun ty => Lib.run_next_any_at wr w.heap.size s pos ty hit hlt
        have hit2 := Lib.iterAt_heap wr w.heap.size s pos (pos + (Utf8.decode s pos).2) hit
        have hb2 := Lib.below_iterAt hb (k := w.heap.size) (Nat.le_refl _) s (pos + (Utf8.decode s pos).2)
        have hnum := fun w' => q_number_at s pos w' hlt
        have hha := has_at s pos n hlt hn0
        have hst := stp_at s pos hlt
        have hst1 := stp_pos (s.data.toList.drop pos)
        rw [step_of_decode] at hnx hit2 hb2
        rw [← HA.out] at hha
        have HN := Lib.hid hnum
        have HH := Lib.hid hha
        clear hnum hit HA hha
        generalize sg (s.data.toList.drop pos) = z at *
        generalize stp (s.data.toList.drop pos) = st at *
        generalize hW : wr.iterAt w.heap.size s (pos + st) = W1 at *
        clear hW
        by_cases hz : z = n
        · have hzz : (z == n) = true := by simpa using hz
          have hres : hasn (signs s.data.toList) n = true := by rw [HH.out, hz]; simp
          have HR := Lib.hid hres
          clear hres
          go_wp2_with (first | (go_at_call 178; refine (HN.out _).mono ?_; rintro e w1 ⟨rfl, rfl⟩))
          go_ret
          exact ⟨by rw [HR.out]; rfl, hb2⟩
        · have hzz : (z == n) = false := by simpa using hz
          have hres : Hid (hasn (signs s.data.toList) n = hasn (signs (s.data.toList.drop (pos + st))) n) := by
            show _ = _
            rw [HH.out, decide_eq_false (fun e => hz e.symm), Bool.false_or]
          go_wp2_with (first | (go_at_call 178; refine (HN.out _).mono ?_; rintro e w1 ⟨rfl, rfl⟩))
          go_roundw
          case rel => exact ⟨pos + st, hit2, hst, hres.out, hb2⟩
          case measure => rw [iterPos_it hit2, hpos0]; omega
      · have hnx : ∀ ty, (Instr.next (.pointer (some ⟨w.heap.size, 0, none⟩)) true ty).run Tryz.prog wr = _ := fun ty => Lib.run_next_end_at wr w.heap.size s pos ty hit hlt
        have he := signs_end s pos hlt
        have hall := HA.out
        rw [he] at hall
        have HALL := Lib.hid hall
        clear hall he HA
        go_wp2
        go_ret
        exact ⟨by rw [HALL.out]; simp [hasn], hb⟩
end Go.Proofs.YtmimfkhkilijcaaGreat

/- The document's own signs, and its text in marks. -/
namespace Go.Proofs.YtmimfkhkilijcaaGreat
set_option maxRecDepth 4000
open Go.ChangeShapes Go.WideShapes Go.ChangeAt Go.RowKit
open PSign PHex PQuote
set_option linter.unusedVariables false

set_option maxRecDepth 100000 in
set_option maxHeartbeats 400000 in
theorem ref_more (t : ByteArray) (k : Nat) (w : World) (hs : t.size ≤ 4096) (hk : k ≤ 4) :
    Calls Tryz.prog 150 #[.string t, .int .i64 k] w fun e w' => e = .returned (.int .i64 (if con t.data.toList k then ((byt t.data.toList k : Int) - 128) else -1)) ∧ w = w' := by
  have hlen : t.data.toList.length = t.size := by simp
  by_cases hlt : k < t.size
  · have hb := byt_get t k hlt
    have hb2 := byt_lt t.data.toList k
    have hc : con t.data.toList k ↔ 128 ≤ byt t.data.toList k ∧ byt t.data.toList k < 192 := by rw [con_iff, hlen]; simp [hlt]
    generalize byt t.data.toList k = b at *
    by_cases h1 : b < 128
    · have hr : (if con t.data.toList k then ((b : Int) - 128) else -1) = -1 := if_neg (by rw [hc]; omega)
      rw [hr]
      have h1' : (b : Int) < 128 := by omega
      clear hc hr h1 hb2 hs hk
      go_enter Tryz.func150, Tryz.ntmps150
      go_wp2
      go_ret
      exact ⟨rfl, rfl⟩
    · by_cases h2 : b < 192
      · have hr : (if con t.data.toList k then ((b : Int) - 128) else -1) = (b : Int) - 128 := if_pos (by rw [hc]; omega)
        rw [hr]
        have h1' : ¬ (b : Int) < 128 := by omega
        have h2' : (b : Int) < 192 := by omega
        have h3' : (128 : Int) ≤ (b : Int) := by omega
        have h4' : IntKind.i64.wrap ((b : Int) - 128) = (b : Int) - 128 := by rw [IntKind.wrap_i64]; omega
        clear hc hr h1 h2 hb2 hs hk
        go_enter Tryz.func150, Tryz.ntmps150
        go_wp2
        go_ret
        exact ⟨rfl, rfl⟩
      · have hr : (if con t.data.toList k then ((b : Int) - 128) else -1) = -1 := if_neg (by rw [hc]; omega)
        rw [hr]
        have h1' : ¬ (b : Int) < 128 := by omega
        have h2' : ¬ (b : Int) < 192 := by omega
        clear hc hr h1 h2 hb2 hs hk
        go_enter Tryz.func150, Tryz.ntmps150
        go_wp2
        go_ret
        exact ⟨rfl, rfl⟩
  · have hr : (if con t.data.toList k then ((byt t.data.toList k : Int) - 128) else -1) = -1 := if_neg (by rw [con_iff, hlen]; omega)
    rw [hr]
    clear hr hlen
    go_enter Tryz.func150, Tryz.ntmps150
    go_wp2
    go_ret
    exact ⟨rfl, rfl⟩

def accn (l : List UInt8) (n0 : Nat) : Nat → Nat
  | 0 => n0
  | k + 1 => accn l n0 k * 64 + (byt l (k + 1) - 128)

theorem fit_small {n least m : Nat} (h : n < least ∨ 1114111 < n ∨ (55296 ≤ n ∧ n ≤ 57343)) : fit n least m = (0, 0) := by unfold fit; rw [if_pos h]
theorem fit_ok {n least m : Nat} (h : ¬ (n < least ∨ 1114111 < n ∨ (55296 ≤ n ∧ n ≤ 57343))) : fit n least m = (n, m) := by unfold fit; rw [if_neg h]
theorem first_2 (l : List UInt8) (h1 : 192 ≤ byt l 0) (h2 : byt l 0 < 224) : first l = if con l 1 then fit (accn l (byt l 0 - 192) 1) 128 2 else (0, 0) := by
  unfold first
  rw [if_neg (by omega), if_pos ⟨h1, h2⟩]; rfl
theorem first_3 (l : List UInt8) (h1 : 224 ≤ byt l 0) (h2 : byt l 0 < 240) : first l = if con l 1 ∧ con l 2 then fit (accn l (byt l 0 - 224) 2) 2048 3 else (0, 0) := by
  unfold first
  rw [if_neg (by omega), if_neg (by omega), if_pos ⟨h1, h2⟩]; rfl
theorem first_4 (l : List UInt8) (h1 : 240 ≤ byt l 0) (h2 : byt l 0 < 248) : first l = if con l 1 ∧ con l 2 ∧ con l 3 then fit (accn l (byt l 0 - 240) 3) 65536 4 else (0, 0) := by
  unfold first
  rw [if_neg (by omega), if_neg (by omega), if_neg (by omega), if_pos ⟨h1, h2⟩]; rfl
theorem ret_two {a b : Int} {f : Nat × Nat} (h1 : a = f.1) (h2 : b = f.2) : Ending.returned (.tuple #[.int .i64 a, .int .i64 b]) = .returned (.tuple #[.int .i64 (f.1 : Nat), .int .i64 (f.2 : Nat)]) := by rw [h1, h2]


set_option maxRecDepth 100000 in
set_option maxHeartbeats 1000000 in
theorem ref_first2 (t : ByteArray) (w : World) (hs : t.size ≤ 4096) (hne : 0 < t.size) (h1 : 192 ≤ byt t.data.toList 0) (h2 : byt t.data.toList 0 < 224) :
    Calls Tryz.prog 145 #[.string t] w fun e w' => e = .returned (.tuple #[.int .i64 ((first t.data.toList).1 : Nat), .int .i64 ((first t.data.toList).2 : Nat)]) ∧ w = w' := by
  have hb := byt_get t 0 hne
  have hF := first_2 t.data.toList h1 h2
  have hmore := fun k w hk => ref_more t k w hs hk
  have HM := Lib.hid hmore
  have HF := Lib.hid hF
  have hn0 : accn t.data.toList (byt t.data.toList 0 - 192) 0 = byt t.data.toList 0 - 192 := rfl
  have hacc : ∀ k, accn t.data.toList (byt t.data.toList 0 - 192) (k + 1) = accn t.data.toList (byt t.data.toList 0 - 192) k * 64 + (byt t.data.toList (k + 1) - 128) := fun k => rfl
  have HACC := Lib.hid hacc
  have HN0 := Lib.hid hn0
  clear hmore hF hacc hn0
  generalize t.data.toList = l at *
  generalize hc : byt l 0 = c at *
  have HC := Lib.hid hc
  clear hc
  have k1 : ((192 : Int) ≤ (c : Int)) := by omega
  have k2 : ((c : Int) < 224) := by omega
  have k3 : (c : Int) - 192 = ((c - 192 : Nat) : Int) := by omega
  have hcb : c - 192 ≤ 31 := by omega
  clear h1 h2
  go_enter Tryz.func145, Tryz.ntmps145
  go_wp2
  go_loop [6, 8] (fun n i => ∃ k x : Nat, k + 1 ≤ 2 ∧ i = .int .i64 ((k : Int) + 1) ∧ n = .int .i64 x ∧ x < 32 * 64 ^ k ∧ Hid (x = accn l (c - 192) k) ∧ Hid (∀ j, j < k → con l (j + 1))) (fun _ i => 2 - (intOf i).toNat)
  case atStart => exact ⟨0, c - 192, by omega, rfl, by go_num, by omega, HN0.out.symm, fun j hj => by omega⟩
  case round =>
    obtain ⟨k, x, hk, rfl, rfl, hx, HX, HJ⟩ := hrel
    by_cases hlt : k + 1 < 2
    · have hlI : (k : Int) + 1 < 2 := by omega
      have hx64 : x < 32 * 64 ^ 3 := Nat.lt_of_lt_of_le hx (Nat.mul_le_mul_left _ (Nat.pow_le_pow_right (by decide) (by omega)))
      have hx65 : x < 8388608 := by omega
      have hbk := byt_lt l (k + 1)
      have hm := fun w => HM.out (k + 1) w (by omega)
      by_cases hcon : con l (k + 1)
      · have hci := (con_iff l (k + 1)).1 hcon
        have hm2 : ∀ w, Calls Tryz.prog 150 #[.string t, .int .i64 ((k : Int) + 1)] w fun e w' => e = .returned (.int .i64 ((byt l (k + 1) - 128 : Nat) : Int)) ∧ w = w' := by
          intro w
          have h := hm w
          rw [if_pos hcon, show (byt l (k + 1) : Int) - 128 = ((byt l (k + 1) - 128 : Nat) : Int) by omega] at h
          exact h
        have HM2 := Lib.hid hm2
        have hd : byt l (k + 1) - 128 < 64 := by omega
        have HD : Hid (accn l (c - 192) (k + 1) = x * 64 + (byt l (k + 1) - 128)) := by show _ = _; rw [HACC.out, ← HX.out]
        have hpow : x * 64 + (byt l (k + 1) - 128) < 32 * 64 ^ (k + 1) := by rw [Nat.pow_succ]; omega
        have HPOW := Lib.hid hpow
        have HCON := Lib.hid hcon
        clear hm hm2 hci hcon hpow hx hx64
        generalize byt l (k + 1) - 128 = d at *
        go_wp2_with (first | (go_at_call 150; refine (HM2.out _).mono ?_; rintro e w1 ⟨rfl, rfl⟩))
        go_round
        case rel => exact ⟨k + 1, x * 64 + d, by omega, by go_num, by go_num, HPOW.out, HD.out.symm, fun j hj => by
          by_cases e : j = k
          · subst e; exact HCON.out
          · exact HJ.out j (by omega)⟩
        case measure => simp [intOf]; omega
      · have hm2 : ∀ w, Calls Tryz.prog 150 #[.string t, .int .i64 ((k : Int) + 1)] w fun e w' => e = .returned (.int .i64 (-1)) ∧ w = w' := by
          intro w
          have h := hm w
          rw [if_neg hcon] at h
          exact h
        have HM2 := Lib.hid hm2
        have hz : first l = (0, 0) := by
          rw [HF.out, if_neg]
          intro h
          apply hcon
          obtain rfl : k = 0 := by omega
          exact h
        have HZ := Lib.hid hz
        clear hm hm2 hcon hz hx hx64
        go_wp2_with (first | (go_at_call 150; refine (HM2.out _).mono ?_; rintro e w1 ⟨rfl, rfl⟩))
        go_ret2
        exact ⟨ret_two (by rw [HZ.out]; rfl) (by rw [HZ.out]; rfl), rfl⟩
    · obtain rfl : k = 1 := by omega
      have hz : first l = fit x 128 2 := by
        rw [HF.out, if_pos (by exact HJ.out 0 (by omega)), HX.out]
      have HZ := Lib.hid hz
      clear hz
      have hx2 : x < 8388608 := by omega
      clear hx
      by_cases hbad : x < 128 ∨ 1114111 < x ∨ (55296 ≤ x ∧ x ≤ 57343)
      · have HB := Lib.hid (fit_small (m := 2) hbad)
        have hend : ∀ e : Ending, e = .returned (.tuple #[.int .i64 0, .int .i64 0]) → e = .returned (.tuple #[.int .i64 ((first l).1 : Nat), .int .i64 ((first l).2 : Nat)]) := fun e he => he.trans (ret_two (by rw [HZ.out, HB.out]; rfl) (by rw [HZ.out, HB.out]; rfl))
        have HEND := Lib.hid hend
        clear hend
        rcases hbad with h | h | h
        · have h' : (x : Int) < 128 := by omega
          clear h hx2
          go_wp2
          go_ret2
          exact ⟨HEND.out _ rfl, rfl⟩
        · have h' : (1114111 : Int) < x := by omega
          have h'' : ¬ (x : Int) < 128 := by omega
          clear h hx2
          go_wp2
          go_ret2
          exact ⟨HEND.out _ rfl, rfl⟩
        · by_cases hl : x < 128
          · have h' : (x : Int) < 128 := by omega
            clear h hx2 hl
            go_wp2
            go_ret2
            exact ⟨HEND.out _ rfl, rfl⟩
          · have h0 : ¬ (x : Int) < 128 := by omega
            have h1 : ¬ (1114111 : Int) < x := by omega
            have h2 : (55296 : Int) ≤ x := by omega
            have h3 : (x : Int) ≤ 57343 := by omega
            clear h hx2 hl
            go_wp2
            go_ret2
            exact ⟨HEND.out _ rfl, rfl⟩
      · have HB := Lib.hid (fit_ok (m := 2) hbad)
        have h0 : ¬ (x : Int) < 128 := by omega
        have h1 : ¬ (1114111 : Int) < x := by omega
        by_cases h5 : 55296 ≤ x
        · have h2 : (55296 : Int) ≤ x := by omega
          have h3 : ¬ (x : Int) ≤ 57343 := by omega
          clear hbad hx2 h5
          go_wp2
          go_ret2
          exact ⟨ret_two (by rw [HZ.out, HB.out]) (by rw [HZ.out, HB.out]; rfl), rfl⟩
        · have h2 : ¬ (55296 : Int) ≤ x := by omega
          clear hbad hx2 h5
          go_wp2
          go_ret2
          exact ⟨ret_two (by rw [HZ.out, HB.out]) (by rw [HZ.out, HB.out]; rfl), rfl⟩

set_option maxRecDepth 100000 in
set_option maxHeartbeats 1000000 in
theorem ref_first3 (t : ByteArray) (w : World) (hs : t.size ≤ 4096) (hne : 0 < t.size) (h1 : 224 ≤ byt t.data.toList 0) (h2 : byt t.data.toList 0 < 240) :
    Calls Tryz.prog 145 #[.string t] w fun e w' => e = .returned (.tuple #[.int .i64 ((first t.data.toList).1 : Nat), .int .i64 ((first t.data.toList).2 : Nat)]) ∧ w = w' := by
  have hb := byt_get t 0 hne
  have hF := first_3 t.data.toList h1 h2
  have hmore := fun k w hk => ref_more t k w hs hk
  have HM := Lib.hid hmore
  have HF := Lib.hid hF
  have hn0 : accn t.data.toList (byt t.data.toList 0 - 224) 0 = byt t.data.toList 0 - 224 := rfl
  have hacc : ∀ k, accn t.data.toList (byt t.data.toList 0 - 224) (k + 1) = accn t.data.toList (byt t.data.toList 0 - 224) k * 64 + (byt t.data.toList (k + 1) - 128) := fun k => rfl
  have HACC := Lib.hid hacc
  have HN0 := Lib.hid hn0
  clear hmore hF hacc hn0
  generalize t.data.toList = l at *
  generalize hc : byt l 0 = c at *
  have HC := Lib.hid hc
  clear hc
  have k1 : ((224 : Int) ≤ (c : Int)) := by omega
  have k2 : ((c : Int) < 240) := by omega
  have k3 : (c : Int) - 224 = ((c - 224 : Nat) : Int) := by omega
  have hcb : c - 224 ≤ 31 := by omega
  clear h1 h2
  go_enter Tryz.func145, Tryz.ntmps145
  go_wp2
  go_loop [6, 8] (fun n i => ∃ k x : Nat, k + 1 ≤ 3 ∧ i = .int .i64 ((k : Int) + 1) ∧ n = .int .i64 x ∧ x < 32 * 64 ^ k ∧ Hid (x = accn l (c - 224) k) ∧ Hid (∀ j, j < k → con l (j + 1))) (fun _ i => 3 - (intOf i).toNat)
  case atStart => exact ⟨0, c - 224, by omega, rfl, by go_num, by omega, HN0.out.symm, fun j hj => by omega⟩
  case round =>
    obtain ⟨k, x, hk, rfl, rfl, hx, HX, HJ⟩ := hrel
    by_cases hlt : k + 1 < 3
    · have hlI : (k : Int) + 1 < 3 := by omega
      have hx64 : x < 32 * 64 ^ 3 := Nat.lt_of_lt_of_le hx (Nat.mul_le_mul_left _ (Nat.pow_le_pow_right (by decide) (by omega)))
      have hx65 : x < 8388608 := by omega
      have hbk := byt_lt l (k + 1)
      have hm := fun w => HM.out (k + 1) w (by omega)
      by_cases hcon : con l (k + 1)
      · have hci := (con_iff l (k + 1)).1 hcon
        have hm2 : ∀ w, Calls Tryz.prog 150 #[.string t, .int .i64 ((k : Int) + 1)] w fun e w' => e = .returned (.int .i64 ((byt l (k + 1) - 128 : Nat) : Int)) ∧ w = w' := by
          intro w
          have h := hm w
          rw [if_pos hcon, show (byt l (k + 1) : Int) - 128 = ((byt l (k + 1) - 128 : Nat) : Int) by omega] at h
          exact h
        have HM2 := Lib.hid hm2
        have hd : byt l (k + 1) - 128 < 64 := by omega
        have HD : Hid (accn l (c - 224) (k + 1) = x * 64 + (byt l (k + 1) - 128)) := by show _ = _; rw [HACC.out, ← HX.out]
        have hpow : x * 64 + (byt l (k + 1) - 128) < 32 * 64 ^ (k + 1) := by rw [Nat.pow_succ]; omega
        have HPOW := Lib.hid hpow
        have HCON := Lib.hid hcon
        clear hm hm2 hci hcon hpow hx hx64
        generalize byt l (k + 1) - 128 = d at *
        go_wp2_with (first | (go_at_call 150; refine (HM2.out _).mono ?_; rintro e w1 ⟨rfl, rfl⟩))
        go_round
        case rel => exact ⟨k + 1, x * 64 + d, by omega, by go_num, by go_num, HPOW.out, HD.out.symm, fun j hj => by
          by_cases e : j = k
          · subst e; exact HCON.out
          · exact HJ.out j (by omega)⟩
        case measure => simp [intOf]; omega
      · have hm2 : ∀ w, Calls Tryz.prog 150 #[.string t, .int .i64 ((k : Int) + 1)] w fun e w' => e = .returned (.int .i64 (-1)) ∧ w = w' := by
          intro w
          have h := hm w
          rw [if_neg hcon] at h
          exact h
        have HM2 := Lib.hid hm2
        have hz : first l = (0, 0) := by
          rw [HF.out, if_neg]
          intro h
          apply hcon
          rcases (by omega : k = 0 ∨ k = 1) with rfl | rfl
          · exact h.1
          · exact h.2
        have HZ := Lib.hid hz
        clear hm hm2 hcon hz hx hx64
        go_wp2_with (first | (go_at_call 150; refine (HM2.out _).mono ?_; rintro e w1 ⟨rfl, rfl⟩))
        go_ret2
        exact ⟨ret_two (by rw [HZ.out]; rfl) (by rw [HZ.out]; rfl), rfl⟩
    · obtain rfl : k = 2 := by omega
      have hz : first l = fit x 2048 3 := by
        rw [HF.out, if_pos (by exact ⟨HJ.out 0 (by omega), HJ.out 1 (by omega)⟩), HX.out]
      have HZ := Lib.hid hz
      clear hz
      have hx2 : x < 8388608 := by omega
      clear hx
      by_cases hbad : x < 2048 ∨ 1114111 < x ∨ (55296 ≤ x ∧ x ≤ 57343)
      · have HB := Lib.hid (fit_small (m := 3) hbad)
        have hend : ∀ e : Ending, e = .returned (.tuple #[.int .i64 0, .int .i64 0]) → e = .returned (.tuple #[.int .i64 ((first l).1 : Nat), .int .i64 ((first l).2 : Nat)]) := fun e he => he.trans (ret_two (by rw [HZ.out, HB.out]; rfl) (by rw [HZ.out, HB.out]; rfl))
        have HEND := Lib.hid hend
        clear hend
        rcases hbad with h | h | h
        · have h' : (x : Int) < 2048 := by omega
          clear h hx2
          go_wp2
          go_ret2
          exact ⟨HEND.out _ rfl, rfl⟩
        · have h' : (1114111 : Int) < x := by omega
          have h'' : ¬ (x : Int) < 2048 := by omega
          clear h hx2
          go_wp2
          go_ret2
          exact ⟨HEND.out _ rfl, rfl⟩
        · by_cases hl : x < 2048
          · have h' : (x : Int) < 2048 := by omega
            clear h hx2 hl
            go_wp2
            go_ret2
            exact ⟨HEND.out _ rfl, rfl⟩
          · have h0 : ¬ (x : Int) < 2048 := by omega
            have h1 : ¬ (1114111 : Int) < x := by omega
            have h2 : (55296 : Int) ≤ x := by omega
            have h3 : (x : Int) ≤ 57343 := by omega
            clear h hx2 hl
            go_wp2
            go_ret2
            exact ⟨HEND.out _ rfl, rfl⟩
      · have HB := Lib.hid (fit_ok (m := 3) hbad)
        have h0 : ¬ (x : Int) < 2048 := by omega
        have h1 : ¬ (1114111 : Int) < x := by omega
        by_cases h5 : 55296 ≤ x
        · have h2 : (55296 : Int) ≤ x := by omega
          have h3 : ¬ (x : Int) ≤ 57343 := by omega
          clear hbad hx2 h5
          go_wp2
          go_ret2
          exact ⟨ret_two (by rw [HZ.out, HB.out]) (by rw [HZ.out, HB.out]; rfl), rfl⟩
        · have h2 : ¬ (55296 : Int) ≤ x := by omega
          clear hbad hx2 h5
          go_wp2
          go_ret2
          exact ⟨ret_two (by rw [HZ.out, HB.out]) (by rw [HZ.out, HB.out]; rfl), rfl⟩

set_option maxRecDepth 100000 in
set_option maxHeartbeats 1000000 in
theorem ref_first4 (t : ByteArray) (w : World) (hs : t.size ≤ 4096) (hne : 0 < t.size) (h1 : 240 ≤ byt t.data.toList 0) (h2 : byt t.data.toList 0 < 248) :
    Calls Tryz.prog 145 #[.string t] w fun e w' => e = .returned (.tuple #[.int .i64 ((first t.data.toList).1 : Nat), .int .i64 ((first t.data.toList).2 : Nat)]) ∧ w = w' := by
  have hb := byt_get t 0 hne
  have hF := first_4 t.data.toList h1 h2
  have hmore := fun k w hk => ref_more t k w hs hk
  have HM := Lib.hid hmore
  have HF := Lib.hid hF
  have hn0 : accn t.data.toList (byt t.data.toList 0 - 240) 0 = byt t.data.toList 0 - 240 := rfl
  have hacc : ∀ k, accn t.data.toList (byt t.data.toList 0 - 240) (k + 1) = accn t.data.toList (byt t.data.toList 0 - 240) k * 64 + (byt t.data.toList (k + 1) - 128) := fun k => rfl
  have HACC := Lib.hid hacc
  have HN0 := Lib.hid hn0
  clear hmore hF hacc hn0
  generalize t.data.toList = l at *
  generalize hc : byt l 0 = c at *
  have HC := Lib.hid hc
  clear hc
  have k1 : ((240 : Int) ≤ (c : Int)) := by omega
  have k2 : ((c : Int) < 248) := by omega
  have k3 : (c : Int) - 240 = ((c - 240 : Nat) : Int) := by omega
  have hcb : c - 240 ≤ 31 := by omega
  clear h1 h2
  go_enter Tryz.func145, Tryz.ntmps145
  go_wp2
  go_loop [6, 8] (fun n i => ∃ k x : Nat, k + 1 ≤ 4 ∧ i = .int .i64 ((k : Int) + 1) ∧ n = .int .i64 x ∧ x < 32 * 64 ^ k ∧ Hid (x = accn l (c - 240) k) ∧ Hid (∀ j, j < k → con l (j + 1))) (fun _ i => 4 - (intOf i).toNat)
  case atStart => exact ⟨0, c - 240, by omega, rfl, by go_num, by omega, HN0.out.symm, fun j hj => by omega⟩
  case round =>
    obtain ⟨k, x, hk, rfl, rfl, hx, HX, HJ⟩ := hrel
    by_cases hlt : k + 1 < 4
    · have hlI : (k : Int) + 1 < 4 := by omega
      have hx64 : x < 32 * 64 ^ 3 := Nat.lt_of_lt_of_le hx (Nat.mul_le_mul_left _ (Nat.pow_le_pow_right (by decide) (by omega)))
      have hx65 : x < 8388608 := by omega
      have hbk := byt_lt l (k + 1)
      have hm := fun w => HM.out (k + 1) w (by omega)
      by_cases hcon : con l (k + 1)
      · have hci := (con_iff l (k + 1)).1 hcon
        have hm2 : ∀ w, Calls Tryz.prog 150 #[.string t, .int .i64 ((k : Int) + 1)] w fun e w' => e = .returned (.int .i64 ((byt l (k + 1) - 128 : Nat) : Int)) ∧ w = w' := by
          intro w
          have h := hm w
          rw [if_pos hcon, show (byt l (k + 1) : Int) - 128 = ((byt l (k + 1) - 128 : Nat) : Int) by omega] at h
          exact h
        have HM2 := Lib.hid hm2
        have hd : byt l (k + 1) - 128 < 64 := by omega
        have HD : Hid (accn l (c - 240) (k + 1) = x * 64 + (byt l (k + 1) - 128)) := by show _ = _; rw [HACC.out, ← HX.out]
        have hpow : x * 64 + (byt l (k + 1) - 128) < 32 * 64 ^ (k + 1) := by rw [Nat.pow_succ]; omega
        have HPOW := Lib.hid hpow
        have HCON := Lib.hid hcon
        clear hm hm2 hci hcon hpow hx hx64
        generalize byt l (k + 1) - 128 = d at *
        go_wp2_with (first | (go_at_call 150; refine (HM2.out _).mono ?_; rintro e w1 ⟨rfl, rfl⟩))
        go_round
        case rel => exact ⟨k + 1, x * 64 + d, by omega, by go_num, by go_num, HPOW.out, HD.out.symm, fun j hj => by
          by_cases e : j = k
          · subst e; exact HCON.out
          · exact HJ.out j (by omega)⟩
        case measure => simp [intOf]; omega
      · have hm2 : ∀ w, Calls Tryz.prog 150 #[.string t, .int .i64 ((k : Int) + 1)] w fun e w' => e = .returned (.int .i64 (-1)) ∧ w = w' := by
          intro w
          have h := hm w
          rw [if_neg hcon] at h
          exact h
        have HM2 := Lib.hid hm2
        have hz : first l = (0, 0) := by
          rw [HF.out, if_neg]
          intro h
          apply hcon
          rcases (by omega : k = 0 ∨ k = 1 ∨ k = 2) with rfl | rfl | rfl
          · exact h.1
          · exact h.2.1
          · exact h.2.2
        have HZ := Lib.hid hz
        clear hm hm2 hcon hz hx hx64
        go_wp2_with (first | (go_at_call 150; refine (HM2.out _).mono ?_; rintro e w1 ⟨rfl, rfl⟩))
        go_ret2
        exact ⟨ret_two (by rw [HZ.out]; rfl) (by rw [HZ.out]; rfl), rfl⟩
    · obtain rfl : k = 3 := by omega
      have hz : first l = fit x 65536 4 := by
        rw [HF.out, if_pos (by exact ⟨HJ.out 0 (by omega), HJ.out 1 (by omega), HJ.out 2 (by omega)⟩), HX.out]
      have HZ := Lib.hid hz
      clear hz
      have hx2 : x < 8388608 := by omega
      clear hx
      by_cases hbad : x < 65536 ∨ 1114111 < x ∨ (55296 ≤ x ∧ x ≤ 57343)
      · have HB := Lib.hid (fit_small (m := 4) hbad)
        have hend : ∀ e : Ending, e = .returned (.tuple #[.int .i64 0, .int .i64 0]) → e = .returned (.tuple #[.int .i64 ((first l).1 : Nat), .int .i64 ((first l).2 : Nat)]) := fun e he => he.trans (ret_two (by rw [HZ.out, HB.out]; rfl) (by rw [HZ.out, HB.out]; rfl))
        have HEND := Lib.hid hend
        clear hend
        rcases hbad with h | h | h
        · have h' : (x : Int) < 65536 := by omega
          clear h hx2
          go_wp2
          go_ret2
          exact ⟨HEND.out _ rfl, rfl⟩
        · have h' : (1114111 : Int) < x := by omega
          have h'' : ¬ (x : Int) < 65536 := by omega
          clear h hx2
          go_wp2
          go_ret2
          exact ⟨HEND.out _ rfl, rfl⟩
        · by_cases hl : x < 65536
          · have h' : (x : Int) < 65536 := by omega
            clear h hx2 hl
            go_wp2
            go_ret2
            exact ⟨HEND.out _ rfl, rfl⟩
          · have h0 : ¬ (x : Int) < 65536 := by omega
            have h1 : ¬ (1114111 : Int) < x := by omega
            have h2 : (55296 : Int) ≤ x := by omega
            have h3 : (x : Int) ≤ 57343 := by omega
            clear h hx2 hl
            go_wp2
            go_ret2
            exact ⟨HEND.out _ rfl, rfl⟩
      · have HB := Lib.hid (fit_ok (m := 4) hbad)
        have h0 : ¬ (x : Int) < 65536 := by omega
        have h1 : ¬ (1114111 : Int) < x := by omega
        by_cases h5 : 55296 ≤ x
        · have h2 : (55296 : Int) ≤ x := by omega
          have h3 : ¬ (x : Int) ≤ 57343 := by omega
          clear hbad hx2 h5
          go_wp2
          go_ret2
          exact ⟨ret_two (by rw [HZ.out, HB.out]) (by rw [HZ.out, HB.out]; rfl), rfl⟩
        · have h2 : ¬ (55296 : Int) ≤ x := by omega
          clear hbad hx2 h5
          go_wp2
          go_ret2
          exact ⟨ret_two (by rw [HZ.out, HB.out]) (by rw [HZ.out, HB.out]; rfl), rfl⟩
end Go.Proofs.YtmimfkhkilijcaaGreat

/- The document's own signs: whole texts. -/
namespace Go.Proofs.YtmimfkhkilijcaaGreat
set_option maxRecDepth 4000
open Go.ChangeShapes Go.WideShapes Go.ChangeAt Go.RowKit
open PSign PHex PQuote
set_option linter.unusedVariables false

set_option maxRecDepth 100000 in
set_option maxHeartbeats 1000000 in
theorem ref_first (t : ByteArray) (w : World) (hs : t.size ≤ 4096) (hne : 0 < t.size) :
    Calls Tryz.prog 145 #[.string t] w fun e w' => e = .returned (.tuple #[.int .i64 ((first t.data.toList).1 : Nat), .int .i64 ((first t.data.toList).2 : Nat)]) ∧ w = w' := by
  by_cases c2 : 192 ≤ byt t.data.toList 0 ∧ byt t.data.toList 0 < 224
  · exact ref_first2 t w hs hne c2.1 c2.2
  by_cases c3 : 224 ≤ byt t.data.toList 0 ∧ byt t.data.toList 0 < 240
  · exact ref_first3 t w hs hne c3.1 c3.2
  by_cases c4 : 240 ≤ byt t.data.toList 0 ∧ byt t.data.toList 0 < 248
  · exact ref_first4 t w hs hne c4.1 c4.2
  have hb := byt_get t 0 hne
  have hlt := byt_lt t.data.toList 0
  by_cases c1 : byt t.data.toList 0 < 128
  · have hf : first t.data.toList = (byt t.data.toList 0, 1) := by unfold first; rw [if_pos c1]
    rw [hf]
    clear hf
    generalize byt t.data.toList 0 = c at *
    have h1 : (c : Int) < 128 := by omega
    have h0 : (0 : Int) ≤ (c : Int) := by omega
    clear c1 c2 c3 c4 hs hlt
    go_enter Tryz.func145, Tryz.ntmps145
    go_wp2
    go_ret2
    exact ⟨rfl, rfl⟩
  · have hf : first t.data.toList = (0, 0) := by unfold first; rw [if_neg c1, if_neg c2, if_neg c3, if_neg c4]
    rw [hf]
    clear hf
    generalize byt t.data.toList 0 = c at *
    have h1 : ¬ (c : Int) < 128 := by omega
    by_cases h192 : c < 192
    · have k1 : ¬ (192 : Int) ≤ c := by omega
      have k2 : ¬ (224 : Int) ≤ c := by omega
      have k3 : ¬ (240 : Int) ≤ c := by omega
      clear c1 c2 c3 c4 hs hlt h192
      go_enter Tryz.func145, Tryz.ntmps145
      go_wp2
      go_ret2
      exact ⟨rfl, rfl⟩
    · have k1 : (192 : Int) ≤ c := by omega
      have k0 : (c : Int) < 256 := by omega
      have k2 : ¬ (c : Int) < 224 := by omega
      have k3 : (224 : Int) ≤ c := by omega
      have k4 : ¬ (c : Int) < 240 := by omega
      have k5 : (240 : Int) ≤ c := by omega
      have k6 : ¬ (c : Int) < 248 := by omega
      clear c1 c2 c3 c4 hs hlt h192
      go_enter Tryz.func145, Tryz.ntmps145
      go_wp2
      go_ret2
      exact ⟨rfl, rfl⟩

theorem ref_first_at (s : ByteArray) (pos : Nat) (w : World) (hs : s.size ≤ 4096) (h : pos < s.size) :
    Calls Tryz.prog 145 #[.string (s.extract pos s.size)] w fun e w' => e = .returned (.tuple #[.int .i64 ((first (s.data.toList.drop pos)).1 : Nat), .int .i64 ((first (s.data.toList.drop pos)).2 : Nat)]) ∧ w = w' := by
  have h1 := ref_first (s.extract pos s.size) w (by simp; omega) (by simp; omega)
  rw [ext_drop'] at h1
  exact h1

set_option maxRecDepth 100000 in
set_option maxHeartbeats 1000000 in
theorem ref_signs (s : ByteArray) (w : World) (hs : s.size ≤ 4096) :
    Calls Tryz.prog 131 #[.string s] w fun e w' => ∃ v, e = .returned v ∧ Sl w.heap.size w' 1 v (signs s.data.toList).length (iv (signs s.data.toList)) ∧ Below w.heap.size w w' := by
  obtain ⟨i0, hi, hz0, hz1, hz2⟩ := info_parts info_int
  have hlen := signs_len s.data.toList
  have hl2 : s.data.toList.length = s.size := by simp
  rw [hl2] at hlen
  have HLEN := Lib.hid hlen
  clear hlen hl2
  have h0 : Sl w.heap.size (w.alloc (.cells #[] 3)) 1 (.slice (some ⟨w.heap.size, 0, none⟩) 0 0) 0 [] := by
    simpa using Sl.made (B := w.heap.size) w #[] 3 1 0 0 (Nat.le_refl _) (Nat.le_refl _) (Nat.zero_le _) (by simp)
  have H0 := Lib.hid h0
  clear h0
  go_enter Tryz.func131, Tryz.ntmps131
  go_wp2
  go_loopw [3, 4, 5, 6] (fun v i n m wr => ∃ (pos : Nat) (acc : List Int), i = .int .i64 pos ∧ pos ≤ s.size ∧ Hid (signs s.data.toList = acc ++ signs (s.data.toList.drop pos)) ∧ Sl w.heap.size wr 1 v acc.length (iv acc) ∧ Below w.heap.size w wr) (fun _ i _ _ _ => s.size - (intOf i).toNat)
  case atStart => exact ⟨0, [], rfl, Nat.zero_le _, rfl, H0.out, (Below.refl _ _).alloc (Nat.le_refl _) _⟩
  case round =>
    obtain ⟨pos, acc, rfl, hp, HA, hsl, hb⟩ := hrel
    by_cases hlt : pos < s.size
    · have hfirst := fun w' => ref_first_at s pos w' hs hlt
      have hsg := signs_at s pos hlt
      have hst := stp_at s pos hlt
      have hst1 := stp_pos (s.data.toList.drop pos)
      have hrg := sg_range (s.data.toList.drop pos)
      have hb0 := byt_get s pos hlt
      have hbd : byt s.data.toList pos = byt (s.data.toList.drop pos) 0 := by
        unfold byt
        rw [List.getD_eq_getElem?_getD, List.getD_eq_getElem?_getD, List.getElem?_drop, Nat.add_zero]
      rw [hbd] at hb0
      have hal : acc.length < 4096 := by
        have h1 := HLEN.out
        rw [HA.out, List.length_append, hsg] at h1
        simp at h1
        omega
      have HA2 : Hid (signs s.data.toList = (acc ++ [sg (s.data.toList.drop pos)]) ++ signs (s.data.toList.drop (pos + stp (s.data.toList.drop pos)))) := by
        show _ = _
        rw [HA.out, hsg, List.append_assoc]
        rfl
      have hsgo := sg_of (s.data.toList.drop pos)
      have hstd : stp (s.data.toList.drop pos) = if (first (s.data.toList.drop pos)).2 = 0 then 1 else (first (s.data.toList.drop pos)).2 := rfl
      have HFI := Lib.hid hfirst
      have hblt := byt_lt (s.data.toList.drop pos) 0
      clear hsg HA hbd hfirst
      generalize sg (s.data.toList.drop pos) = z at *
      generalize stp (s.data.toList.drop pos) = st at *
      generalize first (s.data.toList.drop pos) = f at *
      generalize byt (s.data.toList.drop pos) 0 = b at *
      obtain ⟨f1, f2⟩ := f
      simp only at hsgo hstd HFI
      have hBw := hb.size
      by_cases hf : f2 = 0
      · rw [if_pos hf] at hsgo hstd
        subst hf hstd
        have hneg : -(b : Int) - 1 = z := hsgo.symm
        have hwn : IntKind.i64.wrap (-(b : Int)) = -(b : Int) := by rw [IntKind.wrap_i64]; omega
        clear hsgo
        go_wp2_with (first | (go_at_call 145; refine (HFI.out _).mono ?_; rintro e w1 ⟨rfl, rfl⟩) | (at_builtin; refine wpList_append_sl _ rfl (.tmp 27) (.tmp 29) 55 55 rfl 3 i0 (.int .i64 0) 8 Tryz.underlying55 hi hz0 hz1 hz2 rfl rfl (hsl.alloc _) _ 1 _ rfl (src_one Tryz.underlying55 _ _ _ rfl) (by unfold maxLen; omega) (by omega) (by simp; omega) ?_; intro v1 w3 k1 k2 k3))
        have hb3 : Below w.heap.size w w3 := (hb.alloc hBw _).upd k2 (by simp; omega) (fun i _ e => (hsl.lt _ e).1)
        go_roundw
        case rel => exact ⟨pos + 1, acc ++ [z], by go_num, hst, HA2.out, by rw [List.length_append, iv_append]; exact k1, hb3⟩
        case measure => simp [intOf]; omega
      · rw [if_neg hf] at hsgo hstd
        subst hstd hsgo
        have hf' : ((st : Int) == 0) = false := by simp; omega
        go_wp2_with (first | (go_at_call 145; refine (HFI.out _).mono ?_; rintro e w1 ⟨rfl, rfl⟩) | (at_builtin; refine wpList_append_sl _ rfl (.tmp 27) (.tmp 29) 55 55 rfl 3 i0 (.int .i64 0) 8 Tryz.underlying55 hi hz0 hz1 hz2 rfl rfl (hsl.alloc _) _ 1 _ rfl (src_one Tryz.underlying55 _ _ _ rfl) (by unfold maxLen; omega) (by omega) (by simp; omega) ?_; intro v1 w3 k1 k2 k3))
        have hb3 : Below w.heap.size w w3 := (hb.alloc hBw _).upd k2 (by simp; omega) (fun i _ e => (hsl.lt _ e).1)
        go_roundw
        case rel => exact ⟨pos + st, acc ++ [(f1 : Int)], by go_num, hst, HA2.out, by rw [List.length_append, iv_append]; exact k1, hb3⟩
        case measure => simp [intOf]; omega
    · have he := signs_end s pos hlt
      have hall := HA.out
      rw [he, List.append_nil] at hall
      have HALL := Lib.hid hall
      clear hall he HA
      go_wp2
      go_ret
      exact ⟨_, rfl, by rw [HALL.out]; exact hsl, hb⟩

/-- A row of numbers that is owned, cell by cell. -/
theorem Sl.ints {B : Nat} {w : World} {v : Value} {n : Nat} {l : List Int} (h : Sl B w 1 v n (iv l)) : n = l.length ∧ ∃ a c, v = .slice a n c ∧ ∀ (j : Nat) (hj : j < l.length), ∃ b off, a = some ⟨b, off, none⟩ ∧ b < w.heap.size ∧ w.cell? ⟨b, off + j, none⟩ = some (.int .i64 l[j]) := by
  have hn : n = l.length := by have := h.1; simp [iv] at this; omega
  refine ⟨hn, ?_⟩
  rcases h.2 with ⟨rfl, rfl⟩ | ⟨g, off, cap, rfl, _, hg, _, _, h3, _⟩
  · exact ⟨_, _, rfl, fun j hj => by omega⟩
  · refine ⟨_, _, rfl, fun j hj => ⟨g, off, rfl, hg, ?_⟩⟩
    rw [h3 j (by omega)]
    simp [iv, hj]

set_option maxRecDepth 100000 in
set_option maxHeartbeats 1000000 in
theorem ref_same (l : List Int) (v1 v2 : Value) (n1 n2 B1 B2 : Nat) (w : World) (h1 : Sl B1 w 1 v1 n1 (iv l)) (h2 : Sl B2 w 1 v2 n2 (iv l)) (hl : l.length ≤ 4096) :
    Calls Tryz.prog 27 #[v1, v2] w fun e w' => e = .returned (.bool true) ∧ ∃ n, w' = w.drewN n := by
  obtain ⟨rfl, a1, c1, rfl, k1⟩ := h1.ints
  obtain ⟨rfl, a2, c2, rfl, k2⟩ := h2.ints
  clear h1 h2
  go_enter Tryz.func27, Tryz.ntmps27
  go_wp2
  go_loopw [5] (fun i wr => ∃ k n : Nat, k ≤ l.length ∧ i = .int .i64 k ∧ wr = w.drewN n) (fun i _ => l.length - (intOf i).toNat)
  case atStart => exact ⟨0, 0, Nat.zero_le _, rfl, rfl⟩
  case round =>
    obtain ⟨k, n, hk, rfl, rfl⟩ := hrel
    by_cases hlt : k < l.length
    · obtain ⟨b1, o1, rfl, hb1, hc1⟩ := k1 k hlt
      obtain ⟨b2, o2, rfl, hb2, hc2⟩ := k2 k hlt
      clear k1 k2
      generalize l[k] = z at *
      have hzz : (z == z) = true := by simp
      go_wp2
      go_quiet (fail)
      go_wp2
      go_roundw
      case rel => exact ⟨k + 1, _, by omega, by go_num, rfl⟩
      case measure => simp [intOf]; omega
    · go_wp2
      go_ret
      exact ⟨rfl, n, rfl⟩
end Go.Proofs.YtmimfkhkilijcaaGreat

/- Has, by the document. -/
namespace Go.Proofs.YtmimfkhkilijcaaGreat
set_option maxRecDepth 4000
open Go.ChangeShapes Go.WideShapes Go.ChangeAt Go.RowKit
open PSign PHex PQuote
set_option linter.unusedVariables false

theorem hasn_drop (l : List Int) (n : Int) (k : Nat) (hk : k < l.length) (hn : 0 ≤ n) (hne : l[k] ≠ n) : hasn (l.drop k) n = hasn (l.drop (k + 1)) n := by
  rw [List.drop_eq_getElem_cons hk]
  unfold hasn
  have h1 : n ∈ l[k] :: l.drop (k + 1) ↔ n ∈ l.drop (k + 1) := by
    rw [List.mem_cons]
    exact ⟨fun h => h.resolve_left fun h => hne h.symm, Or.inr⟩
  exact decide_eq_decide.2 (and_congr_right fun _ => h1)

set_option maxRecDepth 100000 in
set_option maxHeartbeats 1000000 in
theorem ref_has (s : ByteArray) (n : Int) (w : World) (hs : s.size ≤ 4096) :
    Calls Tryz.prog 99 #[.string s, .int .i64 n] w fun e w' => e = .returned (.bool (hasn (signs s.data.toList) n)) ∧ Below w.heap.size w w' := by
  have hsig := ref_signs s w hs
  have hlen := signs_len s.data.toList
  have hl2 : s.data.toList.length = s.size := by simp
  rw [hl2] at hlen
  clear hl2
  have HSIG := Lib.hid hsig
  clear hsig
  generalize signs s.data.toList = l at *
  have hl4 : l.length ≤ 4096 := by omega
  clear hlen
  go_enter Tryz.func99, Tryz.ntmps99
  go_wp2_with (first | (go_at_call 131; refine HSIG.out.mono ?_; rintro e w1 ⟨v, rfl, hsl, hb1⟩))
  obtain ⟨-, a, c, rfl, hint⟩ := hsl.ints
  have HINT := Lib.hid hint
  clear hsl HSIG hint
  go_wp2
  go_loopw [6] (fun i wr => ∃ k : Nat, k ≤ l.length ∧ i = .int .i64 k ∧ Hid (hasn l n = hasn (l.drop k) n) ∧ Below w1.heap.size w1 wr) (fun i _ => l.length - (intOf i).toNat)
  case atStart => exact ⟨0, Nat.zero_le _, rfl, rfl, Below.refl _ _⟩
  case round =>
    obtain ⟨k, hk, rfl, HK, hb⟩ := hrel
    by_cases hlt : k < l.length
    · obtain ⟨b, off, rfl, hbb, hc⟩ := HINT.out k hlt
      have hcx : wr.cell? ⟨b, off + k, none⟩ = some (.int .i64 l[k]) := cell_on hb hc hbb
      clear hc
      by_cases hz : l[k] = n
      · by_cases hn : 0 ≤ n
        · have hres : Hid (hasn l n = true) := by
            show _ = _
            unfold hasn
            rw [decide_eq_true_iff]
            exact ⟨hn, hz ▸ List.getElem_mem hlt⟩
          clear HK
          generalize l[k] = z at *
          subst hz
          go_wp2
          go_ret
          exact ⟨by rw [hres.out]; rfl, on_below hb1 hb⟩
        · have hd : decide (0 ≤ n) = false := by simp [hn]
          have hres : Hid (hasn l n = hasn (l.drop (k + 1)) n) := by
            show _ = _
            unfold hasn
            simp [hn]
          have hn' : n < 0 := by omega
          clear HK
          generalize l[k] = z at *
          subst hz
          go_wp2
          go_roundw
          case rel => exact ⟨k + 1, by omega, by go_num, hres, hb⟩
          case measure => simp [intOf]; omega
      · have hres : 0 ≤ n → hasn l n = hasn (l.drop (k + 1)) n := fun hn => by rw [HK.out, hasn_drop l n k hlt hn hz]
        have hres2 : Hid (hasn l n = hasn (l.drop (k + 1)) n) := by
          show _ = _
          by_cases hn : 0 ≤ n
          · exact hres hn
          · unfold hasn; simp [hn]
        clear HK hres
        generalize l[k] = z at *
        go_wp2
        go_roundw
        case rel => exact ⟨k + 1, by omega, by go_num, hres2, hb⟩
        case measure => simp [intOf]; omega
    · have hkl : k = l.length := by omega
      subst hkl
      go_wp2
      go_ret
      exact ⟨by rw [HK.out]; simp [hasn], on_below hb1 hb⟩
end Go.Proofs.YtmimfkhkilijcaaGreat
