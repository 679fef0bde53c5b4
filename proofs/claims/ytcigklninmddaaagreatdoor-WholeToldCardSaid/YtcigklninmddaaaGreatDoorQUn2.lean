/- quote.Unquote: whatever there is. -/
import Derived.Test.YtcigklninmddaaaGreatDoorQUn
namespace Go.Proofs.YtcigklninmddaaaGreatDoor
set_option maxRecDepth 4000
open Go.ChangeShapes Go.WideShapes Go.ChangeAt Go.RowKit
open PSign PHex PQuote
set_option linter.unusedVariables false

def strLen : Value → Nat
  | .string s => s.size
  | _ => 0
def strOf : Value → ByteArray
  | .string s => s
  | _ => ByteArray.empty

/-- Some text, no longer than n, and whether there is one. -/
def TextPost (n : Nat) (w : World) (e : Ending) (w' : World) : Prop :=
  ∃ (l : List UInt8) (b : Bool), e = .returned (.tuple #[.string (bstr l), .bool b]) ∧ l.length ≤ n ∧ Below w.heap.size w w'

theorem trim_suf (l p : List UInt8) : (Lib.trimSuffix l p).length ≤ l.length := by
  unfold Lib.trimSuffix
  split
  · simp
  · exact Nat.le_refl _
theorem trim_pre (l p : List UInt8) : (Lib.trimPrefix l p).length ≤ l.length := by
  unfold Lib.trimPrefix
  split
  · simp
  · exact Nat.le_refl _

set_option maxRecDepth 100000 in
set_option maxHeartbeats 1000000 in
theorem untold_any (q : ByteArray) (w : World) (he : Env w) (hs : q.size ≤ 4096) :
    Calls Tryz.prog 60 #[.string q] w (TextPost q.size w) := by
  have hql : q.data.toList.length = q.size := by simp
  have hc1 : ∀ w, Calls Tryz.prog 79 #[.string q, .string ⟨#[34]⟩] w fun e w' => e = .returned (.tuple #[.string (bstr (Lib.trimPrefix q.data.toList [34])), .bool (Lib.hasPrefix q.data.toList [34])]) ∧ w = w' := fun w => (Tryz.strings_CutPrefix q ⟨#[34]⟩ w).mono fun e w' h => ⟨h.1, h.2.symm⟩
  have hl1 := trim_pre q.data.toList [34]
  generalize Lib.trimPrefix q.data.toList [34] = x at *
  generalize Lib.hasPrefix q.data.toList [34] = o at *
  have hc2 : ∀ w, Calls Tryz.prog 80 #[.string (bstr x), .string ⟨#[34]⟩] w fun e w' => e = .returned (.tuple #[.string (bstr (Lib.trimSuffix x [34])), .bool (Lib.hasSuffix x [34])]) ∧ w = w' := fun w => (Tryz.strings_CutSuffix (bstr x) ⟨#[34]⟩ w (by rw [bstr_len]; omega)).mono fun e w' h => ⟨h.1, h.2.symm⟩
  have hl2 := trim_suf x [34]
  generalize Lib.trimSuffix x [34] = y at *
  generalize Lib.hasSuffix x [34] = c at *
  have hyl : y.length ≤ q.size := by omega
  have HC1 := Lib.hid hc1
  have HC2 := Lib.hid hc2
  clear hc1 hc2 hl1 hl2 hql
  have hbm := bld_made w
  have hz := b_zero w
  have hb0 : Below w.heap.size w (w.alloc (.cells #[.pointer none, .slice none 0 0] 46)) := (Below.refl _ _).alloc (Nat.le_refl _) _
  have HZ := Lib.hid hz
  have HB0 := Lib.hid hb0
  clear hz hb0
  cases o with
  | false =>
    go_enter Tryz.func60, Tryz.ntmps60
    go_wp2_with (first | (go_at_call 79; refine (HC1.out _).mono ?_; rintro e w1 ⟨rfl, rfl⟩) | (go_at_call 80; refine (HC2.out _).mono ?_; rintro e w1 ⟨rfl, rfl⟩))
    go_ret2
    exact ⟨[], false, rfl, by simp, Below.refl _ _⟩
  | true =>
    cases c with
    | false =>
      go_enter Tryz.func60, Tryz.ntmps60
      go_wp2_with (first | (go_at_call 79; refine (HC1.out _).mono ?_; rintro e w1 ⟨rfl, rfl⟩) | (go_at_call 80; refine (HC2.out _).mono ?_; rintro e w1 ⟨rfl, rfl⟩))
      go_ret2
      exact ⟨[], false, rfl, by simp, Below.refl _ _⟩
    | true =>
      go_enter Tryz.func60, Tryz.ntmps60
      go_wp2_with (first | (go_at_call 79; refine (HC1.out _).mono ?_; rintro e w1 ⟨rfl, rfl⟩) | (go_at_call 80; refine (HC2.out _).mono ?_; rintro e w1 ⟨rfl, rfl⟩))
      clear hbm
      go_loopw [4, 8, 9] (fun v p k wr => ∃ (t : ByteArray) (acc : List UInt8), v = .string t ∧ Bld w.heap.size w.heap.size acc wr ∧ acc.length + t.size ≤ q.size ∧ Below w.heap.size w wr) (fun v _ _ _ => strLen v)
      case atStart => exact ⟨bstr y, [], rfl, HZ.out, by rw [bstr_len]; simpa using hyl, HB0.out⟩
      case round =>
        obtain ⟨t, acc, rfl, hbl, hl, hb⟩ := hrel
        have heW := he.on hb
        by_cases hemp : t.size = 0
        · have : t = ⟨#[]⟩ := by
            apply ByteArray.ext
            exact Array.eq_empty_of_size_eq_zero hemp
          subst this
          have htx := b_text w.heap.size w.heap.size acc wr hbl hb.size
          have HTX := Lib.hid htx
          clear htx hemp
          go_wp2_with (first | (go_at_call 20; refine HTX.out.mono ?_; rintro e w5 ⟨rfl, hb5⟩))
          go_ret2
          exact ⟨acc, true, rfl, by omega, hb.trans hb5⟩
        · have hne : t.toList.isEmpty = false := by
            rw [Lib.toList_data]
            cases h : t.data.toList with
            | nil => exfalso; apply hemp; have := congrArg List.length h; simpa using this
            | cons x l => rfl
          have hfi := first_any t wr heW (by omega) (by omega)
          have HFI := Lib.hid hfi
          clear hfi
          go_wp2_with (go_at_call 81; refine HFI.out.mono ?_)
          rintro e w2 ⟨l, k, rfl, hk, hll, hb2⟩
          by_cases h0 : k = 0
          · subst h0
            go_wp2
            go_ret2
            exact ⟨[], false, rfl, by simp, on_below hb hb2⟩
          · have hk0 : ((k : Int) == 0) = false := by simp; omega
            have hbl2 := bld_below (B' := 0) hbl hb2
            have hb3 := on_below hb hb2
            have hwr := b_write w.heap.size w.heap.size acc (bstr l) w2 hbl2 (by rw [bstr_len]; omega) hb3.size
            have HWR := Lib.hid hwr
            have hkI : (k : Int) ≤ (t.size : Int) := by omega
            clear hwr
            go_wp2_with (first | (go_at_call 16; refine HWR.out.mono ?_; rintro e w4 ⟨rfl, hon4⟩))
            have hb4 : Below w.heap.size w w4 := hb3.trans hon4.2.1
            go_roundw
            case rel => exact ⟨_, acc ++ l, rfl, hon4.1, by simp; omega, hb4⟩
            case measure => simp [strLen]; omega

/-- What Unquote leaves, whatever it is given. -/
def UnqPost (q : ByteArray) (w : World) (e : Ending) (w' : World) : Prop :=
  ∃ (l : List UInt8) (b : Bool), e = .returned (.tuple #[.string (bstr l), .bool b]) ∧ l.length ≤ q.size ∧ (b = true → quote l = q.data.toList) ∧ (b = false → l = []) ∧ Below w.heap.size w w'

set_option maxRecDepth 100000 in
set_option maxHeartbeats 1000000 in
theorem unq_any (q : ByteArray) (w : World) (he : Env w) (hs : q.size ≤ 4096) :
    Calls Tryz.prog 40 #[.string q] w (UnqPost q w) := by
  have hu := untold_any q w he hs
  have HU := Lib.hid hu
  clear hu
  go_enter Tryz.func40, Tryz.ntmps40
  go_wp2_with (go_at_call 60; refine HU.out.mono ?_)
  rintro e w1 ⟨l, b, rfl, hl, hb1⟩
  cases b with
  | false =>
    go_wp2
    go_ret2
    exact ⟨[], false, rfl, by simp, (fun h => by cases h), fun _ => rfl, hb1⟩
  | true =>
    have hqt := q_quote (bstr l) w1 (by rw [bstr_len]; omega) (he.on hb1)
    rw [bstr_list] at hqt
    have HQT := Lib.hid hqt
    clear hqt
    by_cases heq : quote l = q.data.toList
    · have hqq : bstr (quote l) = q := by rw [heq]
      rw [hqq] at HQT
      have HE := Lib.hid heq
      clear heq hqq
      go_wp2_with (first | (go_at_call 61; refine HQT.out.mono ?_; rintro e w2 ⟨rfl, hb2⟩))
      go_ret2
      exact ⟨l, true, rfl, hl, fun _ => HE.out, (fun h => by cases h), on_below hb1 hb2⟩
    · have hq1 : (quote l == q.toList) = false := by rw [Lib.toList_data]; simpa using heq
      have hq2 : (!(quote l == q.toList)) = true := by rw [hq1]; rfl
      clear heq
      go_wp2_with (first | (go_at_call 61; refine HQT.out.mono ?_; rintro e w2 ⟨rfl, hb2⟩))
      go_ret2
      exact ⟨[], false, rfl, by simp, (fun h => by cases h), fun _ => rfl, on_below hb1 hb2⟩
end Go.Proofs.YtcigklninmddaaaGreatDoor
