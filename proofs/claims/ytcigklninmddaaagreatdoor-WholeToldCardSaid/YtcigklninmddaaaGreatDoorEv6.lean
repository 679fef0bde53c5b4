/- event: told, and Text. -/
import Derived.Test.YtcigklninmddaaaGreatDoorEv5
namespace Go.Proofs.YtcigklninmddaaaGreatDoor
set_option maxRecDepth 4000
open Go.ChangeShapes Go.WideShapes Go.ChangeAt Go.RowKit
open PWord PQuote PSign PEv
open Go.Lib (itoa)
set_option linter.unusedVariables false
set_option linter.unusedSimpArgs false

/-- The deferred closure of a frame that returns: recover finds nothing. -/
theorem told_idle (w : World) : CallsD Tryz.prog 43 #[] .returning w fun e u' w' => e = .returned (.tuple #[]) ∧ u' = .returning ∧ w' = w := by
  refine callsD_of_wpS Tryz.func43 rfl fun c₀ cs hu => ?_
  apply wpS_region
  simp [wpOpsS, go_sem, recoverD, hu, Tryz.ntmps43, bodyPostS, results, Tryz.results43]
  cases c₀
  simp_all

set_option maxRecDepth 100000 in
set_option maxHeartbeats 1000000 in
theorem ev_told (v : Ev) (hv : v.ok) (hx : (etext v).length ≤ 4096) (w : World) (he : EnvE w) :
    Calls Tryz.prog 29 #[evv v] w fun e w' => e = .returned (.string (bstr (eline v))) ∧ Below w.heap.size w w' := by
  cases v with
  | mark n =>
    have HM := Lib.hid (mark_line n hv w he.wd)
    show Calls Tryz.prog 29 #[.iface 70 (.agg #[.int .i64 n])] w _
    go_enter_defers Tryz.func29, Tryz.ntmps29
    go_wp2_with (first | (go_at_call 148; refine HM.out.mono ?_; rintro e w1 ⟨rfl, hb1⟩) | (refine HM.out.mono ?_; rintro e w1 ⟨rfl, hb1⟩))
    refine leaves_cons (f := 43) (args := #[]) (by simp) (by simp [go_sem]) ?_
    refine (told_idle _).mono ?_
    rintro e u' w'' ⟨rfl, rfl, rfl⟩
    exact ⟨_, results_tmp rfl _ _ _, rfl, hb1⟩
  | fault p n =>
    have HM := Lib.hid (fault_line p n hv.1 hv.2 w he.wd)
    show Calls Tryz.prog 29 #[.iface 40 (.agg #[.int .i64 p, .int .i64 n])] w _
    go_enter_defers Tryz.func29, Tryz.ntmps29
    go_wp2_with (first | (go_at_call 140; refine HM.out.mono ?_; rintro e w1 ⟨rfl, hb1⟩) | (refine HM.out.mono ?_; rintro e w1 ⟨rfl, hb1⟩))
    refine leaves_cons (f := 43) (args := #[]) (by simp) (by simp [go_sem]) ?_
    refine (told_idle _).mono ?_
    rintro e u' w'' ⟨rfl, rfl, rfl⟩
    exact ⟨_, results_tmp rfl _ _ _, rfl, hb1⟩
  | el late p k t x =>
    have HM := Lib.hid (el_line late p k t x hv.1 hv.2.1 hv.2.2 hx w he)
    show Calls Tryz.prog 29 #[.iface 55 (.agg #[.int .i64 p, .int .i64 k, .int .i64 t, .string (bstr x), .bool late])] w _
    go_enter_defers Tryz.func29, Tryz.ntmps29
    go_wp2_with (first | (go_at_call 147; refine HM.out.mono ?_; rintro e w1 ⟨rfl, hb1⟩) | (refine HM.out.mono ?_; rintro e w1 ⟨rfl, hb1⟩))
    refine leaves_cons (f := 43) (args := #[]) (by simp) (by simp [go_sem]) ?_
    refine (told_idle _).mono ?_
    rintro e u' w'' ⟨rfl, rfl, rfl⟩
    exact ⟨_, results_tmp rfl _ _ _, rfl, hb1⟩

/-- A row of events that can be read, from this place on. -/
structure RowE (w : World) (a : Option Addr) (l : List Ev) : Prop where
  at_ : ∀ (i : Nat) (h : i < l.length), ∃ b off, a = some ⟨b, off, none⟩ ∧ b < w.heap.size ∧ w.cell? ⟨b, off + i, none⟩ = some (evv l[i])
theorem RowE.on {w w' : World} {a : Option Addr} {l : List Ev} (h : RowE w a l) (hb : Below w.heap.size w w') : RowE w' a l :=
  ⟨fun i hi => by
    obtain ⟨b, off, h1, h2, h3⟩ := h.at_ i hi
    exact ⟨b, off, h1, Nat.lt_of_lt_of_le h2 hb.size, by rw [hb.cell (p := ⟨b, off + i, none⟩) h2]; exact h3⟩⟩
theorem RowE.nil (w : World) (a : Option Addr) : RowE w a [] := ⟨fun i h => by cases h⟩
/-- All in words, a line each. -/
def etexts (l : List Ev) : List UInt8 := l.flatMap fun v => eline v ++ [10]
theorem etexts_snoc (l : List Ev) (v : Ev) : etexts (l ++ [v]) = etexts l ++ eline v ++ [10] := by simp [etexts]
theorem etexts_len (l : List Ev) (k : Nat) : (etexts (l.take k)).length ≤ (etexts l).length := by
  have h : etexts l = etexts (l.take k) ++ etexts (l.drop k) := by
    unfold etexts
    rw [← List.flatMap_append, List.take_append_drop]
  rw [h, List.length_append]
  omega

set_option maxRecDepth 100000 in
set_option maxHeartbeats 1000000 in
theorem ev_text (a : Option Addr) (n c : Nat) (l : List Ev) (w : World) (he : EnvE w) (hr : RowE w a l) (hn : n = l.length) (hl : n ≤ 100000) (hv : ∀ v ∈ l, v.ok ∧ (etext v).length ≤ 4096) (hb : (etexts l).length ≤ 1000000000) :
    Calls Tryz.prog 11 #[.slice a n c] w fun e w' => e = .returned (.string (bstr (etexts l))) ∧ Below w.heap.size w w' := by
  have hz := b_zero w
  have hb0 : Below w.heap.size w (w.alloc (.cells #[.pointer none, .slice none 0 0] 46)) := (Below.refl _ _).alloc (Nat.le_refl _) _
  have hbm := bld_made w
  have HN := Lib.hid hn
  have HV := Lib.hid hv
  have HT := Lib.hid (fun k => etexts_len l k)
  clear hn hv
  have hnil : Bld w.heap.size w.heap.size (etexts (l.take 0)) (w.alloc (.cells #[.pointer none, .slice none 0 0] 46)) := hz
  clear hz
  go_enter Tryz.func11, Tryz.ntmps11
  go_wp2
  go_loopw [8] (fun i wr => ∃ k : Nat, i = .int .i64 k ∧ k ≤ n ∧ Bld w.heap.size w.heap.size (etexts (l.take k)) wr ∧ Below w.heap.size w wr ∧ w.heap.size < wr.heap.size) (fun i _ => n - (intOf i).toNat)
  case atStart => exact ⟨0, rfl, Nat.zero_le _, hnil, hb0, by simp⟩
  case round =>
    clear hnil hb0 hbm
    obtain ⟨k, rfl, hk, hbl, hbw, hlt⟩ := hrel
    by_cases hkn : k < n
    · have hk1 : k < l.length := by rw [← HN.out]; exact hkn
      obtain ⟨b, off, rfl, hbs, q0⟩ := (hr.on hbw).at_ k hk1
      obtain ⟨hvo, hvx⟩ := HV.out _ (List.getElem_mem hk1)
      have hsn := etexts_snoc (l.take k) l[k]
      rw [← List.take_succ_eq_append_getElem hk1] at hsn
      have hln := HT.out (k + 1)
      rw [hsn, List.length_append, List.length_append] at hln
      have HTO := Lib.hid (ev_told l[k] hvo hvx wr (he.on hbw))
      have hw1 := fun w' (h : Bld w.heap.size w.heap.size (etexts (l.take k)) w') (hB : w.heap.size ≤ w'.heap.size) => b_write w.heap.size w.heap.size (etexts (l.take k)) (bstr (eline l[k])) w' h (by rw [bstr_len]; omega) hB
      rw [show (bstr (eline l[k])).data.toList = eline l[k] from rfl] at hw1
      have hw2 := fun w' (h : Bld w.heap.size w.heap.size (etexts (l.take k) ++ eline l[k]) w') (hB : w.heap.size ≤ w'.heap.size) => b_write w.heap.size w.heap.size (etexts (l.take k) ++ eline l[k]) ⟨#[10]⟩ w' h (by rw [List.length_append]; show _ + 1 ≤ _; omega) hB
      rw [show (⟨#[10]⟩ : ByteArray).data.toList = [10] from rfl, ← hsn] at hw2
      have HW1 := Lib.hid hw1
      have HW2 := Lib.hid hw2
      clear hw1 hw2 hsn hln hvo hvx
      generalize hE1 : etexts (l.take (k + 1)) = E1 at *
      have HE1 := Lib.hid hE1
      clear hE1
      generalize hEl : eline l[k] = T at *
      generalize l[k] = ev at *
      clear hEl
      generalize etexts (l.take k) = E0 at *
      clear hk1
      go_wp2_with (first | (go_at_call 29; (with_reducible refine HTO.out.mono ?_); rintro e w2 ⟨rfl, hb2⟩; have hbl2 := bld_on hbl hb2; have hbw2 := on_below hbw hb2; have hlt2 := Nat.lt_of_lt_of_le hlt hb2.size) | (go_at_call 16; first | ((with_reducible refine (HW1.out _ hbl2 hbw2.size).mono ?_); rintro e w3 ⟨rfl, hon3⟩; have hbw3 := hbw2.trans hon3.2.1; have hB3 := hon3.1) | ((with_reducible refine (HW2.out _ hB3 hbw3.size).mono ?_); rintro e w4 ⟨rfl, hon4⟩; have hbw4 := hbw3.trans hon4.2.1)))
      go_roundw
      case rel => exact ⟨k + 1, by go_num, hkn, by rw [HE1.out]; exact hon4.1, hbw4, Nat.lt_of_lt_of_le hlt2 (Nat.le_trans hon3.2.1.size hon4.2.1.size)⟩
      case measure => simp [intOf]; omega
    · obtain rfl : k = n := by omega
      rw [List.take_of_length_le (by rw [← HN.out]; exact Nat.le_refl _)] at hbl
      go_wp2_with (go_at_call 20; refine (b_text _ _ _ _ hbl hbw.size).mono ?_; rintro e w5 ⟨rfl, hb5⟩)
      go_ret
      exact ⟨rfl, hbw.trans hb5⟩
end Go.Proofs.YtcigklninmddaaaGreatDoor
