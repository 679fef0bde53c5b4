/- event: Last, as a call; the laws' own first question. -/
import Derived.Test.YtcigklninmddaaaGreatDoorEv7
import Derived.Test.YtcigklninmddaaaGreatDoorEvEq
namespace Go.Proofs.YtcigklninmddaaaGreatDoor
set_option maxRecDepth 4000
open Go.ChangeShapes Go.WideShapes Go.ChangeAt Go.RowKit
open PWord PQuote PSign PEv
open Go.Lib (itoa)
set_option linter.unusedVariables false
set_option linter.unusedSimpArgs false

theorem ev_last (a : Option Addr) (n c : Nat) (l : List Ev) (w : World) (hn : n = l.length) (hl : l.length ≤ 1000000) (hI : RowE w a l) :
    Calls Tryz.prog 23 #[.slice a n c] w fun e w' => e = .returned (.int .i64 (elast l)) ∧ Below w.heap.size w w' := by
  subst hn
  exact (callsIn_wide (n := 3)).1 (last_in Fence.wide 3 trivial trivial trivial rfl (Nat.le_refl _) a c l hl w hI)

theorem hq_small (x? : Option (List UInt8)) (s : ByteArray) (hs : s.size ≤ 4096) : ∀ a1 a2 a3 q, cuts 32 3 (Lib.cut s.data.toList [32]).2.1 = [a1, a2, a3, q] → q.length ≤ 4096 ∨ ∃ x, x? = some x ∧ q = quote x := by
  intro a1 a2 a3 q h
  have h1 := (cuts_lim 32 3 (Lib.cut s.data.toList [32]).2.1).2 q (by rw [h]; simp)
  have h2 := cut_le s.data.toList
  have h3 : s.data.toList.length = s.size := by simp
  exact .inl (by omega)
theorem hq_line (v : Ev) (hv : v.ok) : ∀ a1 a2 a3 q, cuts 32 3 (Lib.cut (eline v) [32]).2.1 = [a1, a2, a3, q] → q.length ≤ 4096 ∨ ∃ x, some (etext v) = some x ∧ q = quote x := by
  intro a1 a2 a3 q h
  cases v with
  | el late p k t x =>
    obtain ⟨h1, h2, h3⟩ := hv
    have hn : (32 : UInt8) ∉ elName late := by cases late <;> decide
    have hl : eline (.el late p k t x) = elName late ++ 32 :: (itoa p ++ 32 :: (itoa k ++ 32 :: (itoa t ++ 32 :: quote x))) := by simp [eline, lineOf, glue]
    rw [hl, cut_some 32 _ _ hn] at h
    simp only at h
    rw [quote_cuts 2 p h1, quote_cuts 1 k h2, quote_cuts 0 t h3, show cuts 32 0 (quote x) = [quote x] from rfl] at h
    simp only [List.cons.injEq, and_true] at h
    exact .inr ⟨x, rfl, h.2.2.2.symm⟩
  | mark n =>
    have h1 := (cuts_lim 32 3 (Lib.cut (eline (.mark n)) [32]).2.1).2 q (by rw [h]; simp)
    have h2 := cut_le (eline (.mark n))
    have h3 := eline_len (.mark n) hv
    have h4 : (etext (.mark n)).length = 0 := rfl
    exact .inl (by omega)
  | fault p n =>
    have h1 := (cuts_lim 32 3 (Lib.cut (eline (.fault p n)) [32]).2.1).2 q (by rw [h]; simp)
    have h2 := cut_le (eline (.fault p n))
    have h3 := eline_len (.fault p n) hv
    have h4 : (etext (.fault p n)).length = 0 := rfl
    exact .inl (by omega)
/-- A line that is an event's is read as it. -/
theorem ev_read_line (v : Ev) (hv : v.ok) (hx : (etext v).length ≤ 4096) (w : World) (he : EnvE w) :
    Calls Tryz.prog 8 #[.string (bstr (eline v))] w fun e w' => e = .returned (.tuple #[evv v, .bool true]) ∧ Below w.heap.size w w' := by
  have hl := eline_len v hv
  refine (ev_read (some (etext v)) (fun x h => by cases h; exact hx) (bstr (eline v)) w he (by rw [bstr_len]; omega) (hq_line v hv)).mono ?_
  rintro e w' ⟨U, hR, rfl, hb, _⟩
  have h : eread U (bstr (eline v)).data.toList = some v := eread_line v hv (hR.all _ rfl)
  exact ⟨by rw [h]; rfl, hb⟩

theorem sg_a : signs [97] = [97] := by
  rw [signs_cons _ (by simp), show sg [97] = 97 by decide, show stp [97] = 1 by decide]
  show 97 :: signs [] = _
  rw [signs_nil]
theorem quote_a : quote [97] = [34, 97, 34] := by
  unfold quote
  rw [sg_a]
  have h1 : told 97 = [97] := by decide
  unfold toldAll
  simp only [List.flatMap_cons, List.flatMap_nil, h1]
  rfl
theorem itoa_one (n : Nat) (hn : n < 10) : itoa (n : Int) = [UInt8.ofNat (48 + n)] := by
  have h := Go.Lib.itoa_nonneg n
  rw [Go.Lib.decDigits_one hn] at h
  exact h
theorem line_a : eline (.el true 0 1 7 [97]) = [108, 97, 116, 101, 32, 48, 32, 49, 32, 55, 32, 34, 97, 34] := by
  rw [eline_el, quote_a, show itoa 0 = [48] from itoa_one 0 (by omega), show itoa 1 = [49] from itoa_one 1 (by omega), show itoa 7 = [55] from itoa_one 7 (by omega)]
  rfl
theorem line_5 : eline (.mark 5) = [109, 97, 114, 107, 32, 53] := by
  rw [eline_mark, show itoa 5 = [53] from itoa_one 5 (by omega)]
  rfl

set_option maxRecDepth 100000 in
set_option maxHeartbeats 2000000 in
theorem speaks22 (w : World) (he : EnvE w) : Calls Tryz.prog 5 #[] w fun e w' => e = .returned (.bool true) ∧ Below w.heap.size w w' := by
  have h1 := ev_read_line (.el true 0 1 7 [97]) ⟨⟨by decide, by decide⟩, ⟨by decide, by decide⟩, ⟨by decide, by decide⟩⟩ (by decide) w he
  rw [line_a] at h1
  have HR : Hid (Calls Tryz.prog 8 #[.string ⟨#[108, 97, 116, 101, 32, 48, 32, 49, 32, 55, 32, 34, 97, 34]⟩] w fun e w' => e = .returned (.tuple #[.iface 55 (.agg #[.int .i64 0, .int .i64 1, .int .i64 7, .string ⟨#[97]⟩, .bool true]), .bool true]) ∧ Below w.heap.size w w') := h1
  have HT : ∀ w', EnvE w' → Hid (Calls Tryz.prog 11 #[.slice (some ⟨w'.heap.size, 0, none⟩) 1 1] (w'.alloc (.cells #[.iface 70 (.agg #[.int .i64 5])] 29)) fun e w2 => e = .returned (.string ⟨#[109, 97, 114, 107, 32, 53, 10]⟩) ∧ Below w'.heap.size w' w2) := by
    intro w' h
    have hb : Below w'.heap.size w' (w'.alloc (.cells #[.iface 70 (.agg #[.int .i64 5])] 29)) := (Below.refl _ _).alloc (Nat.le_refl _) _
    have hrow : RowE (w'.alloc (.cells #[.iface 70 (.agg #[.int .i64 5])] 29)) (some ⟨w'.heap.size, 0, none⟩) [.mark 5] := ⟨fun i hi => by
      obtain rfl : i = 0 := by simp at hi; exact hi
      exact ⟨_, 0, rfl, by simp, (At.alloc w' [.iface 70 (.agg #[.int .i64 5])] 29).one.2.1⟩⟩
    have ht := ev_text (some ⟨w'.heap.size, 0, none⟩) 1 1 [.mark 5] _ (h.on hb) hrow rfl (by decide) (by intro v hv; rw [List.mem_singleton] at hv; subst hv; exact ⟨⟨by decide, by decide⟩, by decide⟩) (by
      show (eline (.mark 5) ++ [10] ++ []).length ≤ _
      rw [line_5]; decide)
    rw [show etexts [.mark 5] = [109, 97, 114, 107, 32, 53, 10] by show eline (.mark 5) ++ [10] ++ [] = _; rw [line_5]; rfl] at ht
    exact ht.mono fun e w2 ⟨h1, h2⟩ => ⟨h1, hb.trans (h2.mono (by simp))⟩
  have HL := fun w' => Lib.hid (ev_last none 0 0 [] w' rfl (by decide) (RowE.nil w' none))
  have hq := eq_el 0 1 7 ⟨#[97]⟩ true
  clear h1
  go_enter Tryz.func5, Tryz.ntmps5
  go_wp2_with (first | (go_at_call 8; (with_reducible refine HR.out.mono ?_); rintro e w1 ⟨rfl, hb1⟩; have he1 := he.on hb1) | (go_at_call 11; (with_reducible refine (HT _ he1).out.mono ?_); rintro e w2 ⟨rfl, hb2⟩) | (go_at_call 23; (with_reducible refine (HL _).out.mono ?_); rintro e w3 ⟨rfl, hb3⟩))
  go_ret
  exact ⟨rfl, on_below (on_below hb1 hb2) hb3⟩
end Go.Proofs.YtcigklninmddaaaGreatDoor
