/- The walk of the law EventReads. -/
import Derived.Test.YtcigklninmddaaaDoorEv9
namespace Go.Proofs.YtcigklninmddaaaDoor
set_option maxRecDepth 4000
open Go.ChangeShapes Go.WideShapes Go.ChangeAt Go.RowKit
open PWord PQuote PSign PEv
open Go.Lib (itoa)
set_option linter.unusedVariables false
set_option linter.unusedSimpArgs false

theorem evv_held (v : Ev) : ∃ t x, evv v = .iface t x := by cases v <;> exact ⟨_, _, rfl⟩
theorem evr_eight (v : Ev) : ∃ x0 x1 x2 x3 x4 x5 x6 x7, evc v = [x0, x1, x2, x3, x4, x5, x6, x7] ∧ evr v = .agg #[x0, x1, x2, x3, x4, x5, x6, x7] := by
  cases v <;> exact ⟨_, _, _, _, _, _, _, _, rfl, rfl⟩
theorem row_one (w : World) (v : Ev) : RowE (w.alloc (.cells #[evv v] 24)) (some ⟨w.heap.size, 0, none⟩) [v] := ⟨fun i hi => by
  obtain rfl : i = 0 := by simp at hi; exact hi
  exact ⟨_, 0, rfl, by simp, (At.alloc w [evv v] 24).one.2.1⟩⟩
theorem plain_cells {B : Nat} {w : World} {vv : Value} {v : Ev} (h : Sl B w 8 vv 1 (evcs [v])) : ∃ (g o c : Nat), vv = .slice (some ⟨g, o, none⟩) 1 c ∧ 1 ≤ c ∧ g < w.heap.size ∧ ∀ (j : Nat) (hj : j < 8), w.cell? ⟨g, o + j, none⟩ = (evc v)[j]? := by
  rcases h.2 with ⟨rfl, h0⟩ | ⟨g, off, cap, rfl, hb, hg, h1, h2, h3, h4⟩
  · cases h0
  · exact ⟨g, off, cap, rfl, h1, hg, fun j hj => by rw [h3 j (by omega)]; simp [evcs]⟩

set_option maxRecDepth 100000 in
set_option maxHeartbeats 4000000 in
theorem walk_EventReads (w : World) (he : EnvE w) (a0 : ByteArray) (w0 : a0.size ≤ maxLen) :
    Calls Tryd.prog 3 #[.string a0] w fun e w' => e = .returned (.bool true) ∧ Below w.heap.size w w' := by
  have HSP := Lib.hid (speaks22 w he)
  by_cases hbig : 500 < a0.size
  · go_enter Tryd.func3, Tryd.ntmps3
    go_wp2_with (first | (go_at_call 5; refine HSP.out.mono ?_; rintro e w2 ⟨rfl, b2⟩))
    go_ret
    exact ⟨rfl, b2⟩
  have HRD := fun w h => Lib.hid (ev_read none (by intro x h; cases h) a0 w h (by omega) (hq_small none a0 (by omega)))
  go_enter Tryd.func3, Tryd.ntmps3
  go_wp2_with (first | (go_at_call 5; refine HSP.out.mono ?_; rintro e w2 ⟨rfl, b2⟩; have he2 := he.on b2))
  go_wp2_with (go_at_call 6; refine (HRD _ he2).out.mono ?_)
  rintro e w3 ⟨U, hR, rfl, b3, hlen⟩
  have hb3 := on_below b2 b3
  cases ho : eread U a0.data.toList with
  | none =>
    clear hlen ho hR
    simp only [evo]
    go_wp2
    go_ret
    exact ⟨rfl, hb3⟩
  | some v =>
    obtain ⟨hl, hok⟩ := eread_some hR.snd ho
    have hx := (hlen v ho).resolve_right (by simp)
    have hsz : a0.data.toList.length = a0.size := by simp
    have hbs : bstr (eline v) = a0 := (bstr_of hl.symm).symm
    have HL := fun w => Lib.hid (ref_line v hok (by omega) w)
    rw [hbs] at HL
    have HP := fun w => Lib.hid (law_plain (some ⟨w.heap.size, 0, none⟩) 1 1 [v] _ (row_one w v) rfl (by decide))
    obtain ⟨tt, xx, hxx⟩ := evv_held v
    rw [hxx] at HP
    have HE := Lib.hid (evr_eight v)
    have HPC := fun B w vv (h : Sl B w 8 vv 1 (evcs [v])) => Lib.hid (plain_cells h)
    clear hl hok hx hsz hbs hlen ho hR
    obtain ⟨x0, x1, x2, x3, x4, x5, x6, x7, hec, her⟩ := HE.out
    rw [her] at HL
    rw [hec] at HPC
    have HB3 := Lib.hid hb3
    clear HE hec her hb3
    simp only [evo]
    rw [hxx]
    clear hxx
    go_wp2_with (first | (go_at_call 8; (with_reducible refine (HP _).out.mono ?_); rintro e w4 ⟨v4, rfl, hs4, b4⟩; obtain ⟨g, o, c, rfl, hc1, hg, hcl⟩ := (HPC _ _ _ hs4).out; have c0 := hcl 0 (by decide); have c1 := hcl 1 (by decide); have c2 := hcl 2 (by decide); have c3 := hcl 3 (by decide); have c4 := hcl 4 (by decide); have c5 := hcl 5 (by decide); have c6 := hcl 6 (by decide); have c7 := hcl 7 (by decide); simp only [List.getElem?_cons_succ, List.getElem?_cons_zero, Nat.add_zero] at c0 c1 c2 c3 c4 c5 c6 c7; clear hcl hs4) | (go_at_call 7; (with_reducible refine (HL _).out.mono ?_); rintro e w5 ⟨rfl, b5⟩))
    go_ret
    exact ⟨rfl, on_below (on_below (HB3.out.alloc HB3.out.size _) b4) b5⟩
end Go.Proofs.YtcigklninmddaaaDoor
