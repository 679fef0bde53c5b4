/- The document's own lines; events as plain data. -/
import Derived.Test.YtcigklninmddaaaGreatDoorEv3
import Derived.Test.YtcigklninmddaaaGreatDoorQRef3
import Derived.Test.YtcigklninmddaaaGreatDoorKWord
import Derived.Deep.RegionHeld3
import Derived.Deep.DeepCutAuto
namespace Go.Proofs.YtcigklninmddaaaGreatDoor
set_option maxRecDepth 4000
open Go.ChangeShapes Go.WideShapes Go.ChangeAt Go.RowKit
open PWord PQuote PSign PEv
open Go.Lib (itoa)
set_option linter.unusedVariables false
set_option linter.unusedSimpArgs false

/-- An event as plain data: its cells. -/
def evc : Ev → List Value
  | .el late p k t x => [.int .i64 0, .int .i64 p, .int .i64 k, .int .i64 t, .string (bstr x), .bool late, .int .i64 0, .int .i64 0]
  | .mark n => [.int .i64 1, .int .i64 0, .int .i64 0, .int .i64 0, .string ⟨#[]⟩, .bool false, .int .i64 n, .int .i64 0]
  | .fault p e => [.int .i64 2, .int .i64 p, .int .i64 0, .int .i64 0, .string ⟨#[]⟩, .bool false, .int .i64 0, .int .i64 e]
def evr (v : Ev) : Value := .agg (evc v).toArray

theorem tx_lets (a b : List UInt8) (h : a.length + b.length ≤ 9223372036854775807) : ∃ t, bstr (a ++ b) = t ∧ ∀ w, (Op.stringOp .add (bstr a) (bstr b)).run Tryz.prog w = .ok (.string t) w := ⟨_, rfl, fun w => tx_run w a b h⟩
theorem cell_kept {w w' : World} (hb : Below w.heap.size w w') {p : Addr} {v : Value} (h : w.cell? p = some v) : w'.cell? p = some v := cell_stays hb h

theorem eline_el (late : Bool) (p k t : Int) (x : List UInt8) : eline (.el late p k t x) = elName late ++ [32] ++ itoa p ++ [32] ++ itoa k ++ [32] ++ itoa t ++ [32] ++ quote x := by simp [eline, lineOf, glue]
theorem eline_mark (n : Int) : eline (.mark n) = [109, 97, 114, 107, 32] ++ itoa n := by simp [eline, lineOf, glue]
theorem eline_fault (p e : Int) : eline (.fault p e) = [102, 97, 117, 108, 116, 32] ++ itoa p ++ [32] ++ itoa e := by simp [eline, lineOf, glue]

set_option maxRecDepth 100000 in
set_option maxHeartbeats 4000000 in
theorem ref_line (v : Ev) (hv : v.ok) (hx : (etext v).length ≤ 4096) (w : World) :
    Calls Tryz.prog 9 #[evr v] w fun e w' => e = .returned (.string (bstr (eline v))) ∧ Below w.heap.size w w' := by
  cases v with
  | mark n =>
    rw [eline_mark]
    have hn : in64 n := hv
    have hl := itoa_len hn
    obtain ⟨t1, ht1, hc1⟩ := tx_lets [109, 97, 114, 107, 32] (itoa n) (by simp only [List.length_cons, List.length_nil]; omega)
    have HN := Lib.hid (fun w => ref_num n hn w)
    have hb0 : Below w.heap.size w (w.alloc (.cells (evc (.mark n)).toArray 25)) := (Below.refl _ _).alloc (Nat.le_refl _) _
    rw [ht1]
    clear ht1 hv hx hl hn
    generalize bstr (itoa n) = B at *
    show Calls Tryz.prog 9 #[.agg #[.int .i64 1, .int .i64 0, .int .i64 0, .int .i64 0, .string ⟨#[]⟩, .bool false, .int .i64 n, .int .i64 0]] w _
    go_enter Tryz.func9, Tryz.ntmps9
    go_wp2_with (go_at_call 27; refine (HN.out _).mono ?_; rintro e w2 ⟨rfl, hb2⟩)
    go_ret
    exact ⟨rfl, on_below hb0 hb2⟩
  | fault p n =>
    rw [eline_fault]
    obtain ⟨hp, hn⟩ := hv
    have hl1 := itoa_len hp
    have hl2 := itoa_len hn
    obtain ⟨t1, ht1, hc1⟩ := tx_lets [102, 97, 117, 108, 116, 32] (itoa p) (by simp only [List.length_cons, List.length_nil]; omega)
    obtain ⟨t2, ht2, hc2⟩ := tx_lets ([102, 97, 117, 108, 116, 32] ++ itoa p) [32] (by simp only [List.length_append, List.length_cons, List.length_nil]; omega)
    obtain ⟨t3, ht3, hc3⟩ := tx_lets ([102, 97, 117, 108, 116, 32] ++ itoa p ++ [32]) (itoa n) (by simp only [List.length_append, List.length_cons, List.length_nil]; omega)
    have HP := Lib.hid (fun w => ref_num p hp w)
    have HN := Lib.hid (fun w => ref_num n hn w)
    have hA := At.alloc w (evc (.fault p n)) 25
    have hb0 : Below w.heap.size w (w.alloc (.cells (evc (.fault p n)).toArray 25)) := (Below.refl _ _).alloc (Nat.le_refl _) _
    rw [ht1] at hc2
    rw [ht2] at hc3
    rw [ht3]
    clear ht1 ht2 ht3 hx hl1 hl2 hp hn
    generalize bstr (itoa p) = A at *
    generalize bstr (itoa n) = B at *
    show Calls Tryz.prog 9 #[.agg #[.int .i64 2, .int .i64 p, .int .i64 0, .int .i64 0, .string ⟨#[]⟩, .bool false, .int .i64 0, .int .i64 n]] w _
    have hlt := hA.1
    have c1 := (hA.2 1 (by simp [evc])).1
    have c7 := (hA.2 7 (by simp [evc])).1
    have c0 := (hA.2 0 (by simp [evc])).1
    simp only [evc, List.getElem_cons_succ, List.getElem_cons_zero] at c0 c1 c7 hlt hb0
    clear hA
    go_enter Tryz.func9, Tryz.ntmps9
    go_wp2
    generalize w.alloc (.cells [.int .i64 2, .int .i64 p, .int .i64 0, .int .i64 0, .string ⟨#[]⟩, .bool false, .int .i64 0, .int .i64 n].toArray 25) = w1 at *
    generalize hNN : w.heap.size = N at *
    have HNN := Lib.hid hNN
    clear hNN
    go_cut [2] (fun v wx => v = .string t3 ∧ Below w1.heap.size w1 wx)
    case first =>
      go_region_held3 (fun wx => wx.cell? ⟨N, 1, none⟩ = some (.int .i64 p) ∧ wx.cell? ⟨N, 7, none⟩ = some (.int .i64 n)) (first | exact ⟨c1, c7⟩ | exact ⟨d1, d7⟩ | exact ⟨e1, e7⟩ | fail) (first | (go_at_call 27; first | ((with_reducible refine (HP.out _).mono ?_); rintro e wp ⟨rfl, hbp⟩; have d1 := cell_kept (w := w1.drew) hbp c1; have d7 := cell_kept (w := w1.drew) hbp c7) | ((with_reducible refine (HN.out _).mono ?_); rintro e wq ⟨rfl, hbq⟩; have e1 := cell_kept hbq d1; have e7 := cell_kept hbq d7)))
      all_goals (go_wp2_with fail; go_meet; exact ⟨rfl, on_below (on_below (Below.refl w1.heap.size w1).drew hbp) hbq⟩)
    case rest =>
      obtain ⟨rfl, hb2⟩ := hcut
      go_wp2
      go_ret
      exact ⟨rfl, by rw [HNN.out]; exact hb0.trans (hb2.mono (by have := hb0.size; have := HNN.out; omega))⟩
  | el late p k t x =>
    rw [eline_el]
    obtain ⟨hp, hk, ht⟩ := hv
    have hx : x.length ≤ 4096 := hx
    have hl1 := itoa_len hp
    have hl2 := itoa_len hk
    have hl3 := itoa_len ht
    have hl4 := quote_big x
    have HP := Lib.hid (fun w => ref_num p hp w)
    have HK := Lib.hid (fun w => ref_num k hk w)
    have HT := Lib.hid (fun w => ref_num t ht w)
    have HQ := Lib.hid (fun w => ref_quote (bstr x) w (by rw [bstr_len]; exact hx))
    rw [show (bstr x).data.toList = x from rfl] at HQ
    have hA := At.alloc w (evc (.el late p k t x)) 25
    have hb0 : Below w.heap.size w (w.alloc (.cells (evc (.el late p k t x)).toArray 25)) := (Below.refl _ _).alloc (Nat.le_refl _) _
    show Calls Tryz.prog 9 #[.agg #[.int .i64 0, .int .i64 p, .int .i64 k, .int .i64 t, .string (bstr x), .bool late, .int .i64 0, .int .i64 0]] w _
    have hlt := hA.1
    have c0 := (hA.2 0 (by simp [evc])).1
    have c1 := (hA.2 1 (by simp [evc])).1
    have c2 := (hA.2 2 (by simp [evc])).1
    have c3 := (hA.2 3 (by simp [evc])).1
    have c4 := (hA.2 4 (by simp [evc])).1
    have c5 := (hA.2 5 (by simp [evc])).1
    simp only [evc, List.getElem_cons_succ, List.getElem_cons_zero] at c0 c1 c2 c3 c4 c5 hlt hb0
    clear hA
    cases late with
    | false =>
      rw [show elName false ++ [32] = ([101, 108, 101, 109, 101, 110, 116, 32] : List UInt8) from rfl]
      obtain ⟨t1, ht1, hc1⟩ := tx_lets (([101, 108, 101, 109, 101, 110, 116, 32] : List UInt8)) (itoa p) (by simp only [List.length_append, List.length_cons, List.length_nil]; omega)
      obtain ⟨t2, ht2, hc2⟩ := tx_lets (([101, 108, 101, 109, 101, 110, 116, 32] : List UInt8) ++ itoa p) ([32]) (by simp only [List.length_append, List.length_cons, List.length_nil]; omega)
      obtain ⟨t3, ht3, hc3⟩ := tx_lets (([101, 108, 101, 109, 101, 110, 116, 32] : List UInt8) ++ itoa p ++ [32]) (itoa k) (by simp only [List.length_append, List.length_cons, List.length_nil]; omega)
      obtain ⟨t4, ht4, hc4⟩ := tx_lets (([101, 108, 101, 109, 101, 110, 116, 32] : List UInt8) ++ itoa p ++ [32] ++ itoa k) ([32]) (by simp only [List.length_append, List.length_cons, List.length_nil]; omega)
      obtain ⟨t5, ht5, hc5⟩ := tx_lets (([101, 108, 101, 109, 101, 110, 116, 32] : List UInt8) ++ itoa p ++ [32] ++ itoa k ++ [32]) (itoa t) (by simp only [List.length_append, List.length_cons, List.length_nil]; omega)
      obtain ⟨t6, ht6, hc6⟩ := tx_lets (([101, 108, 101, 109, 101, 110, 116, 32] : List UInt8) ++ itoa p ++ [32] ++ itoa k ++ [32] ++ itoa t) ([32]) (by simp only [List.length_append, List.length_cons, List.length_nil]; omega)
      obtain ⟨t7, ht7, hc7⟩ := tx_lets (([101, 108, 101, 109, 101, 110, 116, 32] : List UInt8) ++ itoa p ++ [32] ++ itoa k ++ [32] ++ itoa t ++ [32]) (quote x) (by simp only [List.length_append, List.length_cons, List.length_nil]; omega)
      rw [ht1] at hc2
      rw [ht2] at hc3
      rw [ht3] at hc4
      rw [ht4] at hc5
      rw [ht5] at hc6
      rw [ht6] at hc7
      rw [ht7]
      clear ht1 ht2 ht3 ht4 ht5 ht6 ht7 hl1 hl2 hl3 hl4 hp hk ht hx
      generalize bstr (itoa p) = A at *
      generalize bstr (itoa k) = B at *
      generalize bstr (itoa t) = C at *
      generalize bstr (quote x) = Q at *
      go_enter Tryz.func9, Tryz.ntmps9
      go_wp2
      generalize w.alloc (.cells [.int .i64 0, .int .i64 p, .int .i64 k, .int .i64 t, .string (bstr x), .bool false, .int .i64 0, .int .i64 0].toArray 25) = w1 at *
      generalize hNN : w.heap.size = N at *
      have HNN := Lib.hid hNN
      clear hNN
      go_cut [2] (fun v wx => v = .string t7 ∧ Below w1.heap.size w1 wx)
      case first =>
        go_region_held3 (fun wx => wx.cell? ⟨N, 1, none⟩ = some (.int .i64 p) ∧ wx.cell? ⟨N, 2, none⟩ = some (.int .i64 k) ∧ wx.cell? ⟨N, 3, none⟩ = some (.int .i64 t) ∧ wx.cell? ⟨N, 4, none⟩ = some (.string (bstr x))) (first | exact ⟨c1, c2, c3, c4⟩ | exact ⟨d1, d2, d3, d4⟩ | exact ⟨e1, e2, e3, e4⟩ | exact ⟨f1, f2, f3, f4⟩ | exact ⟨g1, g2, g3, g4⟩ | fail) (first | (go_at_call 27; first | ((with_reducible refine (HP.out _).mono ?_); rintro e wp ⟨rfl, hbp⟩; have d1 := cell_kept (w := w1.drew) hbp c1; have d2 := cell_kept (w := w1.drew) hbp c2; have d3 := cell_kept (w := w1.drew) hbp c3; have d4 := cell_kept (w := w1.drew) hbp c4) | ((with_reducible refine (HK.out _).mono ?_); rintro e wk ⟨rfl, hbk⟩; have e1 := cell_kept hbk d1; have e2 := cell_kept hbk d2; have e3 := cell_kept hbk d3; have e4 := cell_kept hbk d4) | ((with_reducible refine (HT.out _).mono ?_); rintro e wt ⟨rfl, hbt⟩; have f1 := cell_kept hbt e1; have f2 := cell_kept hbt e2; have f3 := cell_kept hbt e3; have f4 := cell_kept hbt e4)) | (go_at_call 28; (with_reducible refine (HQ.out _).mono ?_); rintro e wz ⟨rfl, hbz⟩; have g1 := cell_kept hbz f1; have g2 := cell_kept hbz f2; have g3 := cell_kept hbz f3; have g4 := cell_kept hbz f4))
        all_goals (go_wp2_with fail; go_meet; exact ⟨rfl, on_below (on_below (on_below (on_below (Below.refl w1.heap.size w1).drew hbp) hbk) hbt) hbz⟩)
      case rest =>
        obtain ⟨rfl, hb2⟩ := hcut
        go_wp2
        go_ret
        exact ⟨rfl, by rw [HNN.out]; exact hb0.trans (hb2.mono (by have := hb0.size; have := HNN.out; omega))⟩
    | true =>
      rw [show elName true ++ [32] = ([108, 97, 116, 101, 32] : List UInt8) from rfl]
      obtain ⟨t1, ht1, hc1⟩ := tx_lets (([108, 97, 116, 101, 32] : List UInt8)) (itoa p) (by simp only [List.length_append, List.length_cons, List.length_nil]; omega)
      obtain ⟨t2, ht2, hc2⟩ := tx_lets (([108, 97, 116, 101, 32] : List UInt8) ++ itoa p) ([32]) (by simp only [List.length_append, List.length_cons, List.length_nil]; omega)
      obtain ⟨t3, ht3, hc3⟩ := tx_lets (([108, 97, 116, 101, 32] : List UInt8) ++ itoa p ++ [32]) (itoa k) (by simp only [List.length_append, List.length_cons, List.length_nil]; omega)
      obtain ⟨t4, ht4, hc4⟩ := tx_lets (([108, 97, 116, 101, 32] : List UInt8) ++ itoa p ++ [32] ++ itoa k) ([32]) (by simp only [List.length_append, List.length_cons, List.length_nil]; omega)
      obtain ⟨t5, ht5, hc5⟩ := tx_lets (([108, 97, 116, 101, 32] : List UInt8) ++ itoa p ++ [32] ++ itoa k ++ [32]) (itoa t) (by simp only [List.length_append, List.length_cons, List.length_nil]; omega)
      obtain ⟨t6, ht6, hc6⟩ := tx_lets (([108, 97, 116, 101, 32] : List UInt8) ++ itoa p ++ [32] ++ itoa k ++ [32] ++ itoa t) ([32]) (by simp only [List.length_append, List.length_cons, List.length_nil]; omega)
      obtain ⟨t7, ht7, hc7⟩ := tx_lets (([108, 97, 116, 101, 32] : List UInt8) ++ itoa p ++ [32] ++ itoa k ++ [32] ++ itoa t ++ [32]) (quote x) (by simp only [List.length_append, List.length_cons, List.length_nil]; omega)
      rw [ht1] at hc2
      rw [ht2] at hc3
      rw [ht3] at hc4
      rw [ht4] at hc5
      rw [ht5] at hc6
      rw [ht6] at hc7
      rw [ht7]
      clear ht1 ht2 ht3 ht4 ht5 ht6 ht7 hl1 hl2 hl3 hl4 hp hk ht hx
      generalize bstr (itoa p) = A at *
      generalize bstr (itoa k) = B at *
      generalize bstr (itoa t) = C at *
      generalize bstr (quote x) = Q at *
      go_enter Tryz.func9, Tryz.ntmps9
      go_wp2
      generalize w.alloc (.cells [.int .i64 0, .int .i64 p, .int .i64 k, .int .i64 t, .string (bstr x), .bool true, .int .i64 0, .int .i64 0].toArray 25) = w1 at *
      generalize hNN : w.heap.size = N at *
      have HNN := Lib.hid hNN
      clear hNN
      go_cut [2] (fun v wx => v = .string t7 ∧ Below w1.heap.size w1 wx)
      case first =>
        go_region_held3 (fun wx => wx.cell? ⟨N, 1, none⟩ = some (.int .i64 p) ∧ wx.cell? ⟨N, 2, none⟩ = some (.int .i64 k) ∧ wx.cell? ⟨N, 3, none⟩ = some (.int .i64 t) ∧ wx.cell? ⟨N, 4, none⟩ = some (.string (bstr x))) (first | exact ⟨c1, c2, c3, c4⟩ | exact ⟨d1, d2, d3, d4⟩ | exact ⟨e1, e2, e3, e4⟩ | exact ⟨f1, f2, f3, f4⟩ | exact ⟨g1, g2, g3, g4⟩ | fail) (first | (go_at_call 27; first | ((with_reducible refine (HP.out _).mono ?_); rintro e wp ⟨rfl, hbp⟩; have d1 := cell_kept (w := w1.drew) hbp c1; have d2 := cell_kept (w := w1.drew) hbp c2; have d3 := cell_kept (w := w1.drew) hbp c3; have d4 := cell_kept (w := w1.drew) hbp c4) | ((with_reducible refine (HK.out _).mono ?_); rintro e wk ⟨rfl, hbk⟩; have e1 := cell_kept hbk d1; have e2 := cell_kept hbk d2; have e3 := cell_kept hbk d3; have e4 := cell_kept hbk d4) | ((with_reducible refine (HT.out _).mono ?_); rintro e wt ⟨rfl, hbt⟩; have f1 := cell_kept hbt e1; have f2 := cell_kept hbt e2; have f3 := cell_kept hbt e3; have f4 := cell_kept hbt e4)) | (go_at_call 28; (with_reducible refine (HQ.out _).mono ?_); rintro e wz ⟨rfl, hbz⟩; have g1 := cell_kept hbz f1; have g2 := cell_kept hbz f2; have g3 := cell_kept hbz f3; have g4 := cell_kept hbz f4))
        all_goals (go_wp2_with fail; go_meet; exact ⟨rfl, on_below (on_below (on_below (on_below (Below.refl w1.heap.size w1).drew hbp) hbk) hbt) hbz⟩)
      case rest =>
        obtain ⟨rfl, hb2⟩ := hcut
        go_wp2
        go_ret
        exact ⟨rfl, by rw [HNN.out]; exact hb0.trans (hb2.mono (by have := hb0.size; have := HNN.out; omega))⟩
end Go.Proofs.YtcigklninmddaaaGreatDoor
