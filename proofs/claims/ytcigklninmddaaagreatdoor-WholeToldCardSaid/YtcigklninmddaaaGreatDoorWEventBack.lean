/- The walk of the law EventBack. -/
import Derived.Test.YtcigklninmddaaaGreatDoorEvIn
namespace Go.Proofs.YtcigklninmddaaaGreatDoor
set_option maxRecDepth 4000
open Go.ChangeShapes Go.WideShapes Go.ChangeAt Go.RowKit
open PWord PQuote PSign PEv
open Go.Lib (itoa)
set_option linter.unusedVariables false
set_option linter.unusedSimpArgs false

/-- Of which partition an event is. -/
def epart : Ev → Int
  | .el _ p _ _ _ => p
  | .mark _ => -1
  | .fault p _ => p
set_option maxRecDepth 100000 in
set_option maxHeartbeats 1000000 in
theorem ev_part (v : Ev) (w : World) : Calls Tryz.prog 10 #[evv v] w fun e w' => e = .returned (.int .i64 (epart v)) ∧ Below w.heap.size w w' := by
  cases v with
  | mark m =>
    have t1 := ta_e_no1 (.agg #[.int .i64 m])
    have t2 := ta_f_no2 (.agg #[.int .i64 m])
    show Calls Tryz.prog 10 #[.iface 70 (.agg #[.int .i64 m])] w _
    go_enter Tryz.func10, Tryz.ntmps10
    go_wp2
    go_ret
    exact ⟨rfl, Below.refl _ _⟩
  | fault p m =>
    have t1 := ta_e_no2 (.agg #[.int .i64 p, .int .i64 m])
    have t2 := ta_f_yes p m
    show Calls Tryz.prog 10 #[.iface 40 (.agg #[.int .i64 p, .int .i64 m])] w _
    go_enter Tryz.func10, Tryz.ntmps10
    go_wp2
    go_ret
    exact ⟨rfl, (Below.refl _ _).alloc (Nat.le_refl _) _⟩
  | el late p k t x =>
    have t1 := ta_e_yes p k t (bstr x) late
    show Calls Tryz.prog 10 #[.iface 55 (.agg #[.int .i64 p, .int .i64 k, .int .i64 t, .string (bstr x), .bool late])] w _
    go_enter Tryz.func10, Tryz.ntmps10
    go_wp2
    go_ret
    exact ⟨rfl, (Below.refl _ _).alloc (Nat.le_refl _) _⟩

theorem row_two (w : World) (v : Ev) : RowE (w.alloc (.cells #[evv v, evv v] 29)) (some ⟨w.heap.size, 0, none⟩) [v, v] := ⟨fun i hi => by
  have h := (At.alloc w [evv v, evv v] 29)
  refine ⟨_, 0, rfl, by simp, ?_⟩
  have hi2 : i < 2 := hi
  rw [Nat.zero_add]
  have := (h.2 i hi2).1
  rw [this]
  match i, hi2 with
  | 0, _ => rfl
  | 1, _ => rfl⟩

set_option maxRecDepth 100000 in
set_option maxHeartbeats 8000000 in
theorem walk_EventBack (w : World) (he : EnvE w) (c0 : Array Value) (d0 : (Int × Int × (Int × Int × ByteArray × Unit) × Bool × Int × Int × Unit)) (w0 : Rd w (.pair (.int .i64) (.pair (.int .i64) (.pair (.pair (.int .i64) (.pair (.int .i64) (.pair .str .unit))) (.pair .bool (.pair (.int .i64) (.pair (.int .i64) .unit)))))) c0.toList d0) :
    Calls Tryz.prog 3 #[.agg c0] w fun e w' => e = .returned (.bool true) ∧ Below w.heap.size w w' := by
  obtain ⟨hcs, hok⟩ := Rd.x w0
  obtain rfl : c0 = (xf d0).toArray := by rw [← hcs]
  clear hcs w0
  obtain ⟨kind, part, ⟨rk, rt, tx, u1⟩, late, at_, er, u2⟩ := d0
  have hb1 : Below w.heap.size w (w.alloc (.cells #[.int .i64 kind, .int .i64 part, .int .i64 rk, .int .i64 rt, .string tx, .bool late, .int .i64 at_, .int .i64 er] 25)) := (Below.refl _ _).alloc (Nat.le_refl _) _
  have hA1 := At.alloc w [.int .i64 kind, .int .i64 part, .int .i64 rk, .int .i64 rt, .string tx, .bool late, .int .i64 at_, .int .i64 er] 25
  have he1 := he.on hb1
  have HSP := Lib.hid (speaks22 _ he1)
  show Calls Tryz.prog 3 #[.agg #[.int .i64 kind, .int .i64 part, .int .i64 rk, .int .i64 rt, .string tx, .bool late, .int .i64 at_, .int .i64 er]] w _
  by_cases hbig : 300 < tx.size
  · clear hok
    go_enter Tryz.func3, Tryz.ntmps3
    go_wp2_with (first | (go_at_call 5; refine HSP.out.mono ?_; rintro e w2 ⟨rfl, b2⟩; have c4 := ((hA1.on b2).2 4 (by simp)).1; simp only [List.getElem_cons_succ, List.getElem_cons_zero] at c4))
    go_ret
    exact ⟨rfl, on_below hb1 b2⟩
  have HTD : ∀ w, Hid (Calls Tryz.prog 6 #[.agg #[.int .i64 kind, .int .i64 part, .int .i64 rk, .int .i64 rt, .string tx, .bool late, .int .i64 at_, .int .i64 er]] w fun e w' => e = .returned (evr (xe (kind, part, (rk, rt, tx, u1), late, at_, er, u2))) ∧ Below w.heap.size w w') := fun w => law_tidy_x (kind, part, (rk, rt, tx, u1), late, at_, er, u2) w
  have hxt : (etext (xe (kind, part, (rk, rt, tx, u1), late, at_, er, u2))).length ≤ tx.size := by
    have h := evof_text kind part rk rt tx.data.toList late at_ er
    have e : tx.data.toList.length = tx.size := by simp
    rw [e] at h
    exact h
  have hok2 : (xe (kind, part, (rk, rt, tx, u1), late, at_, er, u2)).ok := hok
  clear hok
  generalize xe (kind, part, (rk, rt, tx, u1), late, at_, er, u2) = v at *
  have hll := eline_len v hok2
  have hlb : (eline v).length ≤ 4096 := by omega
  have HOF := fun w => Lib.hid (law_of v w)
  have HRD := fun w h => Lib.hid (ev_read_line v hok2 (by omega) w h)
  have HLN := fun w => Lib.hid (ref_line v hok2 (by omega) w)
  have HPT := fun w => Lib.hid (ev_part v w)
  have HTX := fun w h => Lib.hid (ev_text (some ⟨w.heap.size, 0, none⟩) 2 2 [v, v] _ h (row_two w v) rfl (by decide) (by
    intro y hy
    have : y = v := by simpa using hy
    subst this
    exact ⟨hok2, by omega⟩) (by
    show (eline v ++ [10] ++ (eline v ++ [10] ++ [])).length ≤ _
    simp only [List.length_append, List.length_cons, List.length_nil]
    omega))
  have het : etexts [v, v] = eline v ++ [10] ++ eline v ++ [10] := by simp [etexts]
  rw [het] at HTX
  obtain ⟨t1, ht1, hc1⟩ := tx_lets (eline v) [10] (by simp only [List.length_cons, List.length_nil]; omega)
  obtain ⟨t2, ht2, hc2⟩ := tx_lets (eline v ++ [10]) (eline v) (by simp only [List.length_append, List.length_cons, List.length_nil]; omega)
  obtain ⟨t3, ht3, hc3⟩ := tx_lets (eline v ++ [10] ++ eline v) [10] (by simp only [List.length_append, List.length_cons, List.length_nil]; omega)
  rw [ht1] at hc2
  rw [ht2] at hc3
  rw [ht3] at HTX
  have hxl : (etext v).length ≤ 4096 := by omega
  clear ht1 ht2 ht3 het hxt hll hlb
  cases v with
  | el lt p k t x =>
    have hxx : x.length ≤ 4096 := hxl
    have HML : ∀ w', EnvE w' → Hid (Calls Tryz.prog 147 #[.agg #[.int .i64 p, .int .i64 k, .int .i64 t, .string (bstr x), .bool lt]] w' fun e w2 => e = .returned (.string (bstr (eline (.el lt p k t x)))) ∧ Below w'.heap.size w' w2) := fun w' h => el_line lt p k t x hok2.1 hok2.2.1 hok2.2.2 hxx w' h
    have heq := eq_el p k t (bstr x) lt
    generalize bstr (eline (.el lt p k t x)) = S at *
    simp only [evr, evc, evv, epart] at HTD HOF HRD HLN HPT HTX
    clear hok2 hxl
    go_enter Tryz.func3, Tryz.ntmps3
    go_wp2_with (first | (go_at_call 5; (with_reducible refine HSP.out.mono ?_); rintro e w2 ⟨rfl, b2⟩; have hA2 := hA1.on b2; have hb2 := on_below hb1 b2; have c0 := (hA2.2 0 (by simp)).1; have c1 := (hA2.2 1 (by simp)).1; have c2 := (hA2.2 2 (by simp)).1; have c3 := (hA2.2 3 (by simp)).1; have c4 := (hA2.2 4 (by simp)).1; have c5 := (hA2.2 5 (by simp)).1; have c6 := (hA2.2 6 (by simp)).1; have c7 := (hA2.2 7 (by simp)).1; simp only [List.getElem_cons_succ, List.getElem_cons_zero] at c0 c1 c2 c3 c4 c5 c6 c7) | (go_at_call 6; (with_reducible refine (HTD _).out.mono ?_); rintro e w3 ⟨rfl, b3⟩; have hA3 := hA2.on b3; have hb3 := on_below hb2 b3; have q0 := (hA3.2 0 (by simp)).1; have fq0 := (hA3.2 0 (by simp)).2; have q1 := (hA3.2 1 (by simp)).1; have fq1 := (hA3.2 1 (by simp)).2; have q2 := (hA3.2 2 (by simp)).1; have fq2 := (hA3.2 2 (by simp)).2; have q3 := (hA3.2 3 (by simp)).1; have fq3 := (hA3.2 3 (by simp)).2; have q4 := (hA3.2 4 (by simp)).1; have fq4 := (hA3.2 4 (by simp)).2; have q5 := (hA3.2 5 (by simp)).1; have fq5 := (hA3.2 5 (by simp)).2; have q6 := (hA3.2 6 (by simp)).1; have fq6 := (hA3.2 6 (by simp)).2; have q7 := (hA3.2 7 (by simp)).1; have fq7 := (hA3.2 7 (by simp)).2; simp only [List.getElem_cons_succ, List.getElem_cons_zero] at q0 q1 q2 q3 q4 q5 q6 q7) | (go_at_call 7; (with_reducible refine (HOF _).out.mono ?_); rintro e w4 ⟨rfl, b4⟩; have hA4' : At _ _ [.int .i64 0, .int .i64 p, .int .i64 k, .int .i64 t, .string (bstr x), .bool lt, .int .i64 0, .int .i64 0] := ((((((((hA3.set 0 (by simp) (.int .i64 0)).set 1 (by simp) (.int .i64 p)).set 2 (by simp) (.int .i64 k)).set 3 (by simp) (.int .i64 t)).set 4 (by simp) (.string (bstr x))).set 5 (by simp) (.bool lt)).set 6 (by simp) (.int .i64 0)).set 7 (by simp) (.int .i64 0)); have hA4 := hA4'.on b4; have hb4 := on_below ((((((((hb3.setCell (p := ⟨w.heap.size, 0, none⟩) (Nat.le_refl _) (.int .i64 0)).setCell (p := ⟨w.heap.size, 1, none⟩) (Nat.le_refl _) (.int .i64 p)).setCell (p := ⟨w.heap.size, 2, none⟩) (Nat.le_refl _) (.int .i64 k)).setCell (p := ⟨w.heap.size, 3, none⟩) (Nat.le_refl _) (.int .i64 t)).setCell (p := ⟨w.heap.size, 4, none⟩) (Nat.le_refl _) (.string (bstr x))).setCell (p := ⟨w.heap.size, 5, none⟩) (Nat.le_refl _) (.bool lt)).setCell (p := ⟨w.heap.size, 6, none⟩) (Nat.le_refl _) (.int .i64 0)).setCell (p := ⟨w.heap.size, 7, none⟩) (Nat.le_refl _) (.int .i64 0)) b4; have he4 := he.on hb4) | (go_at_call 147; (with_reducible refine (HML _ he4).out.mono ?_); rintro e w5 ⟨rfl, b5⟩; have hA5 := hA4.on b5; have hb5 := on_below hb4 b5; have he5 := he.on hb5) | (go_at_call 8; (with_reducible refine (HRD _ he5).out.mono ?_); rintro e w6 ⟨rfl, b6⟩; have hA6 := hA5.on b6; have hb6 := on_below hb5 b6; have r0 := (hA6.2 0 (by simp)).1; have r1 := (hA6.2 1 (by simp)).1; have r2 := (hA6.2 2 (by simp)).1; have r3 := (hA6.2 3 (by simp)).1; have r4 := (hA6.2 4 (by simp)).1; have r5 := (hA6.2 5 (by simp)).1; have r6 := (hA6.2 6 (by simp)).1; have r7 := (hA6.2 7 (by simp)).1; simp only [List.getElem_cons_succ, List.getElem_cons_zero] at r0 r1 r2 r3 r4 r5 r6 r7) | (go_at_call 9; (with_reducible refine (HLN _).out.mono ?_); rintro e w7 ⟨rfl, b7⟩; have hb7 := on_below hb6 b7) | (go_at_call 10; (with_reducible refine (HPT _).out.mono ?_); rintro e w8 ⟨rfl, b8⟩; have hb8 := on_below hb7 b8; have hb8' := hb8.alloc hb8.size (.cells #[.iface 55 (.agg #[.int .i64 p, .int .i64 k, .int .i64 t, .string (bstr x), .bool lt]), .iface 55 (.agg #[.int .i64 p, .int .i64 k, .int .i64 t, .string (bstr x), .bool lt])] 29); have he8 := he.on hb8') | (go_at_call 11; (with_reducible refine (HTX _ he8).out.mono ?_); rintro e w9 ⟨rfl, b9⟩; have hb9 := on_below hb8' b9) | ((with_reducible refine (HML _ he4).out.mono ?_); rintro e w5 ⟨rfl, b5⟩; have hA5 := hA4.on b5; have hb5 := on_below hb4 b5; have he5 := he.on hb5))
    go_ret
    exact ⟨rfl, hb9⟩
  | mark m =>
    have HML : ∀ w', EnvE w' → Hid (Calls Tryz.prog 148 #[.agg #[.int .i64 m]] w' fun e w2 => e = .returned (.string (bstr (eline (.mark m)))) ∧ Below w'.heap.size w' w2) := fun w' h => mark_line m hok2 w' h.wd
    have heq := eq_mark m
    generalize bstr (eline (.mark m)) = S at *
    simp only [evr, evc, evv, epart] at HTD HOF HRD HLN HPT HTX
    clear hok2 hxl
    go_enter Tryz.func3, Tryz.ntmps3
    go_wp2_with (first | (go_at_call 5; (with_reducible refine HSP.out.mono ?_); rintro e w2 ⟨rfl, b2⟩; have hA2 := hA1.on b2; have hb2 := on_below hb1 b2; have c0 := (hA2.2 0 (by simp)).1; have c1 := (hA2.2 1 (by simp)).1; have c2 := (hA2.2 2 (by simp)).1; have c3 := (hA2.2 3 (by simp)).1; have c4 := (hA2.2 4 (by simp)).1; have c5 := (hA2.2 5 (by simp)).1; have c6 := (hA2.2 6 (by simp)).1; have c7 := (hA2.2 7 (by simp)).1; simp only [List.getElem_cons_succ, List.getElem_cons_zero] at c0 c1 c2 c3 c4 c5 c6 c7) | (go_at_call 6; (with_reducible refine (HTD _).out.mono ?_); rintro e w3 ⟨rfl, b3⟩; have hA3 := hA2.on b3; have hb3 := on_below hb2 b3; have q0 := (hA3.2 0 (by simp)).1; have fq0 := (hA3.2 0 (by simp)).2; have q1 := (hA3.2 1 (by simp)).1; have fq1 := (hA3.2 1 (by simp)).2; have q2 := (hA3.2 2 (by simp)).1; have fq2 := (hA3.2 2 (by simp)).2; have q3 := (hA3.2 3 (by simp)).1; have fq3 := (hA3.2 3 (by simp)).2; have q4 := (hA3.2 4 (by simp)).1; have fq4 := (hA3.2 4 (by simp)).2; have q5 := (hA3.2 5 (by simp)).1; have fq5 := (hA3.2 5 (by simp)).2; have q6 := (hA3.2 6 (by simp)).1; have fq6 := (hA3.2 6 (by simp)).2; have q7 := (hA3.2 7 (by simp)).1; have fq7 := (hA3.2 7 (by simp)).2; simp only [List.getElem_cons_succ, List.getElem_cons_zero] at q0 q1 q2 q3 q4 q5 q6 q7) | (go_at_call 7; (with_reducible refine (HOF _).out.mono ?_); rintro e w4 ⟨rfl, b4⟩; have hA4' : At _ _ [.int .i64 1, .int .i64 0, .int .i64 0, .int .i64 0, .string ⟨#[]⟩, .bool false, .int .i64 m, .int .i64 0] := ((((((((hA3.set 0 (by simp) (.int .i64 1)).set 1 (by simp) (.int .i64 0)).set 2 (by simp) (.int .i64 0)).set 3 (by simp) (.int .i64 0)).set 4 (by simp) (.string ⟨#[]⟩)).set 5 (by simp) (.bool false)).set 6 (by simp) (.int .i64 m)).set 7 (by simp) (.int .i64 0)); have hA4 := hA4'.on b4; have hb4 := on_below ((((((((hb3.setCell (p := ⟨w.heap.size, 0, none⟩) (Nat.le_refl _) (.int .i64 1)).setCell (p := ⟨w.heap.size, 1, none⟩) (Nat.le_refl _) (.int .i64 0)).setCell (p := ⟨w.heap.size, 2, none⟩) (Nat.le_refl _) (.int .i64 0)).setCell (p := ⟨w.heap.size, 3, none⟩) (Nat.le_refl _) (.int .i64 0)).setCell (p := ⟨w.heap.size, 4, none⟩) (Nat.le_refl _) (.string ⟨#[]⟩)).setCell (p := ⟨w.heap.size, 5, none⟩) (Nat.le_refl _) (.bool false)).setCell (p := ⟨w.heap.size, 6, none⟩) (Nat.le_refl _) (.int .i64 m)).setCell (p := ⟨w.heap.size, 7, none⟩) (Nat.le_refl _) (.int .i64 0)) b4; have he4 := he.on hb4) | (go_at_call 148; (with_reducible refine (HML _ he4).out.mono ?_); rintro e w5 ⟨rfl, b5⟩; have hA5 := hA4.on b5; have hb5 := on_below hb4 b5; have he5 := he.on hb5) | (go_at_call 8; (with_reducible refine (HRD _ he5).out.mono ?_); rintro e w6 ⟨rfl, b6⟩; have hA6 := hA5.on b6; have hb6 := on_below hb5 b6; have r0 := (hA6.2 0 (by simp)).1; have r1 := (hA6.2 1 (by simp)).1; have r2 := (hA6.2 2 (by simp)).1; have r3 := (hA6.2 3 (by simp)).1; have r4 := (hA6.2 4 (by simp)).1; have r5 := (hA6.2 5 (by simp)).1; have r6 := (hA6.2 6 (by simp)).1; have r7 := (hA6.2 7 (by simp)).1; simp only [List.getElem_cons_succ, List.getElem_cons_zero] at r0 r1 r2 r3 r4 r5 r6 r7) | (go_at_call 9; (with_reducible refine (HLN _).out.mono ?_); rintro e w7 ⟨rfl, b7⟩; have hb7 := on_below hb6 b7) | (go_at_call 10; (with_reducible refine (HPT _).out.mono ?_); rintro e w8 ⟨rfl, b8⟩; have hb8 := on_below hb7 b8; have hb8' := hb8.alloc hb8.size (.cells #[.iface 70 (.agg #[.int .i64 m]), .iface 70 (.agg #[.int .i64 m])] 29); have he8 := he.on hb8') | (go_at_call 11; (with_reducible refine (HTX _ he8).out.mono ?_); rintro e w9 ⟨rfl, b9⟩; have hb9 := on_below hb8' b9) | ((with_reducible refine (HML _ he4).out.mono ?_); rintro e w5 ⟨rfl, b5⟩; have hA5 := hA4.on b5; have hb5 := on_below hb4 b5; have he5 := he.on hb5))
    go_ret
    exact ⟨rfl, hb9⟩
  | fault p m =>
    have HML : ∀ w', EnvE w' → Hid (Calls Tryz.prog 140 #[.agg #[.int .i64 p, .int .i64 m]] w' fun e w2 => e = .returned (.string (bstr (eline (.fault p m)))) ∧ Below w'.heap.size w' w2) := fun w' h => fault_line p m hok2.1 hok2.2 w' h.wd
    have heq := eq_fault p m
    generalize bstr (eline (.fault p m)) = S at *
    simp only [evr, evc, evv, epart] at HTD HOF HRD HLN HPT HTX
    clear hok2 hxl
    go_enter Tryz.func3, Tryz.ntmps3
    go_wp2_with (first | (go_at_call 5; (with_reducible refine HSP.out.mono ?_); rintro e w2 ⟨rfl, b2⟩; have hA2 := hA1.on b2; have hb2 := on_below hb1 b2; have c0 := (hA2.2 0 (by simp)).1; have c1 := (hA2.2 1 (by simp)).1; have c2 := (hA2.2 2 (by simp)).1; have c3 := (hA2.2 3 (by simp)).1; have c4 := (hA2.2 4 (by simp)).1; have c5 := (hA2.2 5 (by simp)).1; have c6 := (hA2.2 6 (by simp)).1; have c7 := (hA2.2 7 (by simp)).1; simp only [List.getElem_cons_succ, List.getElem_cons_zero] at c0 c1 c2 c3 c4 c5 c6 c7) | (go_at_call 6; (with_reducible refine (HTD _).out.mono ?_); rintro e w3 ⟨rfl, b3⟩; have hA3 := hA2.on b3; have hb3 := on_below hb2 b3; have q0 := (hA3.2 0 (by simp)).1; have fq0 := (hA3.2 0 (by simp)).2; have q1 := (hA3.2 1 (by simp)).1; have fq1 := (hA3.2 1 (by simp)).2; have q2 := (hA3.2 2 (by simp)).1; have fq2 := (hA3.2 2 (by simp)).2; have q3 := (hA3.2 3 (by simp)).1; have fq3 := (hA3.2 3 (by simp)).2; have q4 := (hA3.2 4 (by simp)).1; have fq4 := (hA3.2 4 (by simp)).2; have q5 := (hA3.2 5 (by simp)).1; have fq5 := (hA3.2 5 (by simp)).2; have q6 := (hA3.2 6 (by simp)).1; have fq6 := (hA3.2 6 (by simp)).2; have q7 := (hA3.2 7 (by simp)).1; have fq7 := (hA3.2 7 (by simp)).2; simp only [List.getElem_cons_succ, List.getElem_cons_zero] at q0 q1 q2 q3 q4 q5 q6 q7) | (go_at_call 7; (with_reducible refine (HOF _).out.mono ?_); rintro e w4 ⟨rfl, b4⟩; have hA4' : At _ _ [.int .i64 2, .int .i64 p, .int .i64 0, .int .i64 0, .string ⟨#[]⟩, .bool false, .int .i64 0, .int .i64 m] := ((((((((hA3.set 0 (by simp) (.int .i64 2)).set 1 (by simp) (.int .i64 p)).set 2 (by simp) (.int .i64 0)).set 3 (by simp) (.int .i64 0)).set 4 (by simp) (.string ⟨#[]⟩)).set 5 (by simp) (.bool false)).set 6 (by simp) (.int .i64 0)).set 7 (by simp) (.int .i64 m)); have hA4 := hA4'.on b4; have hb4 := on_below ((((((((hb3.setCell (p := ⟨w.heap.size, 0, none⟩) (Nat.le_refl _) (.int .i64 2)).setCell (p := ⟨w.heap.size, 1, none⟩) (Nat.le_refl _) (.int .i64 p)).setCell (p := ⟨w.heap.size, 2, none⟩) (Nat.le_refl _) (.int .i64 0)).setCell (p := ⟨w.heap.size, 3, none⟩) (Nat.le_refl _) (.int .i64 0)).setCell (p := ⟨w.heap.size, 4, none⟩) (Nat.le_refl _) (.string ⟨#[]⟩)).setCell (p := ⟨w.heap.size, 5, none⟩) (Nat.le_refl _) (.bool false)).setCell (p := ⟨w.heap.size, 6, none⟩) (Nat.le_refl _) (.int .i64 0)).setCell (p := ⟨w.heap.size, 7, none⟩) (Nat.le_refl _) (.int .i64 m)) b4; have he4 := he.on hb4) | (go_at_call 140; (with_reducible refine (HML _ he4).out.mono ?_); rintro e w5 ⟨rfl, b5⟩; have hA5 := hA4.on b5; have hb5 := on_below hb4 b5; have he5 := he.on hb5) | (go_at_call 8; (with_reducible refine (HRD _ he5).out.mono ?_); rintro e w6 ⟨rfl, b6⟩; have hA6 := hA5.on b6; have hb6 := on_below hb5 b6; have r0 := (hA6.2 0 (by simp)).1; have r1 := (hA6.2 1 (by simp)).1; have r2 := (hA6.2 2 (by simp)).1; have r3 := (hA6.2 3 (by simp)).1; have r4 := (hA6.2 4 (by simp)).1; have r5 := (hA6.2 5 (by simp)).1; have r6 := (hA6.2 6 (by simp)).1; have r7 := (hA6.2 7 (by simp)).1; simp only [List.getElem_cons_succ, List.getElem_cons_zero] at r0 r1 r2 r3 r4 r5 r6 r7) | (go_at_call 9; (with_reducible refine (HLN _).out.mono ?_); rintro e w7 ⟨rfl, b7⟩; have hb7 := on_below hb6 b7) | (go_at_call 10; (with_reducible refine (HPT _).out.mono ?_); rintro e w8 ⟨rfl, b8⟩; have hb8 := on_below hb7 b8; have hb8' := hb8.alloc hb8.size (.cells #[.iface 40 (.agg #[.int .i64 p, .int .i64 m]), .iface 40 (.agg #[.int .i64 p, .int .i64 m])] 29); have he8 := he.on hb8') | (go_at_call 11; (with_reducible refine (HTX _ he8).out.mono ?_); rintro e w9 ⟨rfl, b9⟩; have hb9 := on_below hb8' b9) | ((with_reducible refine (HML _ he4).out.mono ?_); rintro e w5 ⟨rfl, b5⟩; have hA5 := hA4.on b5; have hb5 := on_below hb4 b5; have he5 := he.on hb5))
    go_ret
    exact ⟨rfl, hb9⟩
end Go.Proofs.YtcigklninmddaaaGreatDoor
