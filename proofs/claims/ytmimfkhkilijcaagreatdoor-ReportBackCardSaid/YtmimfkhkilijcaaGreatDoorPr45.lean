/- RepSame; WReportBack: what is reached of them. -/
import Derived.BigQuiet
import Derived.Test.YtmimfkhkilijcaaGreatDoorPr16
import Derived.Test.YtmimfkhkilijcaaGreatDoorPr33
import Derived.Test.YtmimfkhkilijcaaGreatDoorPr34
import Derived.Test.YtmimfkhkilijcaaGreatDoorPr43
import Derived.Test.YtmimfkhkilijcaaGreatDoorPr44
namespace Go.Proofs.YtmimfkhkilijcaaGreatDoor
set_option maxRecDepth 4000
open Go.ChangeShapes Go.WideShapes Go.ChangeAt Go.RowKit
open PWord PSign PHex PQuote
set_option linter.unusedVariables false
set_option linter.unusedSimpArgs false

theorem upon2 (w : World) (a b : Obj) : Below w.heap.size w ((w.alloc a).alloc b) := ((Below.refl _ _).alloc (Nat.le_refl _) _).alloc (by simp) _
theorem dropN {B : Nat} {a w : World} (h : Below B a w) (hB : B ≤ w.heap.size) (m : Nat) : Below B a (w.drewN m) :=
  h.trans ((((Upd.refl (fun _ => False) w).drewN m).below (Nat.le_refl _) (fun _ _ h => h.elim)).mono hB)
set_option maxRecDepth 100000 in
set_option maxHeartbeats 4000000 in
theorem law_same26 {a a' : Option Addr} {n n' c c' : Nat} {t d : Int} {b b' : Option Addr} {m m' c2 c2' : Nat} {q q' : Option Addr} {nq nq' c3 c3' : Nat} {rs : List Rul} {ls : List ByteArray} {cs : List (Bool × Int)} (w : World) (hC : CaseC w a n c t d b m c2 q nq c3 rs ls cs) (hD : CaseC w a' n' c' t d b' m' c2' q' nq' c3' rs ls cs) (hn : n ≤ 10000) (hm : m ≤ 10000) (hq : nq ≤ 10000) :
    Calls Tryz.prog 14 #[.agg #[.slice a n c, .int .i64 t, .int .i64 d, .slice b m c2, .slice q nq c3], .agg #[.slice a' n' c', .int .i64 t, .int .i64 d, .slice b' m' c2', .slice q' nq' c3']] w fun e w' => e = .returned (.bool true) ∧ Below w.heap.size w w' := by
  obtain rfl : n' = n := by rw [hC.hn, hD.hn]
  obtain rfl : m' = m := by rw [hC.hm, hD.hm]
  obtain rfl : nq' = nq := by rw [hC.hnq, hD.hnq]
  have hbx := upon2 w (.cells #[.slice a n' c, .int .i64 t, .int .i64 d, .slice b m' c2, .slice q nq' c3] 33) (.cells #[.slice a' n' c', .int .i64 t, .int .i64 d, .slice b' m' c2', .slice q' nq' c3'] 28)
  have hA1 := At.alloc w [.slice a n' c, .int .i64 t, .int .i64 d, .slice b m' c2, .slice q nq' c3] 33
  have hA2 := At.alloc (w.alloc (.cells #[.slice a n' c, .int .i64 t, .int .i64 d, .slice b m' c2, .slice q nq' c3] 33)) [.slice a' n' c', .int .i64 t, .int .i64 d, .slice b' m' c2', .slice q' nq' c3'] 28
  have hA1' := hA1.on ((Below.refl _ _).alloc (Nat.le_refl _) (.cells #[.slice a' n' c', .int .i64 t, .int .i64 d, .slice b' m' c2', .slice q' nq' c3'] 28))
  rw [World.size_alloc] at hA2
  obtain ⟨w0, hw0⟩ : ∃ w0, (w.alloc (.cells #[.slice a n' c, .int .i64 t, .int .i64 d, .slice b m' c2, .slice q nq' c3] 33)).alloc (.cells #[.slice a' n' c', .int .i64 t, .int .i64 d, .slice b' m' c2', .slice q' nq' c3'] 28) = w0 := ⟨_, rfl⟩
  rw [hw0] at hbx
  have hB1 : At w0 w.heap.size [.slice a n' c, .int .i64 t, .int .i64 d, .slice b m' c2, .slice q nq' c3] := by rw [← hw0]; exact hA1'
  have hB2 : At w0 (w.heap.size + 1) [.slice a' n' c', .int .i64 t, .int .i64 d, .slice b' m' c2', .slice q' nq' c3'] := by rw [← hw0]; exact hA2
  have hC0 := hC.on hbx
  have hD0 := hD.on hbx
  have hg1 : w.heap.size < w0.heap.size := hB1.1
  have hg2 : w.heap.size + 1 < w0.heap.size := hB2.1
  have HS := Lib.hid (ref_same19 rs t d a a' n' c c' w0 hC0.hru hD0.hru hC0.hn hn)
  obtain ⟨-, y0, -, y1, -, y2, -, y3, -, y4, -⟩ := hB1.five
  obtain ⟨-, z0, -, z1, -, z2, -, z3, -, z4, -⟩ := hB2.five
  have HA := fun wx (hx : Below w0.heap.size w0 wx) => (hB1.below hx hg1).five
  have HB := fun wx (hx : Below w0.heap.size w0 wx) => (hB2.below hx hg2).five
  clear hA1 hA2 hA1' hC hD
  go_enter Tryz.func14, Tryz.ntmps14
  go_wp2_with (first | (go_at_call 45; (with_reducible refine HS.out.mono ?_); rintro e w1 ⟨rfl, hb1⟩; obtain ⟨-, x0, -, x1, -, x2, -, x3, -, x4, -⟩ := HA w1 hb1; obtain ⟨-, ff0, -, ff1, -, ff2, -, ff3, -, ff4, -⟩ := HB w1 hb1) | fail)
  clear hw0 y0 y1 y2 y3 y4 z0 z1 z2 z3 z4
  go_loopw [34] (fun i wr => ∃ k : Nat, k ≤ m' ∧ i = .int .i64 k ∧ Below w0.heap.size w0 wr) (fun i _ => m' - (intOf i).toNat)
  case atStart => exact ⟨0, Nat.zero_le _, rfl, hb1⟩
  case round =>
    clear hb1 x0 x1 x2 x3 x4 ff0 ff1 ff2 ff3 ff4
    obtain ⟨k, hk, rfl, hb⟩ := hrel
    have hwB := hb.size
    obtain ⟨hG1, x0, -, x1, -, x2, -, x3, -, x4, -⟩ := HA wr hb
    obtain ⟨hG2, ff0, -, ff1, -, ff2, -, ff3, -, ff4, -⟩ := HB wr hb
    by_cases hlt : k < m'
    · have hk1 : k < ls.length := by rw [← hC0.hm]; exact hlt
      have hr1 := (hC0.on hb).hlo
      have hr2 := (hD0.on hb).hlo
      obtain ⟨b1, o1, e1, hl1, -⟩ := hr1.at_ k hk1
      obtain ⟨b2, o2, e2, hl2, -⟩ := hr2.at_ k hk1
      rw [e1] at hr1 x3
      rw [e2] at hr2 ff3
      obtain ⟨-, p0⟩ := hr1.cell k hk1
      obtain ⟨-, r0⟩ := hr2.cell k hk1
      generalize ls[k] = s at *
      go_wp2
      go_quiet (fail)
      go_wp2
      go_roundw
      case rel => exact ⟨k + 1, by omega, by go_num, dropN hb hwB _⟩
      case measure => simp [intOf]; omega
    · obtain rfl : k = m' := by omega
      go_wp2
      clear x0 x1 x2 x3 x4 ff0 ff1 ff2 ff3 ff4
      go_loopw [52] (fun i wx => ∃ j : Nat, j ≤ nq' ∧ i = .int .i64 j ∧ Below w0.heap.size w0 wx) (fun i _ => nq' - (intOf i).toNat)
      case atStart => exact ⟨0, Nat.zero_le _, rfl, hb⟩
      case round =>
        clear hb hwB
        obtain ⟨j, hj, rfl, hb⟩ := hrel
        have hwB := hb.size
        obtain ⟨hG1, x0, -, x1, -, x2, -, x3, -, x4, -⟩ := HA wr hb
        obtain ⟨hG2, ff0, -, ff1, -, ff2, -, ff3, -, ff4, -⟩ := HB wr hb
        by_cases hjl : j < nq'
        · have hj1 : j < cs.length := by rw [← hC0.hnq]; exact hjl
          have hr1 := (hC0.on hb).hch
          have hr2 := (hD0.on hb).hch
          obtain ⟨b1, o1, e1, hl1, -⟩ := hr1.at_ j hj1
          obtain ⟨b2, o2, e2, hl2, -⟩ := hr2.at_ j hj1
          rw [e1] at hr1 x4
          rw [e2] at hr2 ff4
          obtain ⟨-, p0, p1⟩ := RowC.cells hr1 j hj1
          obtain ⟨-, r0, r1⟩ := RowC.cells hr2 j hj1
          generalize cs[j] = x at *
          obtain ⟨ct, cn⟩ := x
          simp only at p0 p1 r0 r1
          go_wp2
          go_quiet (fail)
          go_wp2
          go_roundw
          case rel => exact ⟨j + 1, by omega, by go_num, dropN hb hwB _⟩
          case measure => simp [intOf]; omega
        · obtain rfl : j = nq' := by omega
          go_wp2
          go_ret
          exact ⟨rfl, on_below hbx hb⟩
end Go.Proofs.YtmimfkhkilijcaaGreatDoor
namespace Go.Proofs.YtmimfkhkilijcaaGreatDoor
set_option maxRecDepth 4000
open Go.ChangeShapes Go.WideShapes Go.ChangeAt Go.RowKit
open PWord PSign PHex PQuote
set_option linter.unusedVariables false
set_option linter.unusedSimpArgs false

theorem rline_small26 {r : Rul} (hf : r.Fits) {l : List UInt8} (h : rline r = some l) : l.length ≤ 66 := by
  obtain ⟨f0, f1, f2, f3, f4⟩ := hf
  unfold rline at h
  split at h
  · cases h; have := lineOf_len tBounded [r.bound] (by decide) (by simpa using f1); simp at this; unfold PWord.line0; omega
  · split at h
    · cases h; have := lineOf_len tMarked [r.sign] (by decide) (by simpa using f4); simp at this; unfold PWord.line1; omega
    · split at h
      · cases h; have := lineOf_len tPercent [r.pct, r.win] (by decide) (by simpa using ⟨f2, f3⟩); simp at this; unfold PWord.line2; omega
      · cases h
theorem slines_small {s : Scr} (hs : s.Ok) (h4 : ∀ l ∈ s.logs, l.length ≤ 400) : ∀ l ∈ slines s, l.length ≤ 4096 := by
  intro l hl
  unfold slines at hl
  rcases List.mem_append.1 hl with hl | hl
  · rcases List.mem_append.1 hl with hl | hl
    · rcases List.mem_cons.1 hl with rfl | hl
      · have := hline_len _ _ hs.fits.timeout hs.fits.drift
        omega
      · obtain ⟨r, hr, rfl⟩ := List.mem_map.1 hl
        cases h : rline r with
        | none => simp
        | some x =>
          have := rline_small26 (hs.fits.rules r hr) h
          simp only [Option.getD_some]
          omega
    · obtain ⟨x, hx, rfl⟩ := List.mem_map.1 hl
      have := logLine_len (h4 x hx)
      omega
  · obtain ⟨x, hx, rfl⟩ := List.mem_map.1 hl
    have := cline_len (t := x.1) (hs.chs x hx)
    omega
theorem lines_small {s : Scr} (hs : s.Ok) (h4 : ∀ l ∈ s.logs, l.length ≤ 400) : ∀ l ∈ lines (printS s), l.length ≤ 4096 := by
  intro l hl
  rw [lines_printS s hs.only] at hl
  rcases List.mem_append.1 hl with hl | hl
  · exact slines_small hs h4 l hl
  · rw [List.mem_singleton.1 hl]; exact Nat.zero_le _
theorem told_of {rs : List Rul} (h : toldB rs = true) : (∀ r ∈ rs, only r = true) ∧ rs.length < 100 := by
  unfold toldB at h
  rw [Bool.and_eq_true, decide_eq_true_iff, List.all_eq_true] at h
  exact h
theorem bytes_back : ∀ ls : List ByteArray, (ls.map fun s => s.data.toList).map bstr = ls
  | [] => rfl
  | s :: ls => by
    rw [List.map_cons, List.map_cons, bytes_back ls]
/-- A script that can be told. -/
structure Tld (rs : List Rul) (t d : Int) (ls : List (List UInt8)) (cs : List (Bool × Int)) : Prop where
  ok : Scr.Ok ⟨⟨rs, t, d⟩, ls, cs⟩
  ln : (printS ⟨⟨rs, t, d⟩, ls, cs⟩).length ≤ 100000
  sm : ∀ l ∈ lines (printS ⟨⟨rs, t, d⟩, ls, cs⟩), l.length ≤ 4096
theorem Tld.of {w : World} {a : Option Addr} {n c : Nat} {t d : Int} {b : Option Addr} {m c2 : Nat} {q : Option Addr} {nq c3 : Nat} {rs : List Rul} {ls : List ByteArray} {cs : List (Bool × Int)} (hC : CaseC w a n c t d b m c2 q nq c3 rs ls cs) (hS : SmallC n m nq ls) (ht : toldB rs = true) : Tld rs t d (ls.map fun s => s.data.toList) cs := by
  obtain ⟨hm8, hnq, -, h400⟩ := hS
  obtain ⟨ho, hl⟩ := told_of ht
  have hlog : ∀ l ∈ ls.map (fun s => s.data.toList), l.length ≤ 400 := fun l hl => by
    obtain ⟨s, hs, rfl⟩ := List.mem_map.1 hl
    exact h400 s hs
  have hok : Scr.Ok ⟨⟨rs, t, d⟩, ls.map fun s => s.data.toList, cs⟩ := ⟨⟨hC.hfit, hC.ht, hC.hd⟩, ho, fun l hl => Nat.le_trans (hlog l hl) (by omega), hC.hci⟩
  refine ⟨hok, ?_, lines_small hok hlog⟩
  unfold printS
  have h1 := print_len ⟨rs, t, d⟩ hok.fits
  have h2 := logsT_len _ hlog
  have h3 := chsT_len cs hC.hci
  simp only at h1
  rw [List.length_map, ← hC.hm] at h2
  rw [← hC.hnq] at h3
  simp only [List.length_append]
  omega
set_option maxRecDepth 100000 in
set_option maxHeartbeats 4000000 in
theorem walk_ReportBack (w : World) (he : EnvE w) (hnm : Names w) (c0 : Array Value) (d0 : (((List (Int × Int × Int × Int × Int × Unit)) × Int × Int × Unit) × (List ByteArray) × (List (Bool × Int × Unit)) × Unit)) (w0 : Rd w (.pair (.pair (.sl (.pair (.int .i64) (.pair (.int .i64) (.pair (.int .i64) (.pair (.int .i64) (.pair (.int .i64) .unit)))))) (.pair (.int .i64) (.pair (.int .i64) .unit))) (.pair (.sl .str) (.pair (.sl (.pair .bool (.pair (.int .i64) .unit))) .unit))) c0.toList d0) :
    Calls Tryz.prog 3 #[.agg c0] w fun e w' => e = .returned (.bool true) ∧ Below w.heap.size w w' := by
  obtain ⟨a, n, c, t, dr, b, m, c2, q, nq, c3, rs, ls, cs, rfl, hC⟩ := Rd.case w0
  clear w0
  have hbx : Below w.heap.size w (w.alloc (.cells #[.slice a n c, .int .i64 t, .int .i64 dr, .slice b m c2, .slice q nq c3] 28)) := (Below.refl _ _).alloc (Nat.le_refl _) _
  have hA0 := At.alloc w [.slice a n c, .int .i64 t, .int .i64 dr, .slice b m c2, .slice q nq c3] 28
  have hC0 := hC.on hbx
  have he0 := he.on hbx
  have hn0 := hnm.on hbx
  have hsz : w.heap.size < (w.alloc (.cells #[.slice a n c, .int .i64 t, .int .i64 dr, .slice b m c2, .slice q nq c3] 28)).heap.size := hA0.1
  clear hC he hnm
  go_enter Tryz.func3, Tryz.ntmps3
  go_wp2_with fail
  generalize w.alloc (.cells #[.slice a n c, .int .i64 t, .int .i64 dr, .slice b m c2, .slice q nq c3] 28) = w0 at *
  have HSP := Lib.hid (speaks26 w0 he0 hn0)
  have HSM := fun wx (hx : Below w0.heap.size w0 wx) => Lib.hid (law_small a n c t dr b m c2 q nq c3 ls wx (hC0.on hx).hlo hC0.hm (fun s hs => hC0.hsl s hs))
  have HA := fun wx (hx : Below w0.heap.size w0 wx) => At.five (hA0.below hx hsz)
  go_wp2_with (go_at_call 8; (with_reducible refine HSP.out.mono ?_); rintro e w1 ⟨rfl, hb1⟩; obtain ⟨-, x0, -, x1, -, x2, -, x3, -, x4, -⟩ := HA _ hb1)
  go_at_call 9
  refine (HSM _ hb1).out.mono ?_
  intro e w2 hS
  obtain ⟨z, rfl, hz, hb2'⟩ := hS
  have hb2 := on_below hb1 hb2'
  obtain ⟨-, y0, -, y1, -, y2, -, y3, -, y4, -⟩ := HA _ hb2
  clear HSP HSM x0 x1 x2 x3 x4
  rcases hz with rfl | ⟨rfl, hSm⟩
  · go_wp2
    go_ret
    exact ⟨rfl, on_below hbx hb2⟩
  have HTL := fun o (ho : toldB rs = o) => Lib.hid (law_told a n c t dr b m c2 q nq c3 rs w2 (hC0.on hb2).hru hC0.hn hSm.2.2.1 o ho)
  cases htb : toldB rs with
  | false =>
    have HT2 := HTL false htb
    clear HTL
    go_wp2_with (first | (go_at_call 10; (with_reducible refine HT2.out.mono ?_); rintro e w3 ⟨rfl, hb3⟩) | fail)
    go_ret
    exact ⟨rfl, on_below hbx (on_below hb2 hb3)⟩
  | true =>
    have HT2 := HTL true htb
    have hTL := Tld.of hC0 hSm htb
    have hn100 : n ≤ 1000 := by rw [hC0.hn]; have := (told_of htb).2; omega
    obtain ⟨U, hU⟩ := unq_ex
    have hps := parseS_print hU _ hTL.ok
    obtain ⟨T, hT⟩ : ∃ T, printS ⟨⟨rs, t, dr⟩, ls.map (fun s => s.data.toList), cs⟩ = T := ⟨_, rfl⟩
    have hln := hTL.ln
    have hsm := hTL.sm
    rw [hT] at hps hln hsm
    have HPR := fun wx (hx : Below w0.heap.size w0 wx) => Lib.hid (re_print wx (he0.on hx) (hn0.on hx) (hC0.on hx) hSm hn100 T hT)
    have HLP := fun wx (hx : Below w0.heap.size w0 wx) => Lib.hid (law_print wx (hC0.on hx) (by have := hSm.1; omega) (by have := hSm.2.1; omega) (fun s hs => Nat.le_trans (hSm.2.2.2 s hs) (by omega)) hn100 T hT)
    have HPA : ∀ wx (hx : Below w0.heap.size w0 wx), Hid (Calls Tryz.prog 12 #[.string (bstr T)] wx fun e w' => ∃ a' n' c' b' m' c2' q' nq' c3', e = .returned (.tuple #[.agg #[.slice a' n' c', .int .i64 t, .int .i64 dr, .slice b' m' c2', .slice q' nq' c3'], .int .i64 0]) ∧ CaseC w' a' n' c' t dr b' m' c2' q' nq' c3' rs ls cs ∧ Below wx.heap.size wx w') := fun wx hx =>
      (re_parse U hU T hln hsm wx (he0.on hx) (hn0.on hx) _ hps).mono fun e w' ⟨a', n', c', b', m', c2', q', nq', c3', h1, h2, h3⟩ => ⟨a', n', c', b', m', c2', q', nq', c3', h1, by simp only [bytes_back] at h2; exact h2, h3⟩
    have HSA := fun wx (hx : Below w0.heap.size w0 wx) a' n' c' b' m' c2' q' nq' c3' (hD : CaseC wx a' n' c' t dr b' m' c2' q' nq' c3' rs ls cs) => Lib.hid (law_same26 wx hD (hC0.on hx) (by rw [hD.hn, ← hC0.hn]; omega) (by rw [hD.hm, ← hC0.hm]; have := hSm.1; omega) (by rw [hD.hnq, ← hC0.hnq]; have := hSm.2.1; omega))
    clear HTL hps hT hln hsm hTL htb hU
    generalize bstr T = TX at *
    go_wp2_with (first | (go_at_call 10; (with_reducible refine HT2.out.mono ?_); rintro e w3 ⟨rfl, hb3'⟩; have hb3 := on_below hb2 hb3'; obtain ⟨-, x0, -, x1, -, x2, -, x3, -, x4, -⟩ := HA _ hb3) | (go_at_call 11; (with_reducible refine (HPR _ hb3).out.mono ?_); rintro e w4 ⟨rfl, hb4'⟩; have hb4 := on_below hb3 hb4') | (go_at_call 12; (with_reducible refine (HPA _ hb4).out.mono ?_); intro e w5 h5; obtain ⟨a', n', c', b', m', c2', q', nq', c3', rfl, hD, hb5'⟩ := h5; have hb5 := on_below hb4 hb5'; have hbA : Below w5.heap.size w5 (w5.alloc (.cells #[.slice a' n' c', .int .i64 t, .int .i64 dr, .slice b' m' c2', .slice q' nq' c3'] 33)) := (Below.refl _ _).alloc (Nat.le_refl _) _; have hbox := At.alloc w5 [.slice a' n' c', .int .i64 t, .int .i64 dr, .slice b' m' c2', .slice q' nq' c3'] 33; have hb6 := on_below hb5 hbA; obtain ⟨-, v0, -, v1, -, v2, -, v3, -, v4, -⟩ := HA _ hb6) | (go_at_call 13; (with_reducible refine (HLP _ hb6).out.mono ?_); rintro e w7 ⟨rfl, hb7'⟩; have hb7 := on_below hb6 hb7'; obtain ⟨-, s0, -, s1, -, s2, -, s3, -, s4, -⟩ := HA _ hb7; obtain ⟨-, r0, -, r1, -, r2, -, r3, -, r4, -⟩ := (hbox.on hb7').five; have HS7 := HSA _ hb7 _ _ _ _ _ _ _ _ _ ((hD.on hbA).on hb7')) | (go_at_call 14; (with_reducible refine HS7.out.mono ?_); rintro e w8 ⟨rfl, hb8⟩) | fail)
    go_ret
    exact ⟨rfl, on_below hbx (on_below hb7 hb8)⟩
end Go.Proofs.YtmimfkhkilijcaaGreatDoor
