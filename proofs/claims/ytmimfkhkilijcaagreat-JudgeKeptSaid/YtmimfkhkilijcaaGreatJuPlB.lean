/- Whether events are of logs, as the statement goes through them: its contract. -/
import Derived.Test.YtmimfkhkilijcaaGreatJuPlA
import Derived.Test.YtmimfkhkilijcaaGreatRaw25
import Derived.Test.YtmimfkhkilijcaaGreatKLogR
import Derived.Test.YtmimfkhkilijcaaGreatKJuC
import Derived.Deep.DeepCutAuto
namespace Go.Proofs.YtmimfkhkilijcaaGreat
set_option maxRecDepth 4000
open Go.ChangeShapes Go.WideShapes Go.ChangeAt Go.RowKit
open PHist PRing PSat PClamp PBound PFrame PSign PTree PEv
set_option linter.unusedVariables false
set_option linter.unusedSimpArgs false

theorem RowR.some_at {w : World} {a : Option Addr} {rs : List R} (h : RowR w a rs) (i : Nat) {k t : Int} {x : List UInt8} (hr : rs[i]? = some (k, t, x)) : ∃ b off, a = some ⟨b, off, none⟩ ∧ b < w.heap.size ∧ w.cell? ⟨b, off + i * 3, none⟩ = some (.int .i64 k) ∧ w.cell? ⟨b, off + i * 3 + 1, none⟩ = some (.int .i64 t) ∧ w.cell? ⟨b, off + i * 3 + 2, none⟩ = some (.string (bstr x)) := by
  obtain ⟨hi, he⟩ := List.getElem?_eq_some_iff.1 hr
  obtain ⟨b, off, h1, h2, h3, h4, h5⟩ := h.at_ i hi
  rw [he] at h3 h4 h5
  exact ⟨b, off, h1, h2, h3, h4, h5⟩
theorem tup2 {a b c d : Bool} (h : (a, b) = (c, d)) : a = c ∧ b = d := Prod.mk.inj h
set_option maxRecDepth 100000 in
set_option maxHeartbeats 8000000 in
theorem law_plain (a : Option Addr) (N c : Nat) (l0 : List DX25) (w : World) (hr : RowG w 8 xf25 a l0) (hN : N = l0.length) (hl : N ≤ 1000) (hq : ∀ d ∈ l0, xq25 d) (b : Option Addr) (n c2 : Nat) (ls : List ByteArray) (hrs : RowS w b ls) (hn : n = ls.length) (h8 : n ≤ 1000) (hs : ∀ s ∈ ls, s.size ≤ 4000) (oa ob : Bool) (ho : plainB (lgsOf ls) (l0.map xe25) = (oa, ob)) :
    Calls Tryz.prog 28 #[.slice a N c, .slice b n c2] w fun e w' => e = .returned (.tuple #[.bool oa, .bool ob]) ∧ Below w.heap.size w w' := by
  have hmkA := run_make_row' (P := Tryz.prog) 55 3 (.int .i64 0) 8 Tryz.underlying55 (by kernel_rfl) rfl .i64 .i64 n (by omega) (by omega)
  have hmkO := run_make_row' (P := Tryz.prog) 124 4 (.bool false) 1 Tryz.underlying124 (by kernel_rfl) rfl .i64 .i64 n (by omega) (by omega)
  obtain ⟨L, hL⟩ : ∃ L, l0.map xe25 = L := ⟨_, rfl⟩
  have hLl : L.length = N := by rw [← hL, List.length_map]; exact hN.symm
  rw [hL, plainB_go] at ho
  have HZ : Hid (plGo (lgsOf ls) (-9223372036854775808) ⟨fun _ => 0, fun _ => false⟩ (L.drop 0) = (oa, ob)) := ho
  have HLL := Lib.hid hLl
  have HLX := Lib.hid hL
  have HN := Lib.hid hN
  have HM := Lib.hid hn
  have HS := Lib.hid hs
  have HQ := Lib.hid hq
  clear hN hL hLl hn ho hs hq
  go_enter Tryz.func28, Tryz.ntmps28
  go_wp2
  go_cut [6, 7] (fun A O wx => ∃ ga go, A = .slice (some ⟨ga, 0, none⟩) n n ∧ O = .slice (some ⟨go, 0, none⟩) n n ∧ PlC w.heap.size wx ga go n ⟨fun _ => 0, fun _ => false⟩ ∧ Below w.heap.size w wx)
  case first =>
    go_region
    all_goals go_wp2
    all_goals go_meet
    · exact ⟨_, _, rfl, rfl, plc_one w n 3 4, two_below w _ _⟩
    · exact ⟨_, _, rfl, rfl, plc_two w n 3 4, two_below w _ _⟩
  case rest =>
    obtain ⟨ga, go, rfl, rfl, hP0, hb0⟩ := hcut
    clear hmkA hmkO
    go_wp2
    go_loopw [8, 23] (fun mm i wr => ∃ (k : Nat) (m : Int) (P : Pl), i = .int .i64 k ∧ k ≤ N ∧ mm = .int .i64 m ∧ PlC w.heap.size wr ga go n P ∧ (∀ j, P.at_ j ≤ k) ∧ Hid (plGo (lgsOf ls) m P (L.drop k) = (oa, ob)) ∧ Below w.heap.size w wr) (fun _ i _ => N - (intOf i).toNat)
    case atStart => exact ⟨0, _, _, rfl, Nat.zero_le _, rfl, hP0, fun j => Nat.le_refl _, HZ, hb0⟩
    case round =>
      clear HZ hP0 hb0
      obtain ⟨k, m, P, rfl, hk, rfl, hPC, hPk, HZ, hb⟩ := hrel
      by_cases hlt : k < N
      · have hkl : k < l0.length := by rw [← HN.out]; exact hlt
        have hkL : k < L.length := by rw [HLL.out]; exact hlt
        have hro := hr.below hb
        obtain ⟨b1, off, rfl, -, -⟩ := hro.at_ k hkl
        have hev : L[k] = xe25 l0[k] := by simp only [← HLX.out, List.getElem_map]
        have HD := Lib.hid ((plGo_drop (lgsOf ls) m P L k hkL _ hev).symm.trans HZ.out)
        have hwB := hb.size
        obtain ⟨hbl, p0, p1, p2, p3, p4, p5, p6, p7⟩ := RowX.cells hro k hkl rfl
        have hxq := HQ.out _ (List.getElem_mem hkl)
        generalize l0[k] = d at *
        obtain ⟨kind, part, ⟨rk, rt, x, u1⟩, late, at_, er, u2⟩ := d
        obtain ⟨y, rfl⟩ : ∃ y, x = bstr y := ⟨x.data.toList, rfl⟩
        simp only at p0 p1 p2 p3 p4 p5 p6 p7
        clear HZ hev hro
        have hb8 : Below wr.heap.size wr (wr.alloc (.cells #[.int .i64 kind, .int .i64 part, .int .i64 rk, .int .i64 rt, .string (bstr y), .bool late, .int .i64 at_, .int .i64 er] 59)) := (Below.refl _ _).alloc (Nat.le_refl _) _
        have hbB := hb.trans (hb8.mono hwB)
        by_cases e1 : kind = 1
        · subst e1
          have HD2 : Hid (plGo (lgsOf ls) at_ P (L.drop (k + 1)) = (oa, ob)) := HD.out
          clear HD
          go_wp2
          go_roundw
          case rel => exact ⟨k + 1, at_, P, by go_num, hlt, rfl, hPC.on hb8, fun j => Nat.le_succ_of_le (hPk j), HD2, hbB⟩
          case measure => simp [intOf] <;> omega
        have hxe : xe25 (kind, part, (rk, rt, bstr y, u1), late, at_, er, u2) = if kind = 2 then .fault part er else .el late part rk rt y := by
          unfold xe25 evof25
          rw [if_neg e1]
        rw [hxe] at HD
        have hno : P.in_ n part = false → oa = false ∧ ob = false := by
          intro hi
          have h1 := HD.out
          rw [HM.out, ← lgsOf_len] at hi
          split at h1
          · rw [plGo_fault] at h1
            unfold Pl.mayF at h1
            rw [hi, Bool.false_and, if_neg (by simp)] at h1
            obtain ⟨h2, h3⟩ := tup2 h1
            exact ⟨h2.symm, h3.symm⟩
          · rw [plGo_el] at h1
            unfold Pl.mayE at h1
            rw [hi, Bool.false_and, if_neg (by simp)] at h1
            obtain ⟨h2, h3⟩ := tup2 h1
            exact ⟨h2.symm, h3.symm⟩
        by_cases h0 : part < 0
        · obtain ⟨rfl, rfl⟩ := hno (by rw [in_is, decide_eq_false (by omega), Bool.false_and])
          clear HD hno
          go_wp2
          go_ret2
          exact ⟨rfl, hbB⟩
        by_cases h1 : (n : Int) ≤ part
        · obtain ⟨rfl, rfl⟩ := hno (by rw [in_is, decide_eq_false (by omega), Bool.false_and])
          clear HD hno
          go_wp2
          go_ret2
          exact ⟨rfl, hbB⟩
        obtain ⟨i, rfl⟩ : ∃ i : Nat, part = (i : Int) := ⟨part.toNat, by omega⟩
        have hin : i < n := by omega
        have hC8 := hPC.on hb8
        obtain ⟨f0, f1, z0, z1⟩ := hC8.cell i hin
        have hlo := hC8.ovr.lt
        have hla := hC8.cnt.lt
        cases hov : P.over i
        · have hii : P.in_ (lgsOf ls).length (i : Int) = true := by
            rw [in_is, Int.toNat_natCast, hov, decide_eq_true (by rw [lgsOf_len, ← HM.out]; omega)]; rfl
          rw [hov] at f1
          have hil : i < ls.length := by rw [← HM.out]; exact hin
          obtain ⟨bs, os, rfl, -, -⟩ := (hrs.below hb).at_ i hil
          obtain ⟨hbb, r0⟩ := (hrs.below hb).cell i hil
          have hsz := HS.out _ (List.getElem_mem hil)
          have hlg := lgsOf_at ls i hil
          generalize ls[i] = s at *
          have HP := fun wx => Lib.hid (ref_parse s wx hsz)
          have HL1 : Hid ((lgAt (lgsOf ls) i).1 = (parse s.data.toList).1) := by show (lgAt (lgsOf ls) i).1 = _; rw [hlg]; rfl
          have HL2 : Hid (erOf (lgsOf ls) i = (parse s.data.toList).2.2) := by show erOf (lgsOf ls) i = _; unfold erOf; rw [hlg]; rfl
          clear hlg hno
          generalize parse s.data.toList = pr at *
          obtain ⟨rs, pn, pe⟩ := pr
          simp only at HL1 HL2
          obtain ⟨qa, hqa⟩ : ∃ q, P.at_ i = q := ⟨_, rfl⟩
          have hqk := hPk i
          rw [hqa] at f0 hqk
          have HQA := Lib.hid hqa
          have HA := Lib.hid (At.alloc wr [.int .i64 kind, .int .i64 (i : Int), .int .i64 rk, .int .i64 rt, .string (bstr y), .bool late, .int .i64 at_, .int .i64 er] 59)
          have HC8 := Lib.hid hC8
          have HOV := Lib.hid hov
          clear hqa hov hC8
          by_cases e2 : kind = 2
          · subst e2
            have hF : Hid ((if (erOf (lgsOf ls) i ≠ 0 ∧ er = (erOf (lgsOf ls) i : Int)) then plGo (lgsOf ls) m (P.fl (i : Int)) (L.drop (k + 1)) else (false, false)) = (oa, ob)) := by
              have h1 := HD.out
              rw [if_pos rfl, plGo_fault] at h1
              unfold Pl.mayF at h1
              rw [hii, Bool.true_and, Int.toNat_natCast] at h1
              refine Lib.hid ?_
              simpa using h1
            rw [HL2.out] at hF
            clear HD hii
            by_cases e3 : pe = 0
            · have e3' : ((pe : Int) == 0) = true := by rw [e3]; rfl
              have h2 := hF.out
              rw [if_neg (fun h => h.1 e3)] at h2
              clear e3
              obtain ⟨rfl, rfl⟩ := tup2 h2
              clear hF h2
              go_wp2_with (first | (go_at_call 21; (with_reducible refine (HP _).out.mono ?_); intro e w3 hP; obtain ⟨a3, c3, rfl, q1, q2, -⟩ := hP; have q1 : RowR w3 a3 rs := q1; have hbx : Below (wr.alloc (.cells #[.int .i64 2, .int .i64 (i : Int), .int .i64 rk, .int .i64 rt, .string (bstr y), .bool late, .int .i64 at_, .int .i64 er] 59)).heap.size (wr.alloc (.cells #[.int .i64 2, .int .i64 (i : Int), .int .i64 rk, .int .i64 rt, .string (bstr y), .bool late, .int .i64 at_, .int .i64 er] 59)) (w3.alloc (.cells #[.slice a3 rs.length c3, .int .i64 (pn : Int), .int .i64 (pe : Int)] 51)) := q2.alloc q2.size _; obtain ⟨hg8, g0, g1, g2, g3, g4, g5, g6, g7⟩ := (HA.out.on hbx).eight; have hCX := HC8.out.on hbx; obtain ⟨y0, y1, y2, y3⟩ := hCX.cell i hin; have hloX := hCX.ovr.lt; have hlaX := hCX.cnt.lt; rw [HQA.out] at y0; rw [HOV.out] at y1; have hq1 := q1.len; have hbx2 : Below wr.heap.size wr (w3.alloc (.cells #[.slice a3 rs.length c3, .int .i64 (pn : Int), .int .i64 (pe : Int)] 51)) := on_below hb8 hbx; clear hq1) | fail)
              go_ret2
              exact ⟨rfl, hb.trans (hbx2.mono hwB)⟩
            · have e3' : ((pe : Int) == 0) = false := by simp; exact e3
              by_cases e4 : er = (pe : Int)
              · have e4' : (er != (pe : Int)) = false := by rw [e4]; simp
                have h2 := hF.out
                rw [if_pos ⟨e3, e4⟩] at h2
                clear e4
                have HD2 : Hid (plGo (lgsOf ls) m (P.fl (i : Int)) (L.drop (k + 1)) = (oa, ob)) := h2
                clear hF h2
                go_wp2_with (first | (go_at_call 21; (with_reducible refine (HP _).out.mono ?_); intro e w3 hP; obtain ⟨a3, c3, rfl, q1, q2, -⟩ := hP; have q1 : RowR w3 a3 rs := q1; have hbx : Below (wr.alloc (.cells #[.int .i64 2, .int .i64 (i : Int), .int .i64 rk, .int .i64 rt, .string (bstr y), .bool late, .int .i64 at_, .int .i64 er] 59)).heap.size (wr.alloc (.cells #[.int .i64 2, .int .i64 (i : Int), .int .i64 rk, .int .i64 rt, .string (bstr y), .bool late, .int .i64 at_, .int .i64 er] 59)) (w3.alloc (.cells #[.slice a3 rs.length c3, .int .i64 (pn : Int), .int .i64 (pe : Int)] 51)) := q2.alloc q2.size _; obtain ⟨hg8, g0, g1, g2, g3, g4, g5, g6, g7⟩ := (HA.out.on hbx).eight; have hCX := HC8.out.on hbx; obtain ⟨y0, y1, y2, y3⟩ := hCX.cell i hin; have hloX := hCX.ovr.lt; have hlaX := hCX.cnt.lt; rw [HQA.out] at y0; rw [HOV.out] at y1; have hq1 := q1.len; have hbx2 : Below wr.heap.size wr (w3.alloc (.cells #[.slice a3 rs.length c3, .int .i64 (pn : Int), .int .i64 (pe : Int)] 51)) := on_below hb8 hbx; clear hq1) | fail)
                have hu : Upd (fun k => k = go) (w3.alloc (.cells #[.slice a3 rs.length c3, .int .i64 (pn : Int), .int .i64 (pe : Int)] 51)) _ := (Upd.refl (fun k => k = go) _).setCell (p := ⟨go, i, none⟩) (fun _ => rfl) (.bool true)
                go_roundw
                case rel => exact ⟨k + 1, m, _, by go_num, hlt, rfl, hCX.fl i hin, fun j => Nat.le_succ_of_le (hPk j), HD2, (hb.trans (hbx2.mono hwB)).upd hu (Nat.le_trans hwB hbx2.size) (fun j _ e => by rw [e]; exact hPC.lo)⟩
                case measure => simp [intOf] <;> omega
              · have e4' : (er != (pe : Int)) = true := by rw [bne_iff_ne]; exact e4
                have h2 := hF.out
                rw [if_neg (fun h => e4 h.2)] at h2
                obtain ⟨rfl, rfl⟩ := tup2 h2
                clear hF h2
                go_wp2_with (first | (go_at_call 21; (with_reducible refine (HP _).out.mono ?_); intro e w3 hP; obtain ⟨a3, c3, rfl, q1, q2, -⟩ := hP; have q1 : RowR w3 a3 rs := q1; have hbx : Below (wr.alloc (.cells #[.int .i64 2, .int .i64 (i : Int), .int .i64 rk, .int .i64 rt, .string (bstr y), .bool late, .int .i64 at_, .int .i64 er] 59)).heap.size (wr.alloc (.cells #[.int .i64 2, .int .i64 (i : Int), .int .i64 rk, .int .i64 rt, .string (bstr y), .bool late, .int .i64 at_, .int .i64 er] 59)) (w3.alloc (.cells #[.slice a3 rs.length c3, .int .i64 (pn : Int), .int .i64 (pe : Int)] 51)) := q2.alloc q2.size _; obtain ⟨hg8, g0, g1, g2, g3, g4, g5, g6, g7⟩ := (HA.out.on hbx).eight; have hCX := HC8.out.on hbx; obtain ⟨y0, y1, y2, y3⟩ := hCX.cell i hin; have hloX := hCX.ovr.lt; have hlaX := hCX.cnt.lt; rw [HQA.out] at y0; rw [HOV.out] at y1; have hq1 := q1.len; have hbx2 : Below wr.heap.size wr (w3.alloc (.cells #[.slice a3 rs.length c3, .int .i64 (pn : Int), .int .i64 (pe : Int)] 51)) := on_below hb8 hbx; clear hq1) | fail)
                go_ret2
                exact ⟨rfl, hb.trans (hbx2.mono hwB)⟩
          · have hF : Hid ((if rs[P.at_ i]? = some (rk, rt, y) then plGo (lgsOf ls) m (P.el (i : Int)) (L.drop (k + 1)) else (false, false)) = (oa, ob)) := by
              have h1 := HD.out
              rw [if_neg e2, plGo_el] at h1
              unfold Pl.mayE at h1
              rw [hii, Bool.true_and, Int.toNat_natCast, HL1.out] at h1
              refine Lib.hid ?_
              simpa using h1
            rw [HQA.out] at hF
            clear HD hii
            by_cases e3 : qa < rs.length
            · obtain ⟨r, hr3⟩ : ∃ r, rs[qa]? = some r := ⟨_, List.getElem?_eq_getElem e3⟩
              rw [hr3] at hF
              have hE3 := Lib.hid e3
              obtain ⟨sk, st, sx⟩ := r
              have hq0 : (0 : Int) ≤ (qa : Int) := by omega
              have hlt3 : (qa : Int) < (rs.length : Int) := by omega
              have HR3 := Lib.hid hr3
              clear hr3
              by_cases e4 : sk = rk ∧ st = rt ∧ sx = y
              · obtain rfl : rk = sk := e4.1.symm
                obtain rfl : rt = st := e4.2.1.symm
                obtain rfl : y = sx := e4.2.2.symm
                have h2 := hF.out
                rw [if_pos rfl] at h2
                have HD2 : Hid (plGo (lgsOf ls) m (P.el (i : Int)) (L.drop (k + 1)) = (oa, ob)) := h2
                clear hF h2
                go_wp2_with (first | (go_at_call 21; (with_reducible refine (HP _).out.mono ?_); intro e w3 hP; obtain ⟨a3, c3, rfl, q1, q2, -⟩ := hP; have q1 : RowR w3 a3 rs := q1; have hbx : Below (wr.alloc (.cells #[.int .i64 kind, .int .i64 (i : Int), .int .i64 rk, .int .i64 rt, .string (bstr y), .bool late, .int .i64 at_, .int .i64 er] 59)).heap.size (wr.alloc (.cells #[.int .i64 kind, .int .i64 (i : Int), .int .i64 rk, .int .i64 rt, .string (bstr y), .bool late, .int .i64 at_, .int .i64 er] 59)) (w3.alloc (.cells #[.slice a3 rs.length c3, .int .i64 (pn : Int), .int .i64 (pe : Int)] 51)) := q2.alloc q2.size _; obtain ⟨hg8, g0, g1, g2, g3, g4, g5, g6, g7⟩ := (HA.out.on hbx).eight; have hCX := HC8.out.on hbx; obtain ⟨y0, y1, y2, y3⟩ := hCX.cell i hin; have hloX := hCX.ovr.lt; have hlaX := hCX.cnt.lt; rw [HQA.out] at y0; rw [HOV.out] at y1; have hq1 := q1.len; have hbx2 : Below wr.heap.size wr (w3.alloc (.cells #[.slice a3 rs.length c3, .int .i64 (pn : Int), .int .i64 (pe : Int)] 51)) := on_below hb8 hbx; clear hq1; obtain ⟨b3, o3, rfl, hb3, s0, s1, s2⟩ := (q1.on ((Below.refl _ _).alloc (Nat.le_refl _) (.cells #[.slice a3 rs.length c3, .int .i64 (pn : Int), .int .i64 (pe : Int)] 51))).some_at qa HR3.out) | fail)
                clear f0 f1 z0 z1 p0 p1 p2 p3 p4 p5 p6 p7 g0 g5 g6 g7 y1 HP HL1 HL2 HOV HR3 hE3 hlo hla
                go_quiet (fail)
                go_wp2
                have hu : Upd (fun k => k = ga) ((w3.alloc (.cells #[.slice (some ⟨b3, o3, none⟩) rs.length c3, .int .i64 (pn : Int), .int .i64 (pe : Int)] 51)).drewN nq) _ := (Upd.refl (fun k => k = ga) _).setCell (p := ⟨ga, i, none⟩) (fun _ => rfl) (.int .i64 ((qa : Int) + 1))
                go_roundw
                case rel => exact ⟨k + 1, m, _, by go_num, hlt, rfl, (hCX.on (dN (Below.refl _ _) (Nat.le_refl _) _)).el i hin _ (by rw [HQA.out]; omega), fun j => by
                  show put P.at_ ((i : Int).toNat) (P.at_ ((i : Int).toNat) + 1) j ≤ k + 1
                  have h1 := hPk j
                  have h2 := hPk (i : Int).toNat
                  unfold PTree.put
                  split <;> omega, HD2, (dN (hb.trans (hbx2.mono hwB)) (Nat.le_trans hwB hbx2.size) _).upd hu (Nat.le_trans hwB hbx2.size) (fun j _ e => by rw [e]; exact hPC.la)⟩
                case measure => simp [intOf] <;> omega
              · have h2 := hF.out
                rw [if_neg (fun h => e4 (by simpa using h))] at h2
                obtain ⟨rfl, rfl⟩ := tup2 h2
                clear hF h2
                by_cases k1 : sk = rk
                · subst k1
                  by_cases k2 : st = rt
                  · subst k2
                    have k3 : ¬ sx = y := fun h => e4 ⟨rfl, rfl, h⟩
                    clear e4
                    go_wp2_with (first | (go_at_call 21; (with_reducible refine (HP _).out.mono ?_); intro e w3 hP; obtain ⟨a3, c3, rfl, q1, q2, -⟩ := hP; have q1 : RowR w3 a3 rs := q1; have hbx : Below (wr.alloc (.cells #[.int .i64 kind, .int .i64 (i : Int), .int .i64 sk, .int .i64 st, .string (bstr y), .bool late, .int .i64 at_, .int .i64 er] 59)).heap.size (wr.alloc (.cells #[.int .i64 kind, .int .i64 (i : Int), .int .i64 sk, .int .i64 st, .string (bstr y), .bool late, .int .i64 at_, .int .i64 er] 59)) (w3.alloc (.cells #[.slice a3 rs.length c3, .int .i64 (pn : Int), .int .i64 (pe : Int)] 51)) := q2.alloc q2.size _; obtain ⟨hg8, g0, g1, g2, g3, g4, g5, g6, g7⟩ := (HA.out.on hbx).eight; have hCX := HC8.out.on hbx; obtain ⟨y0, y1, y2, y3⟩ := hCX.cell i hin; have hloX := hCX.ovr.lt; have hlaX := hCX.cnt.lt; rw [HQA.out] at y0; rw [HOV.out] at y1; have hq1 := q1.len; have hbx2 : Below wr.heap.size wr (w3.alloc (.cells #[.slice a3 rs.length c3, .int .i64 (pn : Int), .int .i64 (pe : Int)] 51)) := on_below hb8 hbx; clear hq1; obtain ⟨b3, o3, rfl, hb3, s0, s1, s2⟩ := (q1.on ((Below.refl _ _).alloc (Nat.le_refl _) (.cells #[.slice a3 rs.length c3, .int .i64 (pn : Int), .int .i64 (pe : Int)] 51))).some_at qa HR3.out) | fail)
                    clear f0 f1 z0 z1 p0 p1 p2 p3 p4 p5 p6 p7 g0 g5 g6 g7 y1 HP HL1 HL2 HOV HR3 hE3 hlo hla
                    go_quiet (fail)
                    go_wp2
                    go_ret2
                    exact ⟨rfl, dN (hb.trans (hbx2.mono hwB)) (Nat.le_trans hwB hbx2.size) _⟩
                  · clear e4
                    go_wp2_with (first | (go_at_call 21; (with_reducible refine (HP _).out.mono ?_); intro e w3 hP; obtain ⟨a3, c3, rfl, q1, q2, -⟩ := hP; have q1 : RowR w3 a3 rs := q1; have hbx : Below (wr.alloc (.cells #[.int .i64 kind, .int .i64 (i : Int), .int .i64 sk, .int .i64 rt, .string (bstr y), .bool late, .int .i64 at_, .int .i64 er] 59)).heap.size (wr.alloc (.cells #[.int .i64 kind, .int .i64 (i : Int), .int .i64 sk, .int .i64 rt, .string (bstr y), .bool late, .int .i64 at_, .int .i64 er] 59)) (w3.alloc (.cells #[.slice a3 rs.length c3, .int .i64 (pn : Int), .int .i64 (pe : Int)] 51)) := q2.alloc q2.size _; obtain ⟨hg8, g0, g1, g2, g3, g4, g5, g6, g7⟩ := (HA.out.on hbx).eight; have hCX := HC8.out.on hbx; obtain ⟨y0, y1, y2, y3⟩ := hCX.cell i hin; have hloX := hCX.ovr.lt; have hlaX := hCX.cnt.lt; rw [HQA.out] at y0; rw [HOV.out] at y1; have hq1 := q1.len; have hbx2 : Below wr.heap.size wr (w3.alloc (.cells #[.slice a3 rs.length c3, .int .i64 (pn : Int), .int .i64 (pe : Int)] 51)) := on_below hb8 hbx; clear hq1; obtain ⟨b3, o3, rfl, hb3, s0, s1, s2⟩ := (q1.on ((Below.refl _ _).alloc (Nat.le_refl _) (.cells #[.slice a3 rs.length c3, .int .i64 (pn : Int), .int .i64 (pe : Int)] 51))).some_at qa HR3.out) | fail)
                    clear f0 f1 z0 z1 p0 p1 p2 p3 p4 p5 p6 p7 g0 g5 g6 g7 y1 HP HL1 HL2 HOV HR3 hE3 hlo hla
                    go_quiet (fail)
                    go_wp2
                    go_ret2
                    exact ⟨rfl, dN (hb.trans (hbx2.mono hwB)) (Nat.le_trans hwB hbx2.size) _⟩
                · clear e4
                  go_wp2_with (first | (go_at_call 21; (with_reducible refine (HP _).out.mono ?_); intro e w3 hP; obtain ⟨a3, c3, rfl, q1, q2, -⟩ := hP; have q1 : RowR w3 a3 rs := q1; have hbx : Below (wr.alloc (.cells #[.int .i64 kind, .int .i64 (i : Int), .int .i64 rk, .int .i64 rt, .string (bstr y), .bool late, .int .i64 at_, .int .i64 er] 59)).heap.size (wr.alloc (.cells #[.int .i64 kind, .int .i64 (i : Int), .int .i64 rk, .int .i64 rt, .string (bstr y), .bool late, .int .i64 at_, .int .i64 er] 59)) (w3.alloc (.cells #[.slice a3 rs.length c3, .int .i64 (pn : Int), .int .i64 (pe : Int)] 51)) := q2.alloc q2.size _; obtain ⟨hg8, g0, g1, g2, g3, g4, g5, g6, g7⟩ := (HA.out.on hbx).eight; have hCX := HC8.out.on hbx; obtain ⟨y0, y1, y2, y3⟩ := hCX.cell i hin; have hloX := hCX.ovr.lt; have hlaX := hCX.cnt.lt; rw [HQA.out] at y0; rw [HOV.out] at y1; have hq1 := q1.len; have hbx2 : Below wr.heap.size wr (w3.alloc (.cells #[.slice a3 rs.length c3, .int .i64 (pn : Int), .int .i64 (pe : Int)] 51)) := on_below hb8 hbx; clear hq1; obtain ⟨b3, o3, rfl, hb3, s0, s1, s2⟩ := (q1.on ((Below.refl _ _).alloc (Nat.le_refl _) (.cells #[.slice a3 rs.length c3, .int .i64 (pn : Int), .int .i64 (pe : Int)] 51))).some_at qa HR3.out) | fail)
                  clear f0 f1 z0 z1 p0 p1 p2 p3 p4 p5 p6 p7 g0 g5 g6 g7 y1 HP HL1 HL2 HOV HR3 hE3 hlo hla
                  go_quiet (fail)
                  go_wp2
                  go_ret2
                  exact ⟨rfl, dN (hb.trans (hbx2.mono hwB)) (Nat.le_trans hwB hbx2.size) _⟩
            · rw [List.getElem?_eq_none (by omega), if_neg (by simp)] at hF
              obtain ⟨rfl, rfl⟩ := tup2 hF.out
              clear hF
              go_wp2_with (first | (go_at_call 21; (with_reducible refine (HP _).out.mono ?_); intro e w3 hP; obtain ⟨a3, c3, rfl, q1, q2, -⟩ := hP; have q1 : RowR w3 a3 rs := q1; have hbx : Below (wr.alloc (.cells #[.int .i64 kind, .int .i64 (i : Int), .int .i64 rk, .int .i64 rt, .string (bstr y), .bool late, .int .i64 at_, .int .i64 er] 59)).heap.size (wr.alloc (.cells #[.int .i64 kind, .int .i64 (i : Int), .int .i64 rk, .int .i64 rt, .string (bstr y), .bool late, .int .i64 at_, .int .i64 er] 59)) (w3.alloc (.cells #[.slice a3 rs.length c3, .int .i64 (pn : Int), .int .i64 (pe : Int)] 51)) := q2.alloc q2.size _; obtain ⟨hg8, g0, g1, g2, g3, g4, g5, g6, g7⟩ := (HA.out.on hbx).eight; have hCX := HC8.out.on hbx; obtain ⟨y0, y1, y2, y3⟩ := hCX.cell i hin; have hloX := hCX.ovr.lt; have hlaX := hCX.cnt.lt; rw [HQA.out] at y0; rw [HOV.out] at y1; have hq1 := q1.len; have hbx2 : Below wr.heap.size wr (w3.alloc (.cells #[.slice a3 rs.length c3, .int .i64 (pn : Int), .int .i64 (pe : Int)] 51)) := on_below hb8 hbx; clear hq1; have hge : (rs.length : Int) ≤ (qa : Int) := by omega) | fail)
              go_region
              go_wp2
              go_ret2
              exact ⟨rfl, (hb.trans (hbx2.mono hwB)).drew⟩
        · obtain ⟨rfl, rfl⟩ := hno (by rw [in_is, Int.toNat_natCast, hov, Bool.not_true, Bool.and_false])
          rw [hov] at f1
          clear HD hno
          go_wp2
          go_ret2
          exact ⟨rfl, hbB⟩
      · obtain rfl : k = N := by omega
        have hz1 := HZ.out
        rw [List.drop_of_length_le (by rw [HLL.out]; exact Nat.le_refl _)] at hz1
        have HF : Hid ((if P.badTo (lgsOf ls) (lgsOf ls).length then (false, false) else (true, decide (m = 9223372036854775807) && P.okTo (lgsOf ls) (lgsOf ls).length)) = (oa, ob)) := hz1
        rw [lgsOf_len, ← HM.out] at HF
        clear hz1 HZ
        obtain ⟨W0, hW0⟩ : ∃ W0, decide (m = 9223372036854775807) = W0 := ⟨_, rfl⟩
        have hW1 : (m == 9223372036854775807) = W0 := by rw [← hW0]; rfl
        rw [hW0] at HF
        clear hW0
        go_wp2
        go_loopw [5, 107] (fun wv i wx => ∃ j : Nat, i = .int .i64 j ∧ j ≤ n ∧ wv = .bool (W0 && P.okTo (lgsOf ls) j) ∧ Hid (P.badTo (lgsOf ls) j = false) ∧ PlC w.heap.size wx ga go n P ∧ Below w.heap.size w wx) (fun _ i _ => n - (intOf i).toNat)
        case atStart => exact ⟨0, rfl, Nat.zero_le _, by show _ = Value.bool (W0 && true); rw [Bool.and_true], rfl, hPC, hb⟩
        case round =>
          clear hW1 hPC hb
          obtain ⟨i, rfl, hi2, rfl, HBD, hPC, hb⟩ := hrel
          obtain ⟨W, hW⟩ : ∃ W, (W0 && P.okTo (lgsOf ls) i) = W := ⟨_, rfl⟩
          rw [hW]
          have HW := Lib.hid hW
          clear hW
          by_cases hin : i < n
          · have hil : i < ls.length := by rw [← HM.out]; exact hin
            obtain ⟨bs, os, rfl, -, -⟩ := (hrs.below hb).at_ i hil
            obtain ⟨hbb, r0⟩ := (hrs.below hb).cell i hil
            have hsz := HS.out _ (List.getElem_mem hil)
            have hlg := lgsOf_at ls i hil
            generalize ls[i] = s at *
            have HP := fun wx => Lib.hid (ref_parse s wx hsz)
            have HL1 : Hid ((lgAt (lgsOf ls) i).1 = (parse s.data.toList).1) := by show (lgAt (lgsOf ls) i).1 = _; rw [hlg]; rfl
            have HL2 : Hid (erOf (lgsOf ls) i = (parse s.data.toList).2.2) := by show erOf (lgsOf ls) i = _; unfold erOf; rw [hlg]; rfl
            clear hlg
            generalize parse s.data.toList = pr at *
            obtain ⟨rs, pn, pe⟩ := pr
            simp only at HL1 HL2
            have HN1 : Hid ((W0 && P.okTo (lgsOf ls) (i + 1)) = (W && (decide (P.at_ i = rs.length) && (P.over i == decide (pe ≠ 0))))) := by
              show (W0 && (P.okTo (lgsOf ls) i && (decide (P.at_ i = (lgAt (lgsOf ls) i).1.length) && (P.over i == decide (erOf (lgsOf ls) i ≠ 0))))) = _
              rw [HL1.out, HL2.out, ← Bool.and_assoc, HW.out]
            have HN2 : Hid (P.badTo (lgsOf ls) (i + 1) = (P.over i && decide (P.at_ i < rs.length))) := by
              show (P.badTo (lgsOf ls) i || (P.over i && decide (P.at_ i < (lgAt (lgsOf ls) i).1.length))) = _
              rw [HL1.out, HBD.out, Bool.false_or]
            have HN3 : Hid (P.badTo (lgsOf ls) (i + 1) = true → oa = false ∧ ob = false) := by
              refine Lib.hid fun h => ?_
              have h1 := HF.out
              obtain ⟨x, hx, h2⟩ := (badTo_iff P (lgsOf ls) (i + 1)).1 h
              rw [(badTo_iff P (lgsOf ls) n).2 ⟨x, by omega, h2⟩, if_pos rfl] at h1
              obtain ⟨h3, h4⟩ := tup2 h1
              exact ⟨h3.symm, h4.symm⟩
            clear HL1 HL2 HW
            have hqk := hPk i
            have hwB := hb.size
            obtain ⟨qa, hqa⟩ : ∃ q, P.at_ i = q := ⟨_, rfl⟩
            rw [hqa] at HN1 HN2 hqk
            have HQA := Lib.hid hqa
            have HC2 := Lib.hid hPC
            clear hqa hPC
            cases hov : P.over i
            · rw [hov] at HN1 HN2
              have HOV := Lib.hid hov
              clear hov
              have HB2 : Hid (P.badTo (lgsOf ls) (i + 1) = false) := HN2.out
              cases W
              · have HV : Hid ((W0 && P.okTo (lgsOf ls) (i + 1)) = false) := HN1.out
                clear HN1 HN2 HN3
                go_wp2_with (first | (go_at_call 21; (with_reducible refine (HP _).out.mono ?_); intro e w3 hP; obtain ⟨a3, c3, rfl, q1, q2, -⟩ := hP; have q1 : RowR w3 a3 rs := q1; have hbx : Below wr.heap.size wr (w3.alloc (.cells #[.slice a3 rs.length c3, .int .i64 (pn : Int), .int .i64 (pe : Int)] 51)) := q2.alloc q2.size _; have hCX := HC2.out.on hbx; obtain ⟨y0, y1, -, -⟩ := hCX.cell i hin; have hloX := hCX.ovr.lt; have hlaX := hCX.cnt.lt; rw [HQA.out] at y0; rw [HOV.out] at y1; have hq1 := q1.len) | fail)
                go_quiet (fail)
                go_wp2
                go_quiet (fail)
                go_wp2
                go_roundw
                case rel => exact ⟨i + 1, by go_num, hin, by rw [HV.out], HB2, hCX.on (dN (Below.refl _ _) (Nat.le_refl _) _), dN (hb.trans (hbx.mono hwB)) (Nat.le_trans hwB hbx.size) _⟩
                case measure => simp [intOf] <;> omega
              · by_cases heq : qa = rs.length
                · have heq2 : ((qa : Int) == (rs.length : Int)) = true := by rw [heq]; simp
                  have hnl : ¬ ((qa : Int) < (rs.length : Int)) := by omega
                  by_cases hpe : pe = 0
                  · have hpe2 : ((pe : Int) != 0) = false := by rw [hpe]; rfl
                    have HV : Hid ((W0 && P.okTo (lgsOf ls) (i + 1)) = true) := by refine Lib.hid ?_; rw [HN1.out]; simp [heq, hpe]
                    clear HN1 HN2 HN3 heq hpe
                    go_wp2_with (first | (go_at_call 21; (with_reducible refine (HP _).out.mono ?_); intro e w3 hP; obtain ⟨a3, c3, rfl, q1, q2, -⟩ := hP; have q1 : RowR w3 a3 rs := q1; have hbx : Below wr.heap.size wr (w3.alloc (.cells #[.slice a3 rs.length c3, .int .i64 (pn : Int), .int .i64 (pe : Int)] 51)) := q2.alloc q2.size _; have hCX := HC2.out.on hbx; obtain ⟨y0, y1, -, -⟩ := hCX.cell i hin; have hloX := hCX.ovr.lt; have hlaX := hCX.cnt.lt; rw [HQA.out] at y0; rw [HOV.out] at y1; have hq1 := q1.len) | fail)
                    go_quiet (fail)
                    go_wp2
                    go_quiet (fail)
                    go_wp2
                    go_roundw
                    case rel => exact ⟨i + 1, by go_num, hin, by rw [HV.out], HB2, hCX.on (dN (Below.refl _ _) (Nat.le_refl _) _), dN (hb.trans (hbx.mono hwB)) (Nat.le_trans hwB hbx.size) _⟩
                    case measure => simp [intOf] <;> omega
                  · have hpe2 : ((pe : Int) != 0) = true := by simp; exact hpe
                    have HV : Hid ((W0 && P.okTo (lgsOf ls) (i + 1)) = false) := by refine Lib.hid ?_; rw [HN1.out]; simp [heq, hpe]
                    clear HN1 HN2 HN3 heq hpe
                    go_wp2_with (first | (go_at_call 21; (with_reducible refine (HP _).out.mono ?_); intro e w3 hP; obtain ⟨a3, c3, rfl, q1, q2, -⟩ := hP; have q1 : RowR w3 a3 rs := q1; have hbx : Below wr.heap.size wr (w3.alloc (.cells #[.slice a3 rs.length c3, .int .i64 (pn : Int), .int .i64 (pe : Int)] 51)) := q2.alloc q2.size _; have hCX := HC2.out.on hbx; obtain ⟨y0, y1, -, -⟩ := hCX.cell i hin; have hloX := hCX.ovr.lt; have hlaX := hCX.cnt.lt; rw [HQA.out] at y0; rw [HOV.out] at y1; have hq1 := q1.len) | fail)
                    go_quiet (fail)
                    go_wp2
                    go_quiet (fail)
                    go_wp2
                    go_roundw
                    case rel => exact ⟨i + 1, by go_num, hin, by rw [HV.out], HB2, hCX.on (dN (Below.refl _ _) (Nat.le_refl _) _), dN (hb.trans (hbx.mono hwB)) (Nat.le_trans hwB hbx.size) _⟩
                    case measure => simp [intOf] <;> omega
                · have heq2 : ((qa : Int) == (rs.length : Int)) = false := by simp; omega
                  have HV : Hid ((W0 && P.okTo (lgsOf ls) (i + 1)) = false) := by refine Lib.hid ?_; rw [HN1.out]; simp [heq]
                  clear HN1 HN2 HN3 heq
                  go_wp2_with (first | (go_at_call 21; (with_reducible refine (HP _).out.mono ?_); intro e w3 hP; obtain ⟨a3, c3, rfl, q1, q2, -⟩ := hP; have q1 : RowR w3 a3 rs := q1; have hbx : Below wr.heap.size wr (w3.alloc (.cells #[.slice a3 rs.length c3, .int .i64 (pn : Int), .int .i64 (pe : Int)] 51)) := q2.alloc q2.size _; have hCX := HC2.out.on hbx; obtain ⟨y0, y1, -, -⟩ := hCX.cell i hin; have hloX := hCX.ovr.lt; have hlaX := hCX.cnt.lt; rw [HQA.out] at y0; rw [HOV.out] at y1; have hq1 := q1.len) | fail)
                  go_quiet (fail)
                  go_wp2
                  go_quiet (fail)
                  go_wp2
                  go_roundw
                  case rel => exact ⟨i + 1, by go_num, hin, by rw [HV.out], HB2, hCX.on (dN (Below.refl _ _) (Nat.le_refl _) _), dN (hb.trans (hbx.mono hwB)) (Nat.le_trans hwB hbx.size) _⟩
                  case measure => simp [intOf] <;> omega
            · rw [hov] at HN1 HN2
              have HOV := Lib.hid hov
              clear hov
              by_cases hge : qa < rs.length
              · obtain ⟨rfl, rfl⟩ := HN3.out (by rw [HN2.out, decide_eq_true hge]; rfl)
                have hge2 : (qa : Int) < (rs.length : Int) := by omega
                clear hge
                go_wp2_with (first | (go_at_call 21; (with_reducible refine (HP _).out.mono ?_); intro e w3 hP; obtain ⟨a3, c3, rfl, q1, q2, -⟩ := hP; have q1 : RowR w3 a3 rs := q1; have hbx : Below wr.heap.size wr (w3.alloc (.cells #[.slice a3 rs.length c3, .int .i64 (pn : Int), .int .i64 (pe : Int)] 51)) := q2.alloc q2.size _; have hCX := HC2.out.on hbx; obtain ⟨y0, y1, -, -⟩ := hCX.cell i hin; have hloX := hCX.ovr.lt; have hlaX := hCX.cnt.lt; rw [HQA.out] at y0; rw [HOV.out] at y1; have hq1 := q1.len) | fail)
                go_quiet (fail)
                go_wp2
                go_ret2
                exact ⟨rfl, dN (hb.trans (hbx.mono hwB)) (Nat.le_trans hwB hbx.size) _⟩
              have HB2 : Hid (P.badTo (lgsOf ls) (i + 1) = false) := by refine Lib.hid ?_; rw [HN2.out, decide_eq_false hge]; rfl
              cases W
              · have HV : Hid ((W0 && P.okTo (lgsOf ls) (i + 1)) = false) := HN1.out
                clear HN1 HN2 HN3
                go_wp2_with (first | (go_at_call 21; (with_reducible refine (HP _).out.mono ?_); intro e w3 hP; obtain ⟨a3, c3, rfl, q1, q2, -⟩ := hP; have q1 : RowR w3 a3 rs := q1; have hbx : Below wr.heap.size wr (w3.alloc (.cells #[.slice a3 rs.length c3, .int .i64 (pn : Int), .int .i64 (pe : Int)] 51)) := q2.alloc q2.size _; have hCX := HC2.out.on hbx; obtain ⟨y0, y1, -, -⟩ := hCX.cell i hin; have hloX := hCX.ovr.lt; have hlaX := hCX.cnt.lt; rw [HQA.out] at y0; rw [HOV.out] at y1; have hq1 := q1.len) | fail)
                go_quiet (fail)
                go_wp2
                go_quiet (fail)
                go_wp2
                go_roundw
                case rel => exact ⟨i + 1, by go_num, hin, by rw [HV.out], HB2, hCX.on (dN (Below.refl _ _) (Nat.le_refl _) _), dN (hb.trans (hbx.mono hwB)) (Nat.le_trans hwB hbx.size) _⟩
                case measure => simp [intOf] <;> omega
              · by_cases heq : qa = rs.length
                · have heq2 : ((qa : Int) == (rs.length : Int)) = true := by rw [heq]; simp
                  have hnl : ¬ ((qa : Int) < (rs.length : Int)) := by omega
                  by_cases hpe : pe = 0
                  · have hpe2 : ((pe : Int) != 0) = false := by rw [hpe]; rfl
                    have HV : Hid ((W0 && P.okTo (lgsOf ls) (i + 1)) = false) := by refine Lib.hid ?_; rw [HN1.out]; simp [heq, hpe]
                    clear HN1 HN2 HN3 heq hpe
                    go_wp2_with (first | (go_at_call 21; (with_reducible refine (HP _).out.mono ?_); intro e w3 hP; obtain ⟨a3, c3, rfl, q1, q2, -⟩ := hP; have q1 : RowR w3 a3 rs := q1; have hbx : Below wr.heap.size wr (w3.alloc (.cells #[.slice a3 rs.length c3, .int .i64 (pn : Int), .int .i64 (pe : Int)] 51)) := q2.alloc q2.size _; have hCX := HC2.out.on hbx; obtain ⟨y0, y1, -, -⟩ := hCX.cell i hin; have hloX := hCX.ovr.lt; have hlaX := hCX.cnt.lt; rw [HQA.out] at y0; rw [HOV.out] at y1; have hq1 := q1.len) | fail)
                    go_quiet (fail)
                    go_wp2
                    go_quiet (fail)
                    go_wp2
                    go_roundw
                    case rel => exact ⟨i + 1, by go_num, hin, by rw [HV.out], HB2, hCX.on (dN (Below.refl _ _) (Nat.le_refl _) _), dN (hb.trans (hbx.mono hwB)) (Nat.le_trans hwB hbx.size) _⟩
                    case measure => simp [intOf] <;> omega
                  · have hpe2 : ((pe : Int) != 0) = true := by simp; exact hpe
                    have HV : Hid ((W0 && P.okTo (lgsOf ls) (i + 1)) = true) := by refine Lib.hid ?_; rw [HN1.out]; simp [heq, hpe]
                    clear HN1 HN2 HN3 heq hpe
                    go_wp2_with (first | (go_at_call 21; (with_reducible refine (HP _).out.mono ?_); intro e w3 hP; obtain ⟨a3, c3, rfl, q1, q2, -⟩ := hP; have q1 : RowR w3 a3 rs := q1; have hbx : Below wr.heap.size wr (w3.alloc (.cells #[.slice a3 rs.length c3, .int .i64 (pn : Int), .int .i64 (pe : Int)] 51)) := q2.alloc q2.size _; have hCX := HC2.out.on hbx; obtain ⟨y0, y1, -, -⟩ := hCX.cell i hin; have hloX := hCX.ovr.lt; have hlaX := hCX.cnt.lt; rw [HQA.out] at y0; rw [HOV.out] at y1; have hq1 := q1.len) | fail)
                    go_quiet (fail)
                    go_wp2
                    go_quiet (fail)
                    go_wp2
                    go_roundw
                    case rel => exact ⟨i + 1, by go_num, hin, by rw [HV.out], HB2, hCX.on (dN (Below.refl _ _) (Nat.le_refl _) _), dN (hb.trans (hbx.mono hwB)) (Nat.le_trans hwB hbx.size) _⟩
                    case measure => simp [intOf] <;> omega
                · have heq2 : ((qa : Int) == (rs.length : Int)) = false := by simp; omega
                  have hnl : ¬ ((qa : Int) < (rs.length : Int)) := by omega
                  have HV : Hid ((W0 && P.okTo (lgsOf ls) (i + 1)) = false) := by refine Lib.hid ?_; rw [HN1.out]; simp [heq]
                  clear HN1 HN2 HN3 heq
                  go_wp2_with (first | (go_at_call 21; (with_reducible refine (HP _).out.mono ?_); intro e w3 hP; obtain ⟨a3, c3, rfl, q1, q2, -⟩ := hP; have q1 : RowR w3 a3 rs := q1; have hbx : Below wr.heap.size wr (w3.alloc (.cells #[.slice a3 rs.length c3, .int .i64 (pn : Int), .int .i64 (pe : Int)] 51)) := q2.alloc q2.size _; have hCX := HC2.out.on hbx; obtain ⟨y0, y1, -, -⟩ := hCX.cell i hin; have hloX := hCX.ovr.lt; have hlaX := hCX.cnt.lt; rw [HQA.out] at y0; rw [HOV.out] at y1; have hq1 := q1.len) | fail)
                  go_quiet (fail)
                  go_wp2
                  go_quiet (fail)
                  go_wp2
                  go_roundw
                  case rel => exact ⟨i + 1, by go_num, hin, by rw [HV.out], HB2, hCX.on (dN (Below.refl _ _) (Nat.le_refl _) _), dN (hb.trans (hbx.mono hwB)) (Nat.le_trans hwB hbx.size) _⟩
                  case measure => simp [intOf] <;> omega
          · obtain rfl : i = n := by omega
            have h1 := HF.out
            rw [HBD.out, if_neg (by simp), HW.out] at h1
            obtain ⟨rfl, rfl⟩ := tup2 h1
            clear h1 HF
            go_wp2
            go_ret2
            exact ⟨rfl, hb⟩
end Go.Proofs.YtmimfkhkilijcaaGreat
