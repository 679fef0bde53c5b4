/- Whether logs are orderly, as the statement asks it: its contract. -/
import Derived.Test.YtmimfkhkilijcaaGreatJuPlB
import Derived.Test.YtmimfkhkilijcaaGreatKJuD
import Derived.Test.YtmimfkhkilijcaaGreatKSat
import Derived.Test.YtmimfkhkilijcaaGreatKSrcA
import Derived.BigQuiet
namespace Go.Proofs.YtmimfkhkilijcaaGreat
set_option maxRecDepth 4000
open Go.ChangeShapes Go.WideShapes Go.ChangeAt Go.RowKit
open PHist PRing PSat PClamp PBound PFrame PSign PTree PEv
set_option linter.unusedVariables false
set_option linter.unusedSimpArgs false

theorem parse_times {l : List UInt8} : ∀ r ∈ (parse l).1, in64 r.2.1 := fun r hr => by
  have := ((parse_spec _ l (Nat.le_refl _)).1 r hr).2
  unfold in64; exact this
/-- Each against the first k of all: at record j. -/
def atPair (b least : Int) (l : List R) (j : Nat) : Prop := ∀ k (hk : k < l.length), k < j → least ≤ l[k].2.1 ∧ ∀ i (hi : i < k), sub (l[i]'(by omega)).2.1 b ≤ l[k].2.1
theorem atPair_all {b least : Int} {l : List R} (h : atPair b least l l.length) : pairsB b least l := fun k hk => h k hk hk
set_option maxRecDepth 100000 in
set_option maxHeartbeats 8000000 in
theorem law_orderly (rs : List Rul) (t d : Int) (a : Option Addr) (n c : Nat) (ls : List ByteArray) (b : Option Addr) (m c2 : Nat) (q : Option Addr) (nq c3 : Nat) (w : World) (hr : RowU w a rs) (hn : n = rs.length) (hnl : n ≤ 1000) (hf : ∀ r ∈ rs, r.Fits) (hrs : RowS w b ls) (hm : m = ls.length) (hml : m ≤ 1000) (hs : ∀ s ∈ ls, s.size ≤ 4000) (o : Bool) (ho : orderlyB rs (lgsOf ls) = o) :
    Calls Tryz.prog 30 #[.agg #[.slice a n c, .int .i64 t, .int .i64 d, .slice b m c2, .slice q nq c3]] w fun e w' => e = .returned (.bool o) ∧ Below w.heap.size w w' := by
  have hb0 : Below w.heap.size w (w.alloc (.cells #[.slice a n c, .int .i64 t, .int .i64 d, .slice b m c2, .slice q nq c3] 28)) := (Below.refl _ _).alloc (Nat.le_refl _) _
  have hA := At.alloc w [.slice a n c, .int .i64 t, .int .i64 d, .slice b m c2, .slice q nq c3] 28
  unfold orderlyB at ho
  rw [lgsOf_len, ← hn, ← hm] at ho
  have HN := Lib.hid hn
  have HM := Lib.hid hm
  have HF := Lib.hid hf
  have HS := Lib.hid hs
  have HR := Lib.hid (hr.below hb0)
  have HRS := Lib.hid (hrs.below hb0)
  have HA := Lib.hid hA
  obtain ⟨hg, c0, -, c1, -, c2', -, c3', -, c4, -⟩ := hA.five
  clear hn hm hf hs hr hrs hA
  by_cases h1 : m = n
  · subst h1
    rw [decide_eq_true rfl, Bool.true_and] at ho
    have HZ : Hid (ordFrom ((rs.zip (lgsOf ls)).drop 0) = o) := ho
    clear ho
    go_enter Tryz.func30, Tryz.ntmps30
    go_wp2
    generalize hw0 : w.alloc (.cells #[.slice a m c, .int .i64 t, .int .i64 d, .slice b m c2, .slice q nq c3] 28) = w0 at *
    have HB0 := Lib.hid hb0
    clear hw0 hb0 c0 c1 c2' c3' c4
    go_loopw [22] (fun i wr => ∃ k : Nat, i = .int .i64 k ∧ k ≤ m ∧ Hid (ordFrom ((rs.zip (lgsOf ls)).drop k) = o) ∧ Below w0.heap.size w0 wr) (fun i _ => m - (intOf i).toNat)
    case atStart => exact ⟨0, rfl, Nat.zero_le _, HZ, Below.refl _ _⟩
    case round =>
      clear HZ
      obtain ⟨k, rfl, hk, HZ, hb⟩ := hrel
      have hwB := hb.size
      by_cases hlt : k < m
      · have hk1 : k < rs.length := by rw [← HN.out]; exact hlt
        have hk2 : k < ls.length := by rw [← HM.out]; exact hlt
        have hrow := HR.out.below hb
        obtain ⟨b1, o1, rfl, -, -⟩ := hrow.at_ k hk1
        obtain ⟨hbl1, p0, p1, p2, p3, p4⟩ := RowU.cells hrow k hk1
        have hrow2 := HRS.out.below hb
        obtain ⟨b2, o2, rfl, -, -⟩ := hrow2.at_ k hk2
        obtain ⟨hbl2, q0⟩ := hrow2.cell k hk2
        have hd := ordFrom_drop (rs.zip (lgsOf ls)) k (by rw [List.length_zip, lgsOf_len]; omega)
        have hlg : (lgsOf ls)[k]'(by rw [lgsOf_len]; exact hk2) = lgOf ls[k].data.toList := by unfold lgsOf; rw [List.getElem_map, List.getElem_map]
        rw [List.getElem_zip, hlg] at hd
        have hft := HF.out _ (List.getElem_mem hk1)
        have hsz := HS.out _ (List.getElem_mem hk2)
        have HD := Lib.hid (hd.symm.trans HZ.out)
        clear hd hlg HZ hrow hrow2
        obtain ⟨hgc, c0, -, c1, -, c2', -, c3', -, c4, -⟩ := (HA.out.below hb hg).five
        generalize rs[k] = r at *
        generalize ls[k] = s at *
        obtain ⟨rk, rb, rp, rn, rsg⟩ := r
        simp only at p0 p1 p2 p3 p4
        have hfb : in64 rb := hft.bound
        have hA2 := At.alloc wr [.int .i64 rk, .int .i64 rb, .int .i64 rp, .int .i64 rn, .int .i64 rsg] 76
        have hba := (Below.refl wr.heap.size wr).alloc (Nat.le_refl _) (.cells #[.int .i64 rk, .int .i64 rb, .int .i64 rp, .int .i64 rn, .int .i64 rsg] 76)
        have hbB := hb.trans (hba.mono hwB)
        obtain ⟨hgA, f0, -, f1, -, f2, -, f3, -, f4, -⟩ := hA2.five
        clear hft
        by_cases e1 : rk = 0
        · by_cases e2 : rb < 0
          · obtain rfl : o = false := by
              rw [← HD.out]
              unfold ordOne
              rw [decide_eq_false (fun h => by have h9 : (0 : Int) ≤ rb := h.2; omega)]; rfl
            subst e1
            clear HD
            go_wp2
            go_ret
            exact ⟨rfl, on_below HB0.out hbB⟩
          · have hone : ordOne ⟨rk, rb, rp, rn, rsg⟩ (lgOf s.data.toList).1 = keepsB rb (parse s.data.toList).1 := by
              unfold ordOne
              rw [decide_eq_true ⟨e1, (show (0 : Int) ≤ rb by omega)⟩, Bool.true_and]; rfl
            rw [hone] at HD
            subst e1
            have hlb : -9223372036854775808 + rb = add (-9223372036854775808) rb := by
              unfold in64 at hfb
              unfold add clampI
              (repeat' split) <;> omega
            have hwrap : IntKind.i64.wrap (-9223372036854775808 + rb) = add (-9223372036854775808) rb := by
              rw [← hlb, IntKind.wrap_i64]
              unfold in64 at hfb
              omega
            have hain : in64 (add (-9223372036854775808) rb) := PSat.add_in _ _
            have HAD := fun wx => Lib.hid (ref_add (add (-9223372036854775808) rb) 1 wx hain (by omega))
            have hlin : in64 (add (add (-9223372036854775808) rb) 1) := PSat.add_in _ _
            have hkp := keeps_pairs (b := rb) (l := (parse s.data.toList).1) (fun r hr => (parse_times r hr).1) (by omega)
            have HIN := Lib.hid (fun r (hr : r ∈ (parse s.data.toList).1) => parse_times r hr)
            have HP := fun wx => Lib.hid (ref_parse2 s wx hsz)
            clear hone
            generalize parse s.data.toList = pr at *
            obtain ⟨qs, pn, pe⟩ := pr
            simp only at hkp HIN HD
            generalize hle : add (add (-9223372036854775808) rb) 1 = lst at *
            have HKF : Hid (¬ pairsB rb lst qs → o = false) := fun h => by
              rw [← HD.out]
              cases hx : keepsB rb qs
              · rfl
              · exact absurd (hkp.1 hx) h
            have HKT : Hid (pairsB rb lst qs → ordFrom ((rs.zip (lgsOf ls)).drop (k + 1)) = o) := fun h => by
              rw [← HD.out, hkp.2 h]; rfl
            clear hkp HD hle hlb
            generalize add (-9223372036854775808) rb = lb at *
            go_wp2_with (first | (go_at_call 21; (with_reducible refine (HP _).out.mono ?_); intro e w3 hP; obtain ⟨a3, c3x, rfl, q1, q2, -, qc, qm⟩ := hP; have q1 : RowR w3 a3 qs := q1; have qc : qs.length ≤ c3x := qc) | fail)
            rename_i hKK
            refine hKK _ _ ?_
            clear hKK
            go_simp
            have hb3 := on_below hbB q2
            have hA3 := hA2.on q2
            have hgw := hA3.1
            have hw3 := hb3.size
            have hqm : c3x ≤ 9223372036854775807 := Nat.le_trans qm (by unfold maxLen; omega)
            obtain ⟨M, hM⟩ : ∃ M, qs.length = M := ⟨_, rfl⟩
            have HM2 := Lib.hid hM
            have hML : M ≤ 9223372036854775807 := by omega
            have hMc : M ≤ c3x := by omega
            rw [hM]
            have HA3 := Lib.hid hA3
            clear p0 p1 p2 p3 p4 q0 f0 f1 f2 f3 f4 c0 c1 c2' c3' c4 hA2 hM hA3 hba HP
            obtain ⟨wq, hwq⟩ : ∃ wq, wq = wr := ⟨_, rfl⟩
            subst hwq
            go_wp2
            go_loopw [44] (fun i wx => ∃ j : Nat, i = .int .i64 j ∧ j ≤ M ∧ Hid (atPair rb lst qs j) ∧ Below w3.heap.size w3 wx) (fun i _ => M - (intOf i).toNat)
            case atStart => exact ⟨0, rfl, Nat.zero_le _, fun k _ h => (Nat.not_lt_zero _ h).elim, Below.refl _ _⟩
            case round =>
              obtain ⟨j, rfl, hj, HPR, hbj⟩ := hrel
              have hwj := hbj.size
              obtain ⟨-, g0, -, g1, -, g2, -, g3, -, g4, -⟩ := (HA3.out.below hbj hgw).five
              by_cases hjl : j < M
              · have hj1 : j < qs.length := by rw [HM2.out]; exact hjl
                obtain ⟨b5, o5, rfl, hbl5, r0, r1, r2⟩ := (q1.on hbj).at_ j hj1
                have hti : in64 qs[j].2.1 := HIN.out _ (List.getElem_mem hj1)
                have HFL : Hid (qs[j].2.1 < lst → o = false) := fun h => HKF.out (fun hp => by have := (hp j hj1).1; omega)
                have HFS : Hid (∀ i (hi : i < j), qs[j].2.1 < sub (qs[i]'(by omega)).2.1 rb → o = false) := fun i hi h => HKF.out (fun hp => by have := (hp j hj1).2 i hi; omega)
                have HNX : Hid (lst ≤ qs[j].2.1 → (∀ i (hi : i < j), sub (qs[i]'(by omega)).2.1 rb ≤ qs[j].2.1) → atPair rb lst qs (j + 1)) := fun h1 h2 k hk hkj => by
                  by_cases e : k = j
                  · subst e; exact ⟨h1, h2⟩
                  · exact HPR.out k hk (by omega)
                generalize hx : qs[j] = x at *
                obtain ⟨xk, xt, xx⟩ := x
                simp only at r0 r1 r2 hti HFL HFS HNX
                have HX := Lib.hid hx
                clear hx HPR
                have hba5 := (Below.refl wr.heap.size wr).alloc (Nat.le_refl _) (.cells #[.int .i64 xk, .int .i64 xt, .string (bstr xx)] 57)
                obtain ⟨hg5, d0, -, d1, -, d2, -⟩ := (At.alloc wr [.int .i64 xk, .int .i64 xt, .string (bstr xx)] 57).three
                have s1 := cell_kept hba5 g1
                have hb5 := hbj.trans (hba5.mono hwj)
                by_cases hl : xt < lst
                · obtain rfl : o = false := HFL.out hl
                  clear HFL HFS HNX HKF HKT HIN
                  go_wp2
                  go_quiet ((go_at_call 58; (with_reducible refine (HAD _).out.mono ?_); rintro e wy ⟨rfl, rfl⟩; exact ⟨rfl, _, rfl⟩))
                  go_wp2
                  go_ret
                  exact ⟨rfl, on_below HB0.out (on_below hb3 (dN hb5 (Nat.le_trans hwj hba5.size) _))⟩
                · have hl2 : lst ≤ xt := by omega
                  have HNX2 := Lib.hid (HNX.out hl2)
                  obtain ⟨W5, hW5⟩ : ∃ W5, wr.alloc (.cells #[.int .i64 xk, .int .i64 xt, .string (bstr xx)] 57) = W5 := ⟨_, rfl⟩
                  rw [hW5] at hba5 hg5 d0 d1 d2 s1 hb5
                  have HD1 := Lib.hid d1
                  have HS1 := Lib.hid s1
                  have hw5 := hb5.size
                  have hw5' := hba5.size
                  have hru := fun w' => part_to (P := Tryz.prog) (a := some ⟨b5, o5, none⟩) (n := M) (c := c3x) (m := 3) (t := 49) (e := 57) qm Tryz.underlying49 (by intro w; kernel_rfl) j j rfl (by omega) w'
                  clear HFL HNX hl d0 d2 g0 g1 g2 g3 g4
                  go_wp2
                  clear hW5 r0 r1 r2
                  go_quiet ((go_at_call 58; (with_reducible refine (HAD _).out.mono ?_); rintro e wy ⟨rfl, rfl⟩; exact ⟨rfl, _, rfl⟩))
                  go_wp2
                  obtain ⟨wj, hwj9⟩ : ∃ wj, wj = wr := ⟨_, rfl⟩
                  subst hwj9
                  clear d1 s1
                  go_loopw [60] (fun i wx => ∃ f : Nat, i = .int .i64 f ∧ f ≤ j ∧ Hid (∀ i (hi : i < j), i < f → sub (qs[i]'(by omega)).2.1 rb ≤ xt) ∧ Below W5.heap.size W5 wx) (fun i _ => j - (intOf i).toNat)
                  case atStart => exact ⟨0, rfl, Nat.zero_le _, fun i _ h => (Nat.not_lt_zero _ h).elim, dN (Below.refl _ _) (Nat.le_refl _) _⟩
                  case round =>
                    obtain ⟨f, rfl, hf, HPP, hbf⟩ := hrel
                    have hwf := hbf.size
                    have d1 := cell_kept hbf HD1.out
                    have s1 := cell_kept hbf HS1.out
                    by_cases hfl : f < j
                    · have hf1 : f < qs.length := by rw [HM2.out]; omega
                      obtain ⟨b6, o6, hb6, hbl6, r0, r1, r2⟩ := ((q1.on hb5).on hbf).at_ f hf1
                      cases hb6
                      have hty : in64 qs[f].2.1 := HIN.out _ (List.getElem_mem hf1)
                      have HFY : Hid (xt < sub qs[f].2.1 rb → o = false) := fun h => HFS.out f hfl h
                      have HPN : Hid (sub qs[f].2.1 rb ≤ xt → ∀ i (hi : i < j), i < f + 1 → sub (qs[i]'(by omega)).2.1 rb ≤ xt) := fun h i hi hif => by
                        by_cases e : i = f
                        · subst e; exact h
                        · exact HPP.out i hi (by omega)
                      have HSB := fun wx => Lib.hid (ref_sub qs[f].2.1 rb wx hty hfb)
                      generalize qs[f] = y at *
                      obtain ⟨yk, yt, yx⟩ := y
                      simp only at r0 r1 r2 HSB HFY HPN
                      have hba7 := (Below.refl wr.heap.size wr).alloc (Nat.le_refl _) (.cells #[.int .i64 yk, .int .i64 yt, .string (bstr yx)] 57)
                      obtain ⟨hg7, e0, -, e1, -, e2, -⟩ := (At.alloc wr [.int .i64 yk, .int .i64 yt, .string (bstr yx)] 57).three
                      have d1' := cell_kept hba7 d1
                      have s1' := cell_kept hba7 s1
                      have hb7 := hbf.trans (hba7.mono hwf)
                      generalize sub yt rb = sb at *
                      by_cases hls : xt < sb
                      · obtain rfl : o = false := HFY.out hls
                        clear HFY HPN HFS HKF HKT HIN HPP
                        go_wp2
                        go_quiet ((go_at_call 59; (with_reducible refine (HSB _).out.mono ?_); rintro e wy ⟨rfl, rfl⟩; exact ⟨rfl, _, rfl⟩))
                        go_wp2
                        go_ret
                        exact ⟨rfl, on_below HB0.out (on_below hb3 (on_below hb5 (dN hb7 (Nat.le_trans hwf hba7.size) _)))⟩
                      · have HPN2 := Lib.hid (HPN.out (by omega))
                        clear HFY HPN HPP
                        go_wp2
                        go_quiet ((go_at_call 59; (with_reducible refine (HSB _).out.mono ?_); rintro e wy ⟨rfl, rfl⟩; exact ⟨rfl, _, rfl⟩))
                        go_wp2
                        go_roundw
                        case rel => exact ⟨f + 1, by go_num, hfl, HPN2, dN hb7 (Nat.le_trans hwf hba7.size) _⟩
                        case measure => simp [intOf] <;> omega
                    · obtain rfl : f = j := by omega
                      have HN3 := Lib.hid (HNX2.out (fun i hi => HPP.out i hi hi))
                      go_wp2
                      go_roundw
                      case rel => exact ⟨f + 1, by go_num, hjl, HN3, on_below hb5 hbf⟩
                      case measure => simp [intOf] <;> omega
              · obtain rfl : j = M := by omega
                have HT := Lib.hid (HKT.out (atPair_all (by rw [HM2.out]; exact HPR.out)))
                go_wp2
                go_roundw
                case rel => exact ⟨k + 1, by go_num, hlt, HT, on_below hb3 hbj⟩
                case measure => simp [intOf] <;> omega
        · obtain rfl : o = false := by
            rw [← HD.out]
            unfold ordOne
            rw [decide_eq_false (fun h => e1 h.1)]; rfl
          clear HD
          go_wp2
          go_ret
          exact ⟨rfl, on_below HB0.out hbB⟩
      · obtain rfl : k = m := by omega
        have h2 := HZ.out
        rw [List.drop_eq_nil_of_le (by rw [List.length_zip, lgsOf_len, ← HN.out, ← HM.out]; omega)] at h2
        obtain rfl : o = true := h2.symm
        go_wp2
        go_ret
        exact ⟨rfl, on_below HB0.out hb⟩
  · obtain rfl : o = false := by rw [← ho, decide_eq_false h1, Bool.false_and]
    have hne : ((m : Int) != (n : Int)) = true := by simp; omega
    go_enter Tryz.func30, Tryz.ntmps30
    go_wp2
    go_ret
    exact ⟨rfl, hb0⟩
end Go.Proofs.YtmimfkhkilijcaaGreat
