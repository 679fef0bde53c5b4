/- The walk of the law WholeLogs. -/
import Derived.Test.YtfgmbmpbgokolaaWLogBuilds
namespace Go.Proofs.Ytfgmbmpbgokolaa
open Go.ChangeShapes Go.WideShapes Go.ChangeAt Go.RowKit
open PVar PCrc PFrame
set_option linter.unusedVariables false
set_option linter.unusedSimpArgs false

theorem enc_0 : (enc 1 0 []).length = 7 := by
  rw [enc_len, body_len]
  have h : digs (fold 0) = [0] := by rw [show fold 0 = 0 from rfl, digs_low (by omega)]; rfl
  rw [h]
  have h2 : digs (1 + [(0 : UInt8)].length + ([] : List UInt8).length) = [2] := by rw [digs_low (by decide)]; rfl
  rw [h2]
  rfl
theorem err_0 : err 1 0 [] = 0 := by
  refine err_zero (.inl rfl) ?_
  have := enc_0
  rw [enc_len] at this
  omega
theorem enc_call (w : World) : Calls Try.prog 10 #[.agg #[.int .i64 1, .int .i64 0, .string ⟨#[]⟩]] w fun e w' => e = .returned (.tuple #[.string (bstr (enc 1 0 [])), .int .i64 0]) ∧ Below w.heap.size w w' := by
  have h := fr_encode 1 0 ⟨#[]⟩ w (by omega) (by decide)
  have e1 : encS 1 0 [] = enc 1 0 [] := by unfold encS; rw [if_pos err_0]
  simp only [e1, err_0] at h
  exact h

/-- A row of records, as what an append takes. -/
theorem src_row {P : Program} {tx e' : TypeId} (hk : P.underlying tx = some (.slice e')) (w : World) (a : Option Addr) (n c : Nat) (rs : List R) (h : RowR w a rs) (hn : rs.length = n) : Src P 3 tx (.slice a n c) n (rv rs) w := by
  subst hn
  cases a with
  | none =>
    have h0 : rs = [] := by
      cases rs with
      | nil => rfl
      | cons r rs => obtain ⟨b, off, h1, _⟩ := h.at_ 0 (by simp); cases h1
    subst h0
    exact Src.ofNil w hk c
  | some ad =>
    refine Src.ofSlice w hk ad rs.length c (rv rs) (rv_len rs) (fun j u hu => ?_) (fun u hu => ?_)
    · have hj := (List.getElem?_eq_some_iff.1 hu).1
      rw [rv_len] at hj
      have hi : j / 3 < rs.length := by omega
      obtain ⟨b, off, h1, _, c0, c1, c2⟩ := h.at_ (j / 3) hi
      obtain ⟨r0, r1, r2⟩ := rv_at rs (j / 3) hi
      cases h1
      rw [Addr.add_lit]
      rcases (by omega : j = j / 3 * 3 ∨ j = j / 3 * 3 + 1 ∨ j = j / 3 * 3 + 2) with e | e | e
      · rw [e] at hu ⊢; rw [c0, ← r0, hu]
      · rw [e] at hu ⊢; rw [← Nat.add_assoc, c1, ← r1, hu]
      · rw [e] at hu ⊢; rw [← Nat.add_assoc, c2, ← r2, hu]
    · have : ∀ (rs : List R), ∀ u ∈ rv rs, u.oneCell' = true := by
        intro rs
        induction rs with
        | nil => intro u hu; cases hu
        | cons r rs ih =>
          intro u hu
          rcases List.mem_append.1 (show u ∈ rcells r ++ rv rs from hu) with h | h
          · simp [rcells] at h
            rcases h with rfl | rfl | rfl <;> rfl
          · exact ih u h
      exact this rs u hu

/-- An append that is guarded, its guard being met. -/
theorem wpList_append_sl_g {P : Program} (w : World) {ops : Array Oper} {rest : List Oper} {o : Oper} {a : Act} {Q : Exit → Act → World → Prop} (hgd : Region.wanted o (yielded ops a.tmps) = true) (s x : Operand) (t tx : TypeId)
    (ho : o.op = .call { callee := .builtin .append, args := #[s, x], argTypes := #[t, tx] })
    {B : Nat} {size : Nat} (e : TypeId) (i : TypeInfo) (z : Value) (bytes : Nat) (ht : P.underlying t = some (.slice e)) (hi : P.info? e = some i) (hz : i.zero = some z) (hsize : i.size = size) (hby : i.bytes = bytes) (hzs : z.cells.size = size)
    {v : Value} {n : Nat} {xs : List Value} (hv : a.eval s = v) (h : Sl B w size v n xs) (xv : Value) (m : Nat) (news : List Value) (hx : a.eval x = xv) (hs : Src P size tx xv m news w)
    (h63 : n + m ≤ maxLen) (hbytes : (n + m) * bytes ≤ 140737488355328) (hB : B ≤ w.heap.size)
    (hK : ∀ v' w', Sl B w' size v' (n + m) (xs ++ news) → Upd (fun k => v.ownBlock = some k) w w' → (∀ k, v'.ownBlock = some k → v.ownBlock = some k ∨ w.heap.size ≤ k) → wpList P ops Q rest (a.put o.dst v') w') : wpList P ops Q (o :: rest) a w := by
  refine wpList_step fun K hK' => ?_
  rw [if_pos hgd]
  obtain ⟨v', w', hrun, r1, r2, r3⟩ := run_append_sl (P := P) w t tx o.type e i z bytes ht hi hz hsize hby hzs h xv m news hs h63 hbytes hB
  unfold Oper.wp
  simp [execOp, ho, resolve, invoke, builtin, hv, hx, hrun, Result.andThen]
  exact hK' _ _ (hK v' w' r1 r2 r3)

theorem sameRn (a b : Option Addr) (c d : Nat) (xs ys : List R) (n1 n2 : Nat) (w : World) (r : Bool) (hx : RowR w a xs) (hy : RowR w b ys) (h1 : xs.length = n1) (h2 : ys.length = n2) (hr : r = decide (xs = ys)) :
    Calls Try.prog 20 #[.slice a n1 c, .slice b n2 d] w fun e w' => e = .returned (.bool r) ∧ ∃ n, w' = w.drewN n := by
  subst h1 h2
  exact ref_sameR a b c d xs ys w hx hy r hr
theorem row_cat {B : Nat} {w : World} {a : Option Addr} {n c k m : Nat} {rs ys : List R} {xs : List Value} (h : Sl B w 3 (.slice a n c) m xs) (hxs : xs = rv (rs ++ ys)) (hn : n = (rs ++ ys).length) (hm : m = (rs ++ ys).length) (ht : ∀ r ∈ rs ++ ys, (-9223372036854775808 ≤ r.1 ∧ r.1 ≤ 9223372036854775807) ∧ (-9223372036854775808 ≤ r.2.1 ∧ r.2.1 ≤ 9223372036854775807)) : RowR w a (rs ++ ys) := by
  subst hxs hn hm
  exact row_of_sl h rfl ht

/-- Whether one record's bytes begin the other's. -/
theorem pre_iff (x y : R) (hx : okR x) (hy : okR y) (k : Nat) (hk : k = min (encR x).length (encR y).length) : (encR x).take k = (encR y).take k ↔ x = y := by
  obtain ⟨k1, t1, x1⟩ := x
  obtain ⟨k2, t2, x2⟩ := y
  constructor
  · intro h
    have hl1 : (encR (k1, t1, x1)).length = (enc k1 t1 x1).length := rfl
    have hl2 : (encR (k2, t2, x2)).length = (enc k2 t2 x2).length := rfl
    rcases Nat.le_total (encR (k1, t1, x1)).length (encR (k2, t2, x2)).length with hle | hle
    · rw [Nat.min_eq_left hle] at hk
      subst hk
      rw [List.take_of_length_le (Nat.le_refl _)] at h
      obtain ⟨rfl, rfl, rfl⟩ := enc_pre hx.1 hy.1 hx.2.1 hx.2.2 hy.2.1 hy.2.2 h
      rfl
    · rw [Nat.min_eq_right hle] at hk
      subst hk
      rw [List.take_of_length_le (l := encR (k2, t2, x2)) (Nat.le_refl _)] at h
      obtain ⟨rfl, rfl, rfl⟩ := enc_pre hy.1 hx.1 hy.2.1 hy.2.2 hx.2.1 hx.2.2 h.symm
      rfl
  · intro h
    rw [h]

theorem enc_okR (k t : Int) (x : List UInt8) (w : World) (h : okR (k, t, x)) (hx : x.length ≤ 100) :
    Calls Try.prog 10 #[rec k t (bstr x)] w fun e w' => e = .returned (.tuple #[.string (bstr (encR (k, t, x))), .int .i64 0]) ∧ Below w.heap.size w w' := by
  have h0 : err k t x = 0 := h.1
  have e := fr_encode k t (bstr x) w h.2 (by rw [size_bstr]; omega)
  rw [show (bstr x).data.toList = x from rfl] at e
  have e1 : encS k t x = enc k t x := by unfold encS; rw [if_pos h0]
  rw [h0, e1] at e
  exact e

set_option maxRecDepth 100000 in
set_option maxHeartbeats 8000000 in
theorem walk_WholeLogs (w : World) (a0 : Option Addr) (n0 c0 : Nat) (l0 : List (Int × Int × ByteArray × Unit)) (w0 : Rd w (.sl (.pair (.int .i64) (.pair (.int .i64) (.pair .str .unit)))) [.slice a0 n0 c0] l0) (a1 : ByteArray) (w1 : a1.size ≤ maxLen) :
    Calls Try.prog 8 #[.slice a0 n0 c0, .string a1] w fun e w' => e = .returned (.bool true) ∧ Below w.heap.size w w' := by
  obtain ⟨hn0, hcap, hr, hxm⟩ := Rd.recs w0
  have hln : (l0.map toR).length = n0 := (@List.length_map _ _ l0 toR).trans hn0.symm
  generalize hrs : (List.map toR l0 : List R) = rs at *
  clear hrs w0 hn0
  have HN := Lib.hid hln
  clear hln
  have hEl : (bstr (enc 1 0 [])).size = 7 := by rw [size_bstr, enc_0]
  have HENC := Lib.hid enc_call
  generalize hE0 : enc 1 0 [] = E0 at *
  clear hE0
  by_cases hbig : 20 < n0 ∨ 500 < a1.size
  · rcases (by omega : 20 < n0 ∨ (¬ 20 < n0 ∧ 500 < a1.size)) with h | ⟨h, h2⟩
    all_goals
      clear hbig
      go_enter Try.func8, Try.ntmps8
      go_wp2_with (first | (go_at_call 10; refine (HENC.out _).mono ?_; rintro e w2 ⟨rfl, b2⟩))
      go_ret
      exact ⟨rfl, b2⟩
  have hn20 : n0 ≤ 20 := by omega
  have hm500 : a1.size ≤ 500 := by omega
  clear hbig
  go_enter Try.func8, Try.ntmps8
  go_wp2_with (first | (go_at_call 10; refine (HENC.out _).mono ?_; rintro e w2 ⟨rfl, b2⟩))
  go_loopw [48] (fun i wr => ∃ k : Nat, k ≤ n0 ∧ i = .int .i64 k ∧ (∀ r ∈ rs.take k, r.2.2.length ≤ 100) ∧ Below w.heap.size w wr) (fun i _ => n0 - (intOf i).toNat)
  case atStart => exact ⟨0, Nat.zero_le _, rfl, by simp, b2⟩
  case round =>
    obtain ⟨k, hk, rfl, htx, hbw⟩ := hrel
    by_cases hlt : k < n0
    · have hk1 : k < rs.length := by rw [HN.out]; exact hlt
      obtain ⟨bb, oo, rfl, hbb, p0, p1, p2⟩ := (hr.on hbw).at_ k hk1
      have htk : rs.take (k + 1) = rs.take k ++ [rs[k]] := List.take_succ_eq_append_getElem hk1
      generalize rs[k] = r at *
      obtain ⟨k1, t1, x1⟩ := r
      simp only at p0 p1 p2
      have hsz : (bstr x1).size = x1.length := size_bstr x1
      by_cases hx : 100 < x1.length
      · clear htk
        go_wp2
        go_ret
        exact ⟨rfl, hbw.alloc hbw.size _⟩
      have htx2 : ∀ r ∈ rs.take (k + 1), r.2.2.length ≤ 100 := by
        intro r hr
        rw [htk] at hr
        rcases List.mem_append.1 hr with h | h
        · exact htx r h
        · simp at h; subst h; show x1.length ≤ 100; omega
      have HTX := Lib.hid htx2
      clear htk htx2 hk1
      go_wp2
      have hb3 := hbw.alloc hbw.size (.cells #[.int .i64 k1, .int .i64 t1, .string (bstr x1)] 23)
      exact ⟨⟨k + 1, by omega, by go_num, HTX.out, hb3⟩, by simp [intOf]; omega⟩
    · obtain rfl : k = n0 := by omega
      have hall : rs.take k = rs := List.take_of_length_le (by rw [HN.out]; exact Nat.le_refl _)
      rw [hall] at htx
      clear hall hlt hk
      have HTX := Lib.hid htx
      have hbd := log_build a0 k c0 rs wr (hr.on hbw) HN.out (fun r hr => by have := htx r hr; omega) (by omega)
      clear htx
      by_cases hz : berr rs = 0
      · rw [if_pos hz, hz] at hbd
        have HBD := Lib.hid hbd
        have HZ := Lib.hid hz
        have hsm : (build rs).length ≤ 4000 := by have := build_small rs HTX.out hr.tm; have := HN.out; omega
        have hBs : (bstr (build rs)).size = (build rs).length := size_bstr _
        have hok : ∀ r ∈ rs, okR r := fun r h => ⟨berr_ok rs hz r h, (hr.tm r h).2⟩
        have hal : a1.data.toList.length = a1.size := by simp
        have hp1 := fun w => log_parse a1 w (by omega)
        have hp2 := fun w => log_parse (bstr (build rs ++ a1.data.toList)) w (by rw [size_bstr, List.length_append]; omega)
        rw [show (bstr (build rs ++ a1.data.toList)).data.toList = build rs ++ a1.data.toList from rfl, parse_build rs hok] at hp2
        have hca := fun w => cat_run (P := Try.prog) w (bstr (build rs)) a1 (bstr (build rs ++ a1.data.toList)) (by omega) (bstr_cat _ _)
        obtain ⟨s1, s2, s3, _, _⟩ := parse_spec _ a1.data.toList (Nat.le_refl _)
        have hbg := (build_big (parse a1.data.toList).1).1
        rw [s2, List.length_take] at hbg
        have hasb : (parse a1.data.toList).1.length ≤ 500 := by omega
        obtain ⟨ys, m, f, hf⟩ : ∃ (ys : List R) (m f : Nat), parse a1.data.toList = (ys, m, f) := ⟨_, _, _, rfl⟩
        rw [hf] at hp1 hp2 hasb s3
        simp only at hp2 hasb s3
        have HP1 := Lib.hid hp1
        have HP2 := Lib.hid hp2
        have HOK := Lib.hid hok
        clear hp1 hp2 hbd hz hok s1 s2 hbg hf hal
        generalize hBL : (build rs).length = BL at *
        generalize hBR : build rs = BR at *
        generalize BR ++ a1.data.toList = BX at *
        clear hBL hBR
        have hm5 : m ≤ 1000 := by have : a1.data.toList.length = a1.size := by simp
                                  omega
        clear s3
        have hff : ((f : Int) != f) = false := by simp
        obtain ⟨i0, hi, hz0, hz1, hz2⟩ := info_parts info_rec
        go_wp2_with (first | (go_at_call 19; refine HBD.out.mono ?_; rintro e w3 ⟨rfl, b3⟩; have hb3 := on_below hbw b3) | (go_at_call 17; first | ((with_reducible refine (HP1.out _).mono ?_); rintro e w4 ⟨pa, pc, rfl, r4, b4⟩; have hb4 := on_below hb3 b4) | ((with_reducible refine (HP2.out _).mono ?_); rintro e w5 ⟨qa, qc, rfl, r5, b5⟩; have hb5 := on_below hb4 b5; have hbe := hb5.alloc hb5.size (.cells #[] 23); have he0 := Sl.made (B := w5.heap.size) w5 #[] 23 3 0 0 (Nat.le_refl _) (Nat.le_refl _) (Nat.zero_le _) (by simp); have hre := (hr.on hb5).on ((Below.refl _ w5).alloc (Nat.le_refl _) (.cells #[] 23)); have r4e := (r4.on b5).on ((Below.refl _ w5).alloc (Nat.le_refl _) (.cells #[] 23)); have r5e := r5.on ((Below.refl _ w5).alloc (Nat.le_refl _) (.cells #[] 23)))) | (at_builtin; first | (refine wpList_append_sl_g _ ?hw (.tmp 91) (.tmp 92) 40 40 rfl 23 i0 _ 32 Try.underlying40 hi hz0 hz1 hz2 rfl rfl he0 _ k _ rfl (src_row Try.underlying40 _ a0 k c0 rs hre HN.out) (by unfold maxLen; omega) (by omega) (by simp) ?_; (case hw => rfl); intro v1 w6 k1 k2 k3; have kk1 := (show Sl w5.heap.size w6 3 v1 k (rv rs) by simpa using k1); go_loud (obtain ⟨a6, c6, hv6⟩ := kk1.shape; subst hv6); go_loud (have b56 : Below w5.heap.size w5 w6 := ((Below.refl _ w5).alloc (Nat.le_refl _) (.cells #[] 23)).upd k2 (by simp) (fun i _ h => (he0.lt i h).1)); go_loud (have hb6 := on_below hb5 b56); have r46 := (r4.on b5).on b56; have r56 := r5.on b56) | (go_loud (refine wpList_append_sl_g (n := k) _ ?hw2 (.tmp 93) (.tmp 94) 40 40 rfl 23 i0 _ 32 Try.underlying40 hi hz0 hz1 hz2 rfl rfl kk1 _ ys.length _ rfl (src_row Try.underlying40 _ pa ys.length pc ys r46 rfl) (by unfold maxLen; omega) (by omega) (by have := b56.size; omega) ?_); (case hw2 => rfl); intro v2 w7 j1 j2 j3; obtain ⟨a7, c7, hv7⟩ := j1.shape; subst hv7; have b67 : Below w5.heap.size w6 w7 := j2.below b56.size (fun i _ h => (kk1.lt i h).1); have hb7 : Below w.heap.size w w7 := hb6.trans (b67.mono hb5.size); have r57 := r5.on (b56.trans b67))) | (go_at_call 20; go_loud (refine (sameRn qa a7 qc c7 (rs ++ ys) (rs ++ ys) _ _ _ true r57 (row_cat (k := 0) j1 (by rw [rv_append]) (by have := HN.out; simp only [List.length_append]; omega) (by have := HN.out; simp only [List.length_append]; omega) r5.tm) (by have := HN.out; simp only [List.length_append]) (by have := HN.out; simp only [List.length_append]; omega) (by simp)).mono ?_); rintro e w8 ⟨rfl, nq, rfl⟩))
        go_loopw [101] (fun i wr => ∃ p : Nat, p ≤ k ∧ i = .int .i64 p ∧ Below w.heap.size w wr) (fun i _ => k - (intOf i).toNat)
        case atStart => exact ⟨0, Nat.zero_le _, rfl, below_drewN hb7 _⟩
        case round =>
          clear HP1 HP2 HBD hsm hBs hca hm5 hff hz0 hz1 hz2 hi hbe he0 hre r4e r5e kk1 b56 hb6 r46 r56 j1 j2 j3 b67 r57 hb7 k1 k2 k3 r4 b4 hb4 r5 b5 hb5 b3 hb3
          obtain ⟨p, hp, rfl, hbp⟩ := hrel
          by_cases hpk : p < k
          · have hp1 : p < rs.length := by rw [HN.out]; exact hpk
            obtain ⟨b1, o1, ha1, hb1, p0, p1, p2⟩ := (hr.on hbp).at_ p hp1
            have hokx := HOK.out rs[p] (List.getElem_mem hp1)
            have htxx := HTX.out rs[p] (List.getElem_mem hp1)
            generalize rs[p] = x at *
            obtain ⟨k1, t1, x1⟩ := x
            simp only at p0 p1 p2 htxx
            clear hp1
            subst ha1
            have hatx := At.alloc wr [.int .i64 k1, .int .i64 t1, .string (bstr x1)] 23
            have hbx := hbp.alloc hbp.size (.cells #[.int .i64 k1, .int .i64 t1, .string (bstr x1)] 23)
            go_wp2
            generalize wr.alloc _ = wr1 at *
            obtain ⟨g0, hg0⟩ : ∃ g, wr.heap.size = g := ⟨_, rfl⟩
            rw [hg0] at hatx ⊢
            go_loopw [107] (fun i wq => ∃ q : Nat, q ≤ k ∧ i = .int .i64 q ∧ Below w.heap.size w wq ∧ At wq g0 [.int .i64 k1, .int .i64 t1, .string (bstr x1)]) (fun i _ => k - (intOf i).toNat)
            case atStart => exact ⟨0, Nat.zero_le _, rfl, hbx, hatx⟩
            case round =>
              clear hatx hbx hg0
              obtain ⟨q, hq, rfl, hbq, hatx⟩ := hrel
              by_cases hqk : q < k
              · have hq1 : q < rs.length := by rw [HN.out]; exact hqk
                obtain ⟨b2, o2, ha2, hb2, q0, q1, q2⟩ := (hr.on hbq).at_ q hq1
                have hoky := HOK.out rs[q] (List.getElem_mem hq1)
                have htxy := HTX.out rs[q] (List.getElem_mem hq1)
                generalize rs[q] = y at *
                obtain ⟨k2, t2, x2⟩ := y
                simp only at q0 q1 q2 htxy
                cases ha2
                clear hq1
                obtain ⟨hlx, c0', _, c1', _, c2', _⟩ := hatx.three
                have HEX := Lib.hid (fun w => enc_okR k1 t1 x1 w hokx htxx)
                have HEY := Lib.hid (fun w => enc_okR k2 t2 x2 w hoky htxy)
                have hatY := At.alloc wr [.int .i64 k2, .int .i64 t2, .string (bstr x2)] 23
                have hatxY := hatx.on ((Below.refl _ wr).alloc (Nat.le_refl _) (.cells #[.int .i64 k2, .int .i64 t2, .string (bstr x2)] 23))
                have hbY := hbq.alloc hbq.size (.cells #[.int .i64 k2, .int .i64 t2, .string (bstr x2)] 23)
                have hpre := pre_iff (k1, t1, x1) (k2, t2, x2) hokx hoky
                have hsx := size_bstr (encR (k1, t1, x1))
                have hsy := size_bstr (encR (k2, t2, x2))
                obtain ⟨kk, hkk⟩ : ∃ kk, kk = min (encR (k1, t1, x1)).length (encR (k2, t2, x2)).length := ⟨_, rfl⟩
                have hpre2 := hpre kk hkk
                have htX := fun w => to_run (P := Try.prog) w 9 (bstr (encR (k1, t1, x1))) kk kk rfl Try.underlying9 (by omega)
                have htY := fun w => to_run (P := Try.prog) w 9 (bstr (encR (k2, t2, x2))) kk kk rfl Try.underlying9 (by omega)
                rw [show (bstr (encR (k1, t1, x1))).data.toList = encR (k1, t1, x1) from rfl] at htX
                rw [show (bstr (encR (k2, t2, x2))).data.toList = encR (k2, t2, x2) from rfl] at htY
                clear hpre
                by_cases heq : (k1, t1, x1) = (k2, t2, x2)
                · simp only [Prod.mk.injEq] at heq
                  obtain ⟨rfl, rfl, rfl⟩ := heq
                  clear hpre2
                  generalize hEX : encR (k1, t1, x1) = EX at *
                  rw [Nat.min_self] at hkk
                  subst hkk
                  clear hEX
                  go_wp2_with (first | (go_at_call 10; first | ((with_reducible refine (HEX.out (wr.alloc _)).mono ?_); rintro e w3 ⟨rfl, b3⟩; have hb3 := on_below hbY b3; have hatx3 := hatxY.on b3; have haty3 := hatY.on b3; obtain ⟨hl3, d0, _, d1, _, d2, _⟩ := haty3.three) | ((with_reducible refine (HEY.out w3).mono ?_); rintro e w4 ⟨rfl, b4⟩; have hb4 := on_below hb3 b4; have hatx4 := hatx3.on b4; obtain ⟨hl4, e0, _, e1, _, e2, _⟩ := hatx4.three; obtain ⟨hl5, f0, _, f1, _, f2, _⟩ := (haty3.on b4).three)))
                  go_quiet (fail)
                  go_wp2
                  have hbn := below_drewN hb4 nq
                  have han := hatx4.drewN nq
                  go_roundw
                  case rel => first | exact ⟨q + 1, by omega, by go_num, hbn, han⟩ | ((repeat apply Exists.intro); refine ⟨⟨q + 1, by omega, ?_, hbn, han⟩, rfl⟩; go_num)
                  case measure => simp [intOf]; omega
                · have hne : (encR (k1, t1, x1)).take kk ≠ (encR (k2, t2, x2)).take kk := fun h => heq (hpre2.1 h)
                  clear hpre2
                  generalize encR (k1, t1, x1) = EX at *
                  generalize encR (k2, t2, x2) = EY at *
                  generalize EX.take kk = TX at *
                  generalize EY.take kk = TY at *
                  have hneq : (TX == TY) = false := by simpa using hne
                  generalize hLX : EX.length = LX at *
                  generalize hLY : EY.length = LY at *
                  clear hne hLX hLY
                  have hd : k1 ≠ k2 ∨ (k1 = k2 ∧ t1 ≠ t2) ∨ (k1 = k2 ∧ t1 = t2 ∧ x1 ≠ x2) := by
                    by_cases e1 : k1 = k2
                    · by_cases e2 : t1 = t2
                      · exact .inr (.inr ⟨e1, e2, fun e3 => heq (by rw [e1, e2, e3])⟩)
                      · exact .inr (.inl ⟨e1, e2⟩)
                    · exact .inl e1
                  clear heq
                  rcases Nat.le_total LX LY with hle | hle
                  · rw [Nat.min_eq_left hle] at hkk
                    subst hkk
                    have hmin : min (kk : Int) (LY : Int) = kk := Int.min_eq_left (by omega)
                    rcases hd with hd | ⟨rfl, hd⟩ | ⟨rfl, rfl, hd⟩
                    all_goals
                      go_wp2_with (first | (go_at_call 10; first | ((with_reducible refine (HEX.out (wr.alloc _)).mono ?_); rintro e w3 ⟨rfl, b3⟩; have hb3 := on_below hbY b3; have hatx3 := hatxY.on b3; have haty3 := hatY.on b3; obtain ⟨hl3, d0, _, d1, _, d2, _⟩ := haty3.three) | ((with_reducible refine (HEY.out w3).mono ?_); rintro e w4 ⟨rfl, b4⟩; have hb4 := on_below hb3 b4; have hatx4 := hatx3.on b4; obtain ⟨hl4, e0, _, e1, _, e2, _⟩ := hatx4.three; obtain ⟨hl5, f0, _, f1, _, f2, _⟩ := (haty3.on b4).three)))
                      go_quiet (fail)
                      go_wp2
                      have hbn := below_drewN hb4 nq
                      have han := hatx4.drewN nq
                      go_roundw
                      case rel => first | exact ⟨q + 1, by omega, by go_num, hbn, han⟩ | ((repeat apply Exists.intro); refine ⟨⟨q + 1, by omega, ?_, hbn, han⟩, rfl⟩; go_num)
                      case measure => simp [intOf]; omega
                  · rw [Nat.min_eq_right hle] at hkk
                    subst hkk
                    have hmin : min (LX : Int) (kk : Int) = kk := Int.min_eq_right (by omega)
                    rcases hd with hd | ⟨rfl, hd⟩ | ⟨rfl, rfl, hd⟩
                    all_goals
                      go_wp2_with (first | (go_at_call 10; first | ((with_reducible refine (HEX.out (wr.alloc _)).mono ?_); rintro e w3 ⟨rfl, b3⟩; have hb3 := on_below hbY b3; have hatx3 := hatxY.on b3; have haty3 := hatY.on b3; obtain ⟨hl3, d0, _, d1, _, d2, _⟩ := haty3.three) | ((with_reducible refine (HEY.out w3).mono ?_); rintro e w4 ⟨rfl, b4⟩; have hb4 := on_below hb3 b4; have hatx4 := hatx3.on b4; obtain ⟨hl4, e0, _, e1, _, e2, _⟩ := hatx4.three; obtain ⟨hl5, f0, _, f1, _, f2, _⟩ := (haty3.on b4).three)))
                      go_quiet (fail)
                      go_wp2
                      have hbn := below_drewN hb4 nq
                      have han := hatx4.drewN nq
                      go_roundw
                      case rel => first | exact ⟨q + 1, by omega, by go_num, hbn, han⟩ | ((repeat apply Exists.intro); refine ⟨⟨q + 1, by omega, ?_, hbn, han⟩, rfl⟩; go_num)
                      case measure => simp [intOf]; omega
              · have hqk' : q = k := by omega
                go_wp2
                go_roundw
                case rel => first | exact ⟨p + 1, by omega, by go_num, hbq⟩ | ((repeat apply Exists.intro); refine ⟨⟨p + 1, by omega, ?_, hbq⟩, rfl⟩; go_num)
                case measure => simp [intOf]; omega
          · have hpk' : p = k := by omega
            go_wp2
            go_ret
            exact ⟨rfl, hbp⟩
      · have hne : ((berr rs : Int) == 0) = false := by simpa using hz
        rw [if_neg hz] at hbd
        have HBD := Lib.hid hbd
        generalize berr rs = er at *
        clear hbd
        go_wp2_with (first | (go_at_call 19; refine HBD.out.mono ?_; rintro e w3 ⟨rfl, b3⟩; have hb3 := on_below hbw b3))
        go_ret
        exact ⟨rfl, hb3⟩
end Go.Proofs.Ytfgmbmpbgokolaa
