/- Contracts of source's calls: a poll. -/
import Derived.Test.YtoecikeleoaecaaGreatSrc4
namespace Go.Proofs.YtoecikeleoaecaaGreat
set_option maxRecDepth 4000
open Go.ChangeShapes Go.WideShapes Go.ChangeAt Go.RowKit
open PHist PRing PSat PClamp PBound PFrame PVar PCrc PSign PTree PEv
set_option linter.unusedVariables false
set_option linter.unusedSimpArgs false

theorem CurAt.next {w : World} {g : Nat} {s : ByteArray} {recs : List R} {err k : Nat} (h : CurAt w g s recs err k) (hk : k < recs.length) :
    ∃ q n, CurC w g s q k ∧ q ≤ s.size ∧ s.size ≤ 400 ∧ fget (s.data.toList.drop q) = (recs.getD k zr, n, 0) ∧ ∀ w', CurC w' g s (q + n) (k + 1) → CurAt w' g s recs err (k + 1) := by
  obtain ⟨q, v, h1, h2, h3, h4⟩ := h
  rw [show recs.drop k = recs[k] :: recs.drop (k + 1) from List.drop_eq_getElem_cons hk] at h4
  obtain ⟨v', e1, e2, e3, e4, e5, e6, e7⟩ := parse_step h4
  refine ⟨q, (encR recs[k]).length, h1, h2, h3, by rw [e1, List.getD_eq_getElem?_getD, List.getElem?_eq_getElem hk]; rfl, fun w' hw => ⟨_, v', hw, ?_, h3, ?_⟩⟩
  · have hl : (s.data.toList.drop q).length = s.size - q := by rw [List.length_drop]; rfl
    omega
  · rw [List.drop_drop] at e2
    exact e2

theorem SrcC.postWay {w w' : World} {tag : Nat → Nat} {W : Nat → Nat → Prop} {ev : Value} {V : SrcV} {g : Nat} {x : Lo} (h : SrcC w tag W ev V g x) (i : Nat) (hi : i < x.n) (l : List R) (hc : GPost (W i) (V.ty i) (V.wy i) (x.ru i) l w w') : SrPost tag V g { x with gt := put x.gt i l } w w' := by
  obtain ⟨W', hS⟩ := h.toWay i hi l hc
  obtain ⟨S', hc1, hu, hS'⟩ := hc
  refine ⟨_, W', ev, hS, hu.mono (fun k _ e => by rw [h.t7 i hi k e]; omega), fun b hb => ?_⟩
  rcases Nat.lt_or_ge b w.heap.size with hlt | hge
  · rw [retag_old hlt] at hb; exact .inl hb
  · exact .inr hge
theorem upd_chain {tag tag' tag2 : Nat → Nat} {a b c : World} (hU : Upd (fun k => tag k ≠ 0) a b) (hT : ∀ k, tag' k ≠ 0 → tag k ≠ 0 ∨ a.heap.size ≤ k) (hu : Upd (fun k => tag' k ≠ 0) b c) (ht : ∀ k, tag2 k ≠ 0 → tag' k ≠ 0 ∨ b.heap.size ≤ k) :
    Upd (fun k => tag k ≠ 0) a c ∧ ∀ k, tag2 k ≠ 0 → tag k ≠ 0 ∨ a.heap.size ≤ k := by
  refine ⟨hU.trans hu (fun k hk e => ?_), fun k hk => ?_⟩
  · rcases hT k e with h | h
    · exact h
    · omega
  · rcases ht k hk with h | h
    · exact hT k h
    · exact .inr (Nat.le_trans hU.size h)
theorem tag_stays {tag tag' : Nat → Nat} {n N : Nat} (ht : ∀ k, tag' k ≠ 0 → tag k ≠ 0 ∨ n ≤ k) (h0 : tag N = 0) (hN : N < n) : tag' N = 0 := by
  apply Classical.byContradiction
  intro h
  rcases ht N h with h | h
  · exact h h0
  · omega
theorem flt_len (x : Lo) (i : Nat) : (x.flt i).length ≤ 1 := by
  unfold Lo.flt
  split
  · simp
  · split <;> simp
def Lo.nxt (x : Lo) (i : Nat) : R := (x.re i).getD (x.rd i) zr
def Lo.elm (x : Lo) (i : Nat) : Ev := .el (lateOf x.now (x.nxt i)) i (x.nxt i).1 (x.nxt i).2.1 (x.nxt i).2.2
def Lo.mk2 (x : Lo) (i : Nat) : Int := gnow (x.ru i) (x.gt i ++ [x.nxt i])
/-- Behind a record that is read, ahead of the settling. -/
def Lo.gone (x : Lo) (i : Nat) : Lo := { x with rd := put x.rd i (x.rd i + 1), is := put x.is i 0, tl := put x.tl i (add x.clock (max x.timeout 0)), evs := x.evs ++ [x.elm i], gt := put x.gt i (x.gt i ++ [x.nxt i]), K := put x.K i (x.mk2 i), L := put x.L i (x.mk2 i) }
def Lo.poll (x : Lo) (i : Nat) : Lo := ((x.gone i).settle i).adv

theorem so_poll_none (tag : Nat → Nat) (W : Nat → Nat → Prop) (ev : Value) (V : SrcV) (g : Nat) (x : Lo) (i : Int) (w : World) (h : SrcC w tag W ev V g x) (hm : x.n ≤ x.m) (hs : ∀ j, j < x.n → 0 ≤ x.is j ∧ x.is j ≤ 3) (hr : x.refused i = true) :
    Calls Tryz.prog 63 #[.pointer (some ⟨g, 0, none⟩), .int .i64 i] w fun e w' => e = .returned (.tuple #[]) ∧ SrPost tag V g x w w' := by
  have HH := Lib.hid h
  have HR := Lib.hid (so_refused tag W ev V g x i true w h hm hs hr)
  clear h hm hs hr
  go_enter Tryz.func63, Tryz.ntmps63
  go_wp2_with (first | (go_at_call 29; (with_reducible refine HR.out.mono ?_); rintro e w1 ⟨rfl, hq⟩))
  refine bodyPost_ret (results_none rfl _ _ _) rfl ?_
  exact ⟨rfl, (SrPost.same HH.out).on (on_quiet hq)⟩

set_option maxHeartbeats 8000000 in
theorem so_poll0 (tag : Nat → Nat) (W : Nat → Nat → Prop) (ev : Value) (V : SrcV) (g : Nat) (x : Lo) (i : Nat) (w : World) (h : SrcC w tag W ev V g x) (h0 : ∀ b, w.heap.size ≤ b → tag b = 0) (hm : x.n ≤ x.m) (hs : ∀ j, j < x.n → 0 ≤ x.is j ∧ x.is j ≤ 3) (hr : x.refused i = false)
    (hrd : x.rd i < (x.re i).length) (hfew : (x.re i).length ≤ 400) (hok : rcheck (x.ru i) = 0) (hfit : (x.ru i).Fits) (hgt : InR (x.gt i)) (hgl : (x.gt i).length ≤ 400) (hir : in64 (x.nxt i).1 ∧ in64 (x.nxt i).2.1) (hck : in64 x.clock) (htm : in64 x.timeout)
    (hml : in64 (ml ((x.gone i).settle i).K ((x.gone i).settle i).S x.m)) (hb : x.evs.length ≤ 90000) :
    Calls Tryz.prog 63 #[.pointer (some ⟨g, 0, none⟩), .int .i64 i] w fun e w' => e = .returned (.tuple #[]) ∧ SrPost tag V g (x.poll i) w w' := by
  have HR := Lib.hid (so_refused tag W ev V g x i false w h hm hs hr)
  obtain ⟨hin, hs1⟩ : i < x.n ∧ x.is i ≤ 1 := by
    unfold Lo.refused at hr
    simp only [Bool.or_eq_false_iff, decide_eq_false_iff_not, Decidable.not_not, Int.toNat_natCast] at hr
    omega
  have him : i < x.m := by omega
  have hs0 : Hid (0 ≤ x.is i) := (hs i hin).1
  have hs2 : Hid (x.is i < 2) := by show x.is i < 2; omega
  have HH := Lib.hid h
  have HT0 := Lib.hid h0
  have HB := Lib.hid hb
  have HML := Lib.hid hml
  have hgs : Hid (g ≠ V.st i) := fun e => by have h1 := h.t1; rw [e, h.t8 i hin] at h1; omega
  have hrk : Hid (x.rd i ≤ 100000) := by show x.rd i ≤ 100000; omega
  have hm' := Lib.hid hm
  -- the calls that come, in worlds and places to be given
  have HSN := fun w' S (h : GenC w' S (V.ty i) (V.wy i) (x.ru i) (x.gt i)) => Lib.hid (gn_seen S (V.ty i) (V.wy i) (x.ru i) (x.gt i) (x.nxt i) w' h hok hfit hgt hir (by omega))
  have HLT := fun w' W' ev' tag' y (hy : y.now = x.now) (h : SrcC w' tag' W' ev' V g y) => Lib.hid (so_late tag' W' ev' V g y (x.nxt i) (lateOf x.now (x.nxt i)) w' h (by rw [hy]))
  unfold Lo.poll
  have HS8 := fun w' W' ev' tag' (h : SrcC w' tag' W' ev' V g (x.gone i)) => Lib.hid (so_settle tag' W' ev' V g (x.gone i) i w' h hin hm (by show 0 ≤ put x.is i 0 i ∧ put x.is i 0 i < 2; rw [put_same]; omega) (by show (x.evs ++ [x.elm i]).length ≤ 100000; rw [List.length_append]; show x.evs.length + 1 ≤ _; omega))
  have HA9 := fun w' W' ev' tag' (h : SrcC w' tag' W' ev' V g ((x.gone i).settle i)) => Lib.hid (so_advance tag' W' ev' V g ((x.gone i).settle i) w' h hml (by
    show ((x.evs ++ [x.elm i]) ++ (x.gone i).flt i).length ≤ 100000
    rw [List.length_append, List.length_append]
    have := flt_len (x.gone i) i
    show x.evs.length + 1 + _ ≤ _; omega))
  obtain ⟨q, n, hcu, hq4, hs4, hfg, hnx⟩ := (h.cur i hin).next hrd
  have HCN := fun w' (h : CurC w' (V.cu i) (V.lg i) q (x.rd i)) => Lib.hid (cu_next (V.cu i) (V.lg i) q (x.rd i) (x.nxt i) n w' h hq4 (by omega) hrk.out hfg)
  have HCU := fun w' (hb : Below w.heap.size w w') => CurC.on hcu hb
  have HNX := Lib.hid hnx
  clear h h0 hm hs hr hrd hfew hok hfit hgt hgl hml hb hcu hq4 hs4 hfg hnx hs1
  have hE : Hid (x.elm i = .el (lateOf x.now (x.nxt i)) i (x.nxt i).1 (x.nxt i).2.1 (x.nxt i).2.2) := rfl
  have HM2 : Hid (x.mk2 i = gnow (x.ru i) (x.gt i ++ [x.nxt i])) := rfl
  generalize hrr : x.nxt i = r at *
  have HRR := Lib.hid hrr
  clear hrr
  obtain ⟨rk, rt, rx⟩ := r
  simp only at HLT hE HSN hir
  generalize lateOf x.now (rk, rt, rx) = late at *
  go_enter Tryz.func63, Tryz.ntmps63
  go_wp2_with (first | (go_at_call 29; (with_reducible refine HR.out.mono ?_); rintro e w1 ⟨rfl, hqq⟩; have hb1 := on_quiet hqq; have hS1 := HH.out.on hb1; obtain ⟨hg1, c0, z0, c1, z1, c2, z2, c3, z3, c4, z4, c5, z5⟩ := hS1.blk.cells6; obtain ⟨gp, off, cap, hpv, hc, hgp, hne, p0, p1, p2⟩ := hS1.part i hin; rw [hpv] at c0; clear hpv hqq) | (go_at_call 111; (with_reducible refine (HCN _ (HCU _ (hb1.alloc hb1.size _))).out.mono ?_); rintro e w2 ⟨rfl, hcu2, hu2, -⟩; have hN1 := HT0.out _ hb1.size; have hA1 := (At.alloc w1 [.pointer (some ⟨V.cu i, 0, none⟩), .iface (V.ty i) (.pointer (some ⟨V.wy i, 0, none⟩)), .pointer (some ⟨V.st i, 0, none⟩)] 106).upd hu2 (fun e => by rw [e, HH.out.t6 i hin] at hN1; omega); have hS2 := (hS1.alloc (.cells #[.pointer (some ⟨V.cu i, 0, none⟩), .iface (V.ty i) (.pointer (some ⟨V.wy i, 0, none⟩)), .pointer (some ⟨V.st i, 0, none⟩)] 106)).toCur i hin _ (HNX.out _ hcu2) hu2))
  have hR2 : Below w2.heap.size w2 (w2.alloc (.cells #[.int .i64 rk, .int .i64 rt, .string (bstr rx)] 117)) := (Below.refl _ _).alloc (Nat.le_refl _) _
  have hS3 := hS2.on hR2
  have hA13 := hA1.on hR2
  have hA23 := At.alloc w2 [.int .i64 rk, .int .i64 rt, .string (bstr rx)] 117
  have hU2 : Upd (fun k => tag k ≠ 0) w w2 := (Upd.of_below (S := fun k => tag k ≠ 0) (hb1.alloc hb1.size (.cells #[.pointer (some ⟨V.cu i, 0, none⟩), .iface (V.ty i) (.pointer (some ⟨V.wy i, 0, none⟩)), .pointer (some ⟨V.st i, 0, none⟩)] 106)) (fun k hk h => by omega)).trans hu2 (fun k _ e => by rw [e, HH.out.t6 i hin]; omega)
  have hN2 := HT0.out _ hU2.size
  have hU3 := hU2.alloc (.cells #[.int .i64 rk, .int .i64 rt, .string (bstr rx)] 117)
  have hT3 : ∀ k, tag k ≠ 0 → tag k ≠ 0 ∨ w.heap.size ≤ k := fun _ h => .inl h
  clear hU2 hR2 hS2 hA1 hu2 hcu2 c0 z0 c1 z1 c2 z2 c3 z3 c4 z4 c5 z5 p0 p1 p2 hgp hne hc hS1 hg1
  generalize w2.alloc (.cells #[.int .i64 rk, .int .i64 rt, .string (bstr rx)] 117) = w3 at *
  generalize w1.heap.size = N1 at *
  generalize w2.heap.size = N2 at *
  obtain ⟨hg3, c0, z0, c1, z1, c2, z2, c3, z3, c4, z4, c5, z5⟩ := hS3.blk.cells6
  obtain ⟨hn1, a0, -, a1, -, a2, -⟩ := hA13.three
  have hRd := Lib.hid (jd_read g x.clock (V.st i) (x.is i) x.timeout (x.tl i) _ hS3.drew.clk hgs.out hck htm (hS3.drew.sta i hin) hs0.out hs2.out (add x.clock (max x.timeout 0)) rfl)
  go_cut [] (fun wx => SrPost tag V g { x with rd := put x.rd i (x.rd i + 1), is := put x.is i 0, tl := put x.tl i (add x.clock (max x.timeout 0)) } w3 wx)
  case first =>
    go_region_with (first | (go_at_call 112; (with_reducible refine hRd.out.mono ?_); rintro e wr ⟨rfl, hPr⟩))
    all_goals (go_wp2_with fail; go_meet; exact SrPost.after (Below.refl _ _).drew (SrPost.of (hS3.drew.toSta i hin _ _ hPr) hPr.2 (fun k hk e => by rw [e, hS3.t8 i hin]; omega)))
  case rest =>
    obtain ⟨tag4, W4, ev4, hS4, hu4, ht4⟩ := hcut
    have hA14 := hA13.tag0 hu4 hN1
    have hA24 := hA23.tag0 hu4 hN2
    have hN14 := tag_stays ht4 hN1 hA13.1
    have hN24 := tag_stays ht4 hN2 hA23.1
    obtain ⟨hU4, hT4⟩ := upd_chain hU3 hT3 hu4 ht4
    clear hS3 hA13 hA23 hu4 ht4 hU3 hT3 hRd c0 z0 c1 z1 c2 z2 c3 z3 c4 z4 c5 z5 a0 a1 a2 hg3 hn1
    obtain ⟨hn2, r0, -, r1, -, r2, -⟩ := hA24.three
    have HL4 := HLT _ W4 ev4 tag4 { x with rd := put x.rd i (x.rd i + 1), is := put x.is i 0, tl := put x.tl i (add x.clock (max x.timeout 0)) } rfl hS4.drew
    have HY4 := fun w' (h : SrcC w' tag4 W4 ev4 V g { x with rd := put x.rd i (x.rd i + 1), is := put x.is i 0, tl := put x.tl i (add x.clock (max x.timeout 0)) }) => Lib.hid (so_tell tag4 W4 ev4 V g { x with rd := put x.rd i (x.rd i + 1), is := put x.is i 0, tl := put x.tl i (add x.clock (max x.timeout 0)) } (.el late i rk rt rx) (.iface 123 (.agg #[.int .i64 i, .int .i64 rk, .int .i64 rt, .string (bstr rx), .bool late])) rfl w' h (by have := HB.out; show x.evs.length ≤ 100000; omega))
    go_wp2_with fail
    go_cut [] (fun wx => SrPost tag4 V g { x with rd := put x.rd i (x.rd i + 1), is := put x.is i 0, tl := put x.tl i (add x.clock (max x.timeout 0)), evs := x.evs ++ [.el late i rk rt rx] } wc wx)
    case first =>
      go_region_with (first | (go_at_call 113; (with_reducible refine HL4.out.mono ?_); rintro e wl ⟨rfl, hbl⟩; have hAl := hA24.drew.on hbl; obtain ⟨hnl, l0, -, l1, -, l2, -⟩ := hAl.three; have hSl := hS4.drew.on hbl) | (go_at_call 102; (with_reducible refine (HY4 _ hSl).out.mono ?_); rintro e wt ⟨rfl, hPt⟩))
      all_goals (go_wp2_with fail; go_meet; exact SrPost.after (on_below (Below.refl _ _).drew hbl) hPt)
    case rest =>
      obtain ⟨tag5, W5, ev5, hS5, hu5, ht5⟩ := hcut
      have hA15 := hA14.tag0 hu5 hN14
      have hA25 := hA24.tag0 hu5 hN24
      have hN15 := tag_stays ht5 hN14 hA14.1
      have hN25 := tag_stays ht5 hN24 hA24.1
      obtain ⟨hU5, hT5⟩ := upd_chain hU4 hT4 hu5 ht5
      clear hS4 hA14 hA24 hu5 ht5 hU4 hT4 HL4 HY4 hN14 hN24 r0 r1 r2 hn2
      obtain ⟨hn1, a0, -, a1, -, a2, -⟩ := hA15.three
      obtain ⟨hn2, r0, -, r1, -, r2, -⟩ := hA25.three
      have hW5 := hS5.way i hin
      have hmS := hW5.seen
      have hmE := hW5.enters
      have hmN := hW5.now
      have hmA := hW5.ahead
      go_wp2_with (first | ((with_reducible refine (HSN _ _ hW5).out.mono ?_); intro e w6 h6; obtain ⟨rfl, hP6⟩ := h6; obtain ⟨tag6, W6, ev6, hS6, hu6, ht6⟩ := hS5.postWay i hin _ hP6; have hA16 := hA15.tag0 hu6 hN15; have hN16 := tag_stays ht6 hN15 hA15.1; obtain ⟨hU6, hT6⟩ := upd_chain hU5 hT5 hu6 ht6))
      clear hS5 hA15 hA25 hu6 ht6 hU5 hT5 hN15 hN25 r0 r1 r2 a0 a1 a2 hn1 hn2 hmS hmE hmA hW5 hP6
      obtain ⟨hn1, a0, -, a1, -, a2, -⟩ := hA16.three
      obtain ⟨hg6, c0, z0, c1, z1, c2, z2, c3, z3, c4, z4, c5, z5⟩ := hS6.blk.cells6
      have hW6 := hS6.drew.way i hin
      simp only [put_same] at hW6
      have hNw := Lib.hid (gn_now _ _ _ _ _ _ hW6)
      generalize hmm : gnow (x.ru i) (x.gt i ++ [(rk, rt, rx)]) = mm at *
      have HMM := Lib.hid hmm
      clear hmm hW6
      have hMk := Lib.hid (me_mark _ _ _ _ _ _ _ i mm _ hS6.drew.mer him)
      go_cut [] (fun wx => SrPost tag6 V g { x with rd := put x.rd i (x.rd i + 1), is := put x.is i 0, tl := put x.tl i (add x.clock (max x.timeout 0)), evs := x.evs ++ [.el late i rk rt rx], gt := put x.gt i (x.gt i ++ [(rk, rt, rx)]), K := put x.K i mm } w6 wx)
      case first =>
        go_region_with (first | (go_at_call 91; (with_reducible refine hMk.out.mono ?_); rintro e wm ⟨rfl, hPm⟩) | ((with_reducible refine hNw.out.mono ?_); rintro e wn ⟨rfl, rfl⟩))
        all_goals (go_wp2_with fail; go_meet; exact SrPost.after (Below.refl _ _).drew (SrPost.of (hS6.drew.toMer _ _ _ hPm) hPm.2 (fun k hk e => by rw [hS6.t3 k e]; omega)))
      case rest =>
        obtain ⟨tag7, W7, ev7, hS7, hu7, ht7⟩ := hcut
        have hA17 := hA16.tag0 hu7 hN16
        have hN17 := tag_stays ht7 hN16 hA16.1
        obtain ⟨hU7, hT7⟩ := upd_chain hU6 hT6 hu7 ht7
        clear hS6 hA16 hu7 ht7 hU6 hT6 hN16 a0 a1 a2 hn1 hg6 c0 z0 c1 z1 c2 z2 c3 z3 c4 z4 c5 z5 hNw hMk
        obtain ⟨hn1, a0, -, a1, -, a2, -⟩ := hA17.three
        obtain ⟨hg7, c0, z0, c1, z1, c2, z2, c3, z3, c4, z4, c5, z5⟩ := hS7.blk.cells6
        have hW7 := hS7.drew.way i hin
        simp only [put_same] at hW7
        have hNw := Lib.hid (gn_now _ _ _ _ _ _ hW7)
        rw [HMM.out] at hNw
        clear hW7
        have hLo := Lib.hid (al_local _ _ _ _ _ _ i mm _ hS7.drew.ali him)
        go_wp2_with fail
        go_cut [] (fun wx => SrPost tag7 V g { x with rd := put x.rd i (x.rd i + 1), is := put x.is i 0, tl := put x.tl i (add x.clock (max x.timeout 0)), evs := x.evs ++ [.el late i rk rt rx], gt := put x.gt i (x.gt i ++ [(rk, rt, rx)]), K := put x.K i mm, L := put x.L i mm } wc wx)
        case first =>
          go_region_with (first | (go_at_call 114; (with_reducible refine hLo.out.mono ?_); rintro e wm ⟨rfl, hPm⟩) | ((with_reducible refine hNw.out.mono ?_); rintro e wn ⟨rfl, rfl⟩))
          all_goals (go_wp2_with fail; go_meet; exact SrPost.after (Below.refl _ _).drew (SrPost.of (hS7.drew.toAli _ _ hPm) hPm.2 (fun k hk e => by
            rcases e with rfl | rfl
            · rw [hS7.t4.1]; omega
            · rw [hS7.t4.2]; omega)))
        case rest =>
          obtain ⟨tag8, W8, ev8, hS8, hu8, ht8⟩ := hcut
          obtain ⟨hU8, hT8⟩ := upd_chain hU7 hT7 hu8 ht8
          clear hS7 hA17 hu8 ht8 hU7 hT7 hN17 a0 a1 a2 hn1 hg7 c0 z0 c1 z1 c2 z2 c3 z3 c4 z4 c5 z5 hNw hLo
          have hgo : { x with rd := put x.rd i (x.rd i + 1), is := put x.is i 0, tl := put x.tl i (add x.clock (max x.timeout 0)), evs := x.evs ++ [.el late i rk rt rx], gt := put x.gt i (x.gt i ++ [(rk, rt, rx)]), K := put x.K i mm, L := put x.L i mm } = x.gone i := by
            unfold Lo.gone
            rw [hE.out, HM2.out, HRR.out]
          rw [hgo] at hS8
          clear hgo
          go_wp2_with (first | (go_at_call 52; (with_reducible refine (HS8 _ _ _ _ hS8).out.mono ?_); rintro e w9 ⟨rfl, tag9, W9, ev9, hS9, hu9, ht9⟩; obtain ⟨hU9, hT9⟩ := upd_chain hU8 hT8 hu9 ht9) | (go_at_call 53; (with_reducible refine (HA9 _ _ _ _ hS9).out.mono ?_); rintro e w10 ⟨rfl, hP10⟩))
          go_end0
          exact ⟨rfl, SrPost.trans hU9 hT9 hP10⟩
theorem so_poll (tag : Nat → Nat) (W : Nat → Nat → Prop) (ev : Value) (V : SrcV) (g : Nat) (x : Lo) (i : Nat) (w : World) (h : SrcC w tag W ev V g x) (hm : x.n ≤ x.m) (hs : ∀ j, j < x.n → 0 ≤ x.is j ∧ x.is j ≤ 3) (hr : x.refused i = false)
    (hrd : x.rd i < (x.re i).length) (hfew : (x.re i).length ≤ 400) (hok : rcheck (x.ru i) = 0) (hfit : (x.ru i).Fits) (hgt : InR (x.gt i)) (hgl : (x.gt i).length ≤ 400) (hir : in64 (x.nxt i).1 ∧ in64 (x.nxt i).2.1) (hck : in64 x.clock) (htm : in64 x.timeout)
    (hml : in64 (ml ((x.gone i).settle i).K ((x.gone i).settle i).S x.m)) (hb : x.evs.length ≤ 90000) :
    Calls Tryz.prog 63 #[.pointer (some ⟨g, 0, none⟩), .int .i64 i] w fun e w' => e = .returned (.tuple #[]) ∧ SrPost tag V g (x.poll i) w w' :=
  (so_poll0 _ _ _ _ _ _ _ _ (h.retag 0) (fun _ hb => retag_new hb) hm hs hr hrd hfew hok hfit hgt hgl hir hck htm hml hb).mono fun e w' ⟨h1, h2⟩ => ⟨h1, h2.un⟩
end Go.Proofs.YtoecikeleoaecaaGreat
