/- The walk of JudgeRows. -/
import Derived.Test.YtmimfkhkilijcaaGreatKSp25
import Derived.Test.YtmimfkhkilijcaaGreatJud2
import Derived.Test.YtmimfkhkilijcaaGreatRaw25
import Derived.Test.YtmimfkhkilijcaaGreatSameR
import Derived.Test.YtmimfkhkilijcaaGreatKBase
import Derived.Deep.DeepCutAuto
namespace Go.Proofs.YtmimfkhkilijcaaGreat
set_option maxRecDepth 4000
open Go.ChangeShapes Go.WideShapes Go.ChangeAt Go.RowKit
open PHist PRing PSat PClamp PBound PFrame PVar PCrc PSign PTree PEv
set_option linter.unusedVariables false
set_option linter.unusedSimpArgs false

/-- Three rows of the call's own: events, records, and errors. -/
structure Jr (B : Nat) (w : World) (A v u : Value) (L : List Ev) (rs : List R) (es : List Int) : Prop where
  all : Sl B w 1 A L.length (L.map evv)
  two : Two25 B w v u rs es
  ap : ∀ k, A.ownBlock = some k → v.ownBlock ≠ some k ∧ u.ownBlock ≠ some k
section
variable {B : Nat} {w w1 w' : World} {A v u : Value} {L : List Ev} {rs : List R} {es : List Int}
theorem Jr.onW (h : Jr B w A v u L rs es) (hb : Below w.heap.size w w') : Jr B w' A v u L rs es := ⟨h.all.onW hb, h.two.onW hb, h.ap⟩
theorem Jr.one (h : Jr B w A v u L rs es) (hb : Below w.heap.size w w1) (e : Ev) {A' : Value} (k1 : Sl B w' 1 A' (L.length + 1) (L.map evv ++ [evv e])) (k2 : Upd (fun k => A.ownBlock = some k) w1 w') (k3 : ∀ k, A'.ownBlock = some k → A.ownBlock = some k ∨ w1.heap.size ≤ k) : Jr B w' A' v u (L ++ [e]) rs es := by
  have h2 := h.two.onW hb
  refine ⟨by rw [List.length_append, List.map_append]; exact k1, ⟨h2.sr.upd k2 (fun k hk e => (h.ap k e).1 hk), h2.se.upd k2 (fun k hk e => (h.ap k e).2 hk), h2.ap⟩, fun k hk => ?_⟩
  rcases k3 k hk with h3 | h3
  · exact h.ap k h3
  · refine ⟨fun e => ?_, fun e => ?_⟩
    · have := (h2.sr.lt k e).2; omega
    · have := (h2.se.lt k e).2; omega
theorem Jr.radd (h : Jr B w A v u L rs es) (hb : Below w.heap.size w w1) (r : R) {v' : Value} (k1 : Sl B w' 3 v' (rs.length + 1) (rv rs ++ rcells r)) (k2 : Upd (fun k => v.ownBlock = some k) w1 w') (k3 : ∀ k, v'.ownBlock = some k → v.ownBlock = some k ∨ w1.heap.size ≤ k) : Jr B w' A v' u L (rs ++ [r]) es := by
  have ha := h.all.onW hb
  refine ⟨ha.upd k2 (fun k hk e => (h.ap k hk).1 e), h.two.radd hb r k1 k2 k3, fun k hk => ⟨fun e => ?_, (h.ap k hk).2⟩⟩
  rcases k3 k e with h3 | h3
  · exact (h.ap k hk).1 h3
  · have := (ha.lt k hk).2; omega
theorem Jr.eadd (h : Jr B w A v u L rs es) (hb : Below w.heap.size w w1) (x : Int) {u' : Value} (k1 : Sl B w' 1 u' (es.length + 1) (iv es ++ [.int .i64 x])) (k2 : Upd (fun k => u.ownBlock = some k) w1 w') (k3 : ∀ k, u'.ownBlock = some k → u.ownBlock = some k ∨ w1.heap.size ≤ k) : Jr B w' A v u' L rs (es ++ [x]) := by
  have ha := h.all.onW hb
  refine ⟨ha.upd k2 (fun k hk e => (h.ap k hk).2 e), h.two.eadd hb x k1 k2 k3, fun k hk => ⟨(h.ap k hk).1, fun e => ?_⟩⟩
  rcases k3 k e with h3 | h3
  · exact (h.ap k hk).2 h3
  · have := (ha.lt k hk).2; omega
end
theorem info_ev25 : (Tryz.prog.info? 61).map (fun i => (i.zero, i.size, i.bytes)) = some (some .nilIface, 1, 16) := by kernel_rfl
theorem rises_snoc (m : Int) (l : List Ev) (e : Ev) : risesAt m (l ++ [e]) = (risesAt m l && risesAt (lastFrom m l) [e]) := risesAt_append l [e] m
theorem tagged_snoc (m : Int) (l : List Ev) (e : Ev) : taggedAt m (l ++ [e]) = (taggedAt m l && taggedAt (lastFrom m l) [e]) := taggedAt_append l [e] m
theorem last_snoc (m : Int) (l : List Ev) (e : Ev) : lastFrom m (l ++ [e]) = markOf (lastFrom m l) e := lastFrom_append m l [e]
theorem lates_snoc (l : List Ev) (e : Ev) : lates (l ++ [e]) = lates l + (if Ev.lateB e then 1 else 0) := by
  rw [lates_append]
  congr 1
  unfold lates
  cases he : Ev.lateB e <;> simp [he]

theorem recsOf_in {p : Int} : ∀ {l : List Ev}, (∀ e ∈ l, Ev.ok e) → ∀ r ∈ recsOf p l, (-9223372036854775808 ≤ r.1 ∧ r.1 ≤ 9223372036854775807) ∧ (-9223372036854775808 ≤ r.2.1 ∧ r.2.1 ≤ 9223372036854775807) := by
  intro l h r hr
  obtain ⟨e, he, hr⟩ := List.mem_flatMap.1 hr
  have := h e he
  cases e with
  | el late q k t x =>
    have hr' : r ∈ (if q = p then [(k, t, x)] else []) := hr
    split at hr'
    · rw [List.mem_singleton.1 hr']; exact ⟨this.2.1, this.2.2⟩
    · cases hr'
  | mark n => cases hr
  | fault q e => cases hr
theorem errsOf_in {p : Int} : ∀ {l : List Ev}, (∀ e ∈ l, Ev.ok e) → ∀ r ∈ errsOf p l, -9223372036854775808 ≤ r ∧ r ≤ 9223372036854775807 := by
  intro l h r hr
  obtain ⟨e, he, hr⟩ := List.mem_flatMap.1 hr
  have := h e he
  cases e with
  | el late q k t x => cases hr
  | mark n => cases hr
  | fault q e =>
    have hr' : r ∈ (if q = p then [e] else []) := hr
    split at hr'
    · rw [List.mem_singleton.1 hr']; exact this.2
    · cases hr'
set_option maxRecDepth 100000 in
set_option maxHeartbeats 8000000 in
theorem walk_JudgeRows (w : World) (a0 : Option Addr) (n0 c0 : Nat) (l0 : List (Int × Int × (Int × Int × ByteArray × Unit) × Bool × Int × Int × Unit)) (w0 : Rd w (.sl (.pair (.int .i64) (.pair (.int .i64) (.pair (.pair (.int .i64) (.pair (.int .i64) (.pair .str .unit))) (.pair .bool (.pair (.int .i64) (.pair (.int .i64) .unit))))))) [.slice a0 n0 c0] l0) (a1 : Int) (w1 : (Lit.int .i64 a1).wf = true) :
    Calls Tryz.prog 6 #[.slice a0 n0 c0, .int .i64 a1] w fun e w' => e = .returned (.bool true) ∧ Below w.heap.size w w' := by
  obtain ⟨hn, hnc, hcm, hrow, hq⟩ := Rd.xs25 w0
  have HSP := fun wx => Lib.hid (speaks25 wx)
  have HN := Lib.hid hn
  have HQ := Lib.hid hq
  clear w0 hn hq
  by_cases hbig : 100 < n0
  · have hb1 : (100 : Int) < (n0 : Int) := by omega
    clear hbig
    go_enter Tryz.func6, Tryz.ntmps6
    go_wp2_with (go_at_call 8; (with_reducible refine (HSP _).out.mono ?_); rintro e w1 ⟨rfl, hb1⟩)
    go_ret
    exact ⟨rfl, hb1⟩
  have hsm : (n0 : Int) ≤ 100 := by omega
  have hsmn : n0 ≤ 100 := by omega
  clear hbig
  obtain ⟨i0, hi, hz0, hz1, hz2⟩ := info_parts info_rec
  obtain ⟨j0, hj, hy0, hy1, hy2⟩ := info_parts info_int
  obtain ⟨k0, hk, hx0, hx1, hx2⟩ := info_parts info_ev25
  obtain ⟨L, hL⟩ : ∃ L, l0.map xe25 = L := ⟨_, rfl⟩
  have hLl : L.length = n0 := by rw [← hL, List.length_map]; exact HN.out.symm
  have HLL := Lib.hid hLl
  have HLX := Lib.hid hL
  clear hL hLl
  go_enter Tryz.func6, Tryz.ntmps6
  go_wp2_with (go_at_call 8; (with_reducible refine (HSP _).out.mono ?_); rintro e wz ⟨rfl, hbz⟩)
  go_loopw [5, 6, 7, 8, 9, 10, 11, 12, 27] (fun A ri tg la nw mk v u i wr => ∃ k : Nat, i = .int .i64 k ∧ k ≤ n0 ∧ ri = .bool (risesAt (-9223372036854775808) (L.take k)) ∧ tg = .bool (taggedAt (-9223372036854775808) (L.take k)) ∧ la = .int .i64 (lates (L.take k) : Nat) ∧ nw = .int .i64 (lastFrom (-9223372036854775808) (L.take k)) ∧ mk = .int .i64 (lastFrom (-9223372036854775808) (L.take k)) ∧ Jr wz.heap.size wr A v u (L.take k) (recsOf a1 (L.take k)) (errsOf a1 (L.take k)) ∧ Below wz.heap.size wz wr) (fun _ _ _ _ _ _ _ _ i _ => n0 - (intOf i).toNat)
  case atStart => exact ⟨0, rfl, Nat.zero_le _, rfl, rfl, rfl, rfl, rfl, ⟨Sl.nil _ _ _, ⟨Sl.nil _ _ _, Sl.nil _ _ _, fun k h => by simp [Value.ownBlock] at h⟩, fun k h => by simp [Value.ownBlock] at h⟩, Below.refl _ _⟩
  case round =>
    obtain ⟨k, rfl, hk2, rfl, rfl, rfl, rfl, rfl, hJ, hb⟩ := hrel
    by_cases hlt : k < n0
    · have hkl : k < l0.length := by rw [← HN.out]; exact hlt
      have hkL : k < L.length := by rw [HLL.out]; exact hlt
      have hro := hrow.below (hbz.trans (hb.mono hbz.size))
      obtain ⟨b, off, rfl, -, -⟩ := hro.at_ k hkl
      have hev : L[k] = xe25 l0[k] := by simp only [← HLX.out, List.getElem_map]
      have hwB := hb.size
      have hT := List.take_succ_eq_append_getElem hkL
      rw [hev] at hT
      obtain ⟨hbl, p0, p1, p2, p3, p4, p5, p6, p7⟩ := RowX.cells hro k hkl rfl
      generalize l0[k] = d at *
      obtain ⟨kind, part, ⟨rk, rt, x, u1⟩, late, at_, er, u2⟩ := d
      simp only at p0 p1 p2 p3 p4 p5 p6 p7
      have HR := Lib.hid (rises_snoc (-9223372036854775808) (L.take k) (xe25 (kind, part, (rk, rt, x, u1), late, at_, er, u2)))
      have HTG := Lib.hid (tagged_snoc (-9223372036854775808) (L.take k) (xe25 (kind, part, (rk, rt, x, u1), late, at_, er, u2)))
      have HLS := Lib.hid (last_snoc (-9223372036854775808) (L.take k) (xe25 (kind, part, (rk, rt, x, u1), late, at_, er, u2)))
      have HLA := Lib.hid (lates_snoc (L.take k) (xe25 (kind, part, (rk, rt, x, u1), late, at_, er, u2)))
      have HRC := Lib.hid (recsOf_snoc a1 (L.take k) (xe25 (kind, part, (rk, rt, x, u1), late, at_, er, u2)))
      have HEC := Lib.hid (errsOf_snoc a1 (L.take k) (xe25 (kind, part, (rk, rt, x, u1), late, at_, er, u2)))
      rw [← hT] at HR HTG HLS HLA HRC HEC
      have hrl := recsOf_len a1 (L.take k)
      have hel := errsOf_len a1 (L.take k)
      have hal := lates_le (L.take k)
      have hPl : (L.take k).length = k := by rw [List.length_take]; omega
      rw [hPl] at hrl hel hal
      have HPL := Lib.hid hPl
      have HTT := Lib.hid hT
      clear hT hPl hev hro
      generalize risesAt (-9223372036854775808) (L.take k) = R at *
      generalize taggedAt (-9223372036854775808) (L.take k) = T at *
      generalize lates (L.take k) = la at *
      generalize lastFrom (-9223372036854775808) (L.take k) = M at *
      generalize recsOf a1 (L.take k) = R0 at *
      generalize errsOf a1 (L.take k) = E0 at *
      have hnA := hJ.all.1
      rw [List.length_map] at hnA
      obtain ⟨aA, cA, rfl⟩ := hJ.all.shape
      obtain ⟨av, cv, rfl⟩ := hJ.two.sr.shape
      obtain ⟨au, cu, rfl⟩ := hJ.two.se.shape
      have HJ : Hid (Jr wz.heap.size wr (.slice aA (L.take k).length cA) (.slice av R0.length cv) (.slice au E0.length cu) (L.take k) R0 E0) := hJ
      have hJl := hJ.all
      rw [HPL.out] at hJl
      clear hJ hnA
      rw [HPL.out]
      have HJ1 : Hid (Jr wz.heap.size wr (.slice aA k cA) (.slice av R0.length cv) (.slice au E0.length cu) (L.take k) R0 E0) := by have := HJ.out; rw [HPL.out] at this; exact this
      have hlen1 : R0.length + 1 ≤ maxLen := by unfold maxLen; omega
      have hlen2 : E0.length + 1 ≤ maxLen := by unfold maxLen; omega
      generalize L.take k = P at *
      clear HJ hJl
      by_cases e1 : kind = 1
      · subst e1
        have hxe : xe25 (1, part, (rk, rt, x, u1), late, at_, er, u2) = .mark at_ := rfl
        rw [hxe] at HR HTG HLS HLA HRC HEC HTT
        have HOF : ∀ wx, Hid (Calls Tryz.prog 24 #[.agg #[.int .i64 1, .int .i64 part, .int .i64 rk, .int .i64 rt, .string x, .bool late, .int .i64 at_, .int .i64 er]] wx fun e w' => e = .returned (.iface 79 (.agg #[.int .i64 at_])) ∧ Below wx.heap.size wx w') := fun wx => by have h := law_ofx 1 part rk rt x late at_ er wx; unfold evof25 at h; rw [if_pos rfl] at h; exact h
        have hba := (Below.refl wr.heap.size wr).alloc (Nat.le_refl _) (.cells #[.int .i64 1, .int .i64 part, .int .i64 rk, .int .i64 rt, .string x, .bool late, .int .i64 at_, .int .i64 er] 59)
        have hbox := At.alloc wr [.int .i64 1, .int .i64 part, .int .i64 rk, .int .i64 rt, .string x, .bool late, .int .i64 at_, .int .i64 er] 59
        have hHJ := HJ1.out.onW hba
        have hAlt := HJ1.out.all.lt
        have hwa : (wr.alloc (.cells #[.int .i64 1, .int .i64 part, .int .i64 rk, .int .i64 rt, .string x, .bool late, .int .i64 at_, .int .i64 er] 59)).heap.size = wr.heap.size + 1 := World.size_alloc _ _
        have HC2 := Lib.hid (hb.alloc hwB (.cells #[.int .i64 1, .int .i64 part, .int .i64 rk, .int .i64 rt, .string x, .bool late, .int .i64 at_, .int .i64 er] 59))
        go_upto_region 13 with (first | (go_at_call 24; (with_reducible refine (HOF _).out.mono ?_); rintro e wO ⟨rfl, hbO⟩; have hJO := hHJ.onW hbO; have hbxO := hbox.on hbO; have hwO := hbO.size; have hkO : Sl wz.heap.size wO 1 (.slice aA k cA) k (P.map evv) := (congrArg (fun N => Sl wz.heap.size wO 1 (.slice aA k cA) N (P.map evv)) HPL.out).mp hJO.all) | (at_builtin; refine wpList_append_sl _ rfl (.tmp 31) (.tmp 34) 31 31 rfl 61 k0 _ 16 Tryz.underlying31 hk hx0 hx1 hx2 rfl rfl (hkO.alloc _) _ 1 [.iface 79 (.agg #[.int .i64 at_])] rfl (src_oneN Tryz.underlying31 _ _ _ _ rfl rfl) (by unfold maxLen; omega) (by omega) (by simp; omega) ?_; intro A1 w5 k1 k2 k3; obtain ⟨aB, cB, rfl⟩ := k1.shape) | fail)
        have hbO2 : Below wO.heap.size wO (wO.alloc (.cells #[.iface 79 (.agg #[.int .i64 at_])] 61)) := (Below.refl _ _).alloc (Nat.le_refl _) _
        have hJ5 := hJO.one hbO2 (.mark at_) (by rw [HPL.out]; exact k1) k2 k3
        have hb5 : Below wz.heap.size wz w5 := ((on_below HC2.out hbO).trans (hbO2.mono (on_below HC2.out hbO).size)).upd k2 (by simp; omega) (fun i _ hi => (hAlt i hi).1)
        have hbx5 := (hbxO.on hbO2).upd k2 (fun e => by have := (hAlt _ e).2; omega)
        obtain ⟨hg5, f0, f1, f2, f3, f4, f5, f6, f7⟩ := hbx5.eight
        have hwz5 := hb5.size
        clear hJO hbxO hkO hHJ hbox hba k1 k2 k3 hbO hbO2 HOF hxe
        cases R
        · go_wp2
          go_region
          go_wp2
          go_roundw
          case rel => exact ⟨k + 1, by go_num, hlt, by rw [HR.out]; rfl, by rw [HTG.out]; simp [taggedAt], by rw [HLA.out]; rfl, by rw [HLS.out]; rfl, by rw [HLS.out]; rfl, by rw [HRC.out, HEC.out, HTT.out, show recE a1 (.mark at_) = [] from rfl, show errE a1 (.mark at_) = [] from rfl, List.append_nil, List.append_nil]; exact hJ5.onW ((Below.refl _ _).drew), hb5.drew⟩
          case measure => simp [intOf] <;> omega
        · go_wp2
          go_region
          go_wp2
          go_roundw
          case rel => exact ⟨k + 1, by go_num, hlt, by rw [HR.out]; simp [risesAt], by rw [HTG.out]; simp [taggedAt], by rw [HLA.out]; rfl, by rw [HLS.out]; rfl, by rw [HLS.out]; rfl, by rw [HRC.out, HEC.out, HTT.out, show recE a1 (.mark at_) = [] from rfl, show errE a1 (.mark at_) = [] from rfl, List.append_nil, List.append_nil]; exact hJ5.onW ((Below.refl _ _).drew), hb5.drew⟩
          case measure => simp [intOf] <;> omega
      by_cases e2 : kind = 2
      · subst e2
        clear e1
        have hxe : xe25 (2, part, (rk, rt, x, u1), late, at_, er, u2) = .fault part er := rfl
        rw [hxe] at HR HTG HLS HLA HRC HEC HTT
        have HOF : ∀ wx, Hid (Calls Tryz.prog 24 #[.agg #[.int .i64 2, .int .i64 part, .int .i64 rk, .int .i64 rt, .string x, .bool late, .int .i64 at_, .int .i64 er]] wx fun e w' => e = .returned (.iface 123 (.agg #[.int .i64 part, .int .i64 er])) ∧ Below wx.heap.size wx w') := fun wx => by have h := law_ofx 2 part rk rt x late at_ er wx; unfold evof25 at h; rw [if_neg (by omega), if_pos rfl] at h; exact h
        have hba := (Below.refl wr.heap.size wr).alloc (Nat.le_refl _) (.cells #[.int .i64 2, .int .i64 part, .int .i64 rk, .int .i64 rt, .string x, .bool late, .int .i64 at_, .int .i64 er] 59)
        have hbox := At.alloc wr [.int .i64 2, .int .i64 part, .int .i64 rk, .int .i64 rt, .string x, .bool late, .int .i64 at_, .int .i64 er] 59
        have hHJ := HJ1.out.onW hba
        have hAlt := HJ1.out.all.lt
        have hwa : (wr.alloc (.cells #[.int .i64 2, .int .i64 part, .int .i64 rk, .int .i64 rt, .string x, .bool late, .int .i64 at_, .int .i64 er] 59)).heap.size = wr.heap.size + 1 := World.size_alloc _ _
        have HC2 := Lib.hid (hb.alloc hwB (.cells #[.int .i64 2, .int .i64 part, .int .i64 rk, .int .i64 rt, .string x, .bool late, .int .i64 at_, .int .i64 er] 59))
        go_upto_region 13 with (first | (go_at_call 24; (with_reducible refine (HOF _).out.mono ?_); rintro e wO ⟨rfl, hbO⟩; have hJO := hHJ.onW hbO; have hbxO := hbox.on hbO; have hwO := hbO.size; have hkO : Sl wz.heap.size wO 1 (.slice aA k cA) k (P.map evv) := (congrArg (fun N => Sl wz.heap.size wO 1 (.slice aA k cA) N (P.map evv)) HPL.out).mp hJO.all) | (at_builtin; refine wpList_append_sl _ rfl (.tmp 31) (.tmp 34) 31 31 rfl 61 k0 _ 16 Tryz.underlying31 hk hx0 hx1 hx2 rfl rfl (hkO.alloc _) _ 1 [.iface 123 (.agg #[.int .i64 part, .int .i64 er])] rfl (src_oneN Tryz.underlying31 _ _ _ _ rfl rfl) (by unfold maxLen; omega) (by omega) (by simp; omega) ?_; intro A1 w5 k1 k2 k3; obtain ⟨aB, cB, rfl⟩ := k1.shape) | fail)
        have hbO2 : Below wO.heap.size wO (wO.alloc (.cells #[.iface 123 (.agg #[.int .i64 part, .int .i64 er])] 61)) := (Below.refl _ _).alloc (Nat.le_refl _) _
        have hJ5 := hJO.one hbO2 (.fault part er) (by rw [HPL.out]; exact k1) k2 k3
        have hb5 : Below wz.heap.size wz w5 := ((on_below HC2.out hbO).trans (hbO2.mono (on_below HC2.out hbO).size)).upd k2 (by simp; omega) (fun i _ hi => (hAlt i hi).1)
        have hbx5 := (hbxO.on hbO2).upd k2 (fun e => by have := (hAlt _ e).2; omega)
        obtain ⟨hg5, f0, f1, f2, f3, f4, f5, f6, f7⟩ := hbx5.eight
        have hwz5 := hb5.size
        clear hJO hbxO hkO hHJ hbox hba k1 k2 k3 hbO hbO2 HOF hxe
        by_cases ep : part = a1
        · subst ep
          go_wp2_with (at_builtin; refine wpList_append_sl _ rfl (.tmp 85) (.tmp 88) 55 55 rfl 3 j0 _ 8 Tryz.underlying55 hj hy0 hy1 hy2 rfl rfl (hJ5.two.se.alloc _) _ 1 [.int .i64 er] rfl (src_oneN Tryz.underlying55 _ _ _ _ rfl rfl) hlen2 (by omega) (by simp; omega) ?_; intro u1 w6 q1 q2 q3; obtain ⟨aU, cU, rfl⟩ := q1.shape)
          go_roundw
          case rel => exact ⟨k + 1, by go_num, hlt, by rw [HR.out]; simp [risesAt], by rw [HTG.out]; simp [taggedAt], by rw [HLA.out]; rfl, by rw [HLS.out]; rfl, by rw [HLS.out]; rfl, by rw [HRC.out, HEC.out, HTT.out, show recE part (.fault part er) = [] from rfl, show errE part (.fault part er) = [er] from if_pos rfl, List.append_nil]; exact hJ5.eadd ((Below.refl _ _).alloc (Nat.le_refl _) _) er q1 q2 q3, (hb5.alloc hwz5 _).upd q2 (by simp; omega) (fun i _ hi => (hJ5.two.se.lt i hi).1)⟩
          case measure => simp [intOf] <;> omega
        · go_wp2
          go_roundw
          case rel => exact ⟨k + 1, by go_num, hlt, by rw [HR.out]; simp [risesAt], by rw [HTG.out]; simp [taggedAt], by rw [HLA.out]; rfl, by rw [HLS.out]; rfl, by rw [HLS.out]; rfl, by rw [HRC.out, HEC.out, HTT.out, show recE a1 (.fault part er) = [] from rfl, show errE a1 (.fault part er) = [] from if_neg ep, List.append_nil, List.append_nil]; exact hJ5, hb5⟩
          case measure => simp [intOf] <;> omega
      · skip
        have hxe : xe25 (kind, part, (rk, rt, x, u1), late, at_, er, u2) = .el late part rk rt x.data.toList := by unfold xe25 evof25; rw [if_neg e1, if_neg e2]
        rw [hxe] at HR HTG HLS HLA HRC HEC HTT
        have HOF : ∀ wx, Hid (Calls Tryz.prog 24 #[.agg #[.int .i64 kind, .int .i64 part, .int .i64 rk, .int .i64 rt, .string x, .bool late, .int .i64 at_, .int .i64 er]] wx fun e w' => e = .returned (.iface 81 (.agg #[.int .i64 part, .int .i64 rk, .int .i64 rt, .string x, .bool late])) ∧ Below wx.heap.size wx w') := fun wx => by have h := law_ofx kind part rk rt x late at_ er wx; unfold evof25 at h; rw [if_neg e1, if_neg e2] at h; exact h
        have hba := (Below.refl wr.heap.size wr).alloc (Nat.le_refl _) (.cells #[.int .i64 kind, .int .i64 part, .int .i64 rk, .int .i64 rt, .string x, .bool late, .int .i64 at_, .int .i64 er] 59)
        have hbox := At.alloc wr [.int .i64 kind, .int .i64 part, .int .i64 rk, .int .i64 rt, .string x, .bool late, .int .i64 at_, .int .i64 er] 59
        have hHJ := HJ1.out.onW hba
        have hAlt := HJ1.out.all.lt
        have hwa : (wr.alloc (.cells #[.int .i64 kind, .int .i64 part, .int .i64 rk, .int .i64 rt, .string x, .bool late, .int .i64 at_, .int .i64 er] 59)).heap.size = wr.heap.size + 1 := World.size_alloc _ _
        have HC2 := Lib.hid (hb.alloc hwB (.cells #[.int .i64 kind, .int .i64 part, .int .i64 rk, .int .i64 rt, .string x, .bool late, .int .i64 at_, .int .i64 er] 59))
        go_upto_region 13 with (first | (go_at_call 24; (with_reducible refine (HOF _).out.mono ?_); rintro e wO ⟨rfl, hbO⟩; have hJO := hHJ.onW hbO; have hbxO := hbox.on hbO; have hwO := hbO.size; have hkO : Sl wz.heap.size wO 1 (.slice aA k cA) k (P.map evv) := (congrArg (fun N => Sl wz.heap.size wO 1 (.slice aA k cA) N (P.map evv)) HPL.out).mp hJO.all) | (at_builtin; refine wpList_append_sl _ rfl (.tmp 31) (.tmp 34) 31 31 rfl 61 k0 _ 16 Tryz.underlying31 hk hx0 hx1 hx2 rfl rfl (hkO.alloc _) _ 1 [.iface 81 (.agg #[.int .i64 part, .int .i64 rk, .int .i64 rt, .string x, .bool late])] rfl (src_oneN Tryz.underlying31 _ _ _ _ rfl rfl) (by unfold maxLen; omega) (by omega) (by simp; omega) ?_; intro A1 w5 k1 k2 k3; obtain ⟨aB, cB, rfl⟩ := k1.shape) | fail)
        have hbO2 : Below wO.heap.size wO (wO.alloc (.cells #[.iface 81 (.agg #[.int .i64 part, .int .i64 rk, .int .i64 rt, .string x, .bool late])] 61)) := (Below.refl _ _).alloc (Nat.le_refl _) _
        have hJ5 := hJO.one hbO2 (.el late part rk rt x.data.toList) (by rw [HPL.out]; exact k1) k2 k3
        have hb5 : Below wz.heap.size wz w5 := ((on_below HC2.out hbO).trans (hbO2.mono (on_below HC2.out hbO).size)).upd k2 (by simp; omega) (fun i _ hi => (hAlt i hi).1)
        have hbx5 := (hbxO.on hbO2).upd k2 (fun e => by have := (hAlt _ e).2; omega)
        obtain ⟨hg5, f0, f1, f2, f3, f4, f5, f6, f7⟩ := hbx5.eight
        have hwz5 := hb5.size
        clear hJO hbxO hkO hHJ hbox hba k1 k2 k3 hbO hbO2 HOF hxe
        have hk1b : (kind == 1) = false := by simp; exact e1
        have hk2b : (kind == 2) = false := by simp; exact e2
        obtain ⟨TV, hTV⟩ : ∃ TV, taggedAt (-9223372036854775808) (L.take (k + 1)) = TV := ⟨_, rfl⟩
        have HTV := Lib.hid hTV
        rw [hTV] at HTG
        have HTE : Hid (TV = (T && (late == lateT M rt))) := by
          show TV = _
          rw [HTG.out]
          show (T && ((late == lateT M rt) && true)) = _
          rw [Bool.and_true]
        clear hTV HTG
        go_upto_region 14 with fail
        go_cut [7] (fun v wx => v = .bool TV ∧ wx = w5)
        case first =>
          clear HR HLA HLS HRC HEC HTT HTV hJ5 hb5
          cases T
          · obtain rfl : TV = false := HTE.out
            clear HTE
            go_wp2_with fail
            go_meet
            exact ⟨rfl, rfl⟩
          · by_cases hM : M = -9223372036854775808
            · have hTV2 : TV = (late == false) := by rw [HTE.out, show lateT M rt = false from decide_eq_false (fun h => h.1 hM)]; rfl
              subst hM
              have HTV2 := Lib.hid hTV2
              clear HTE hTV2
              go_wp2_with fail
              go_meet
              exact ⟨by rw [HTV2.out]; cases late <;> rfl, rfl⟩
            · have hTV2 : TV = (late == decide (rt ≤ M)) := by
                rw [HTE.out]
                show (true && (late == decide (M ≠ -9223372036854775808 ∧ rt ≤ M))) = _
                rw [Bool.true_and]
                congr 1
                exact decide_eq_decide.2 ⟨fun h => h.2, fun h => ⟨hM, h⟩⟩
              have hMb : (M != -9223372036854775808) = true := by rw [bne_iff_ne]; exact hM
              have HTV2 := Lib.hid hTV2
              clear HTE hTV2
              go_wp2_with fail
              go_meet
              exact ⟨by rw [HTV2.out], rfl⟩
        case rest =>
          obtain ⟨rfl, rfl⟩ := hcut
          clear HTE
          cases late
          · by_cases ep : part = a1
            · subst ep
              go_wp2_with (at_builtin; refine wpList_append_sl _ rfl (.tmp 61) (.tmp 64) 49 49 rfl 57 i0 _ 32 Tryz.underlying49 hi hz0 hz1 hz2 rfl rfl (hJ5.two.sr.alloc _) _ 1 _ rfl (src_recN Tryz.underlying49 _ (rk, rt, x.data.toList) _ _ rfl) hlen1 (by omega) (by simp; omega) ?_; intro v1 w6 q1 q2 q3; obtain ⟨aV, cV, rfl⟩ := q1.shape)
              go_roundw
              case rel => exact ⟨k + 1, by go_num, hlt, by rw [HR.out]; simp [risesAt], by rw [HTV.out], by rw [HLA.out]; rfl, by rw [HLS.out]; rfl, by rw [HLS.out]; rfl, by rw [HRC.out, HEC.out, HTT.out, show recE part (.el false part rk rt x.data.toList) = [(rk, rt, x.data.toList)] from if_pos rfl, show errE part (.el false part rk rt x.data.toList) = [] from rfl, List.append_nil]; exact hJ5.radd ((Below.refl _ _).alloc (Nat.le_refl _) _) (rk, rt, x.data.toList) q1 q2 q3, (hb5.alloc hwz5 _).upd q2 (by simp; omega) (fun i _ hi => (hJ5.two.sr.lt i hi).1)⟩
              case measure => simp [intOf] <;> omega
            · go_wp2
              go_roundw
              case rel => exact ⟨k + 1, by go_num, hlt, by rw [HR.out]; simp [risesAt], by rw [HTV.out], by rw [HLA.out]; rfl, by rw [HLS.out]; rfl, by rw [HLS.out]; rfl, by rw [HRC.out, HEC.out, HTT.out, show recE a1 (.el false part rk rt x.data.toList) = [] from if_neg ep, show errE a1 (.el false part rk rt x.data.toList) = [] from rfl, List.append_nil, List.append_nil]; exact hJ5, hb5⟩
              case measure => simp [intOf] <;> omega
          · by_cases ep : part = a1
            · subst ep
              go_wp2_with (at_builtin; refine wpList_append_sl _ rfl (.tmp 61) (.tmp 64) 49 49 rfl 57 i0 _ 32 Tryz.underlying49 hi hz0 hz1 hz2 rfl rfl (hJ5.two.sr.alloc _) _ 1 _ rfl (src_recN Tryz.underlying49 _ (rk, rt, x.data.toList) _ _ rfl) hlen1 (by omega) (by simp; omega) ?_; intro v1 w6 q1 q2 q3; obtain ⟨aV, cV, rfl⟩ := q1.shape)
              go_roundw
              case rel => exact ⟨k + 1, by go_num, hlt, by rw [HR.out]; simp [risesAt], by rw [HTV.out], by rw [HLA.out]; go_num, by rw [HLS.out]; rfl, by rw [HLS.out]; rfl, by rw [HRC.out, HEC.out, HTT.out, show recE part (.el true part rk rt x.data.toList) = [(rk, rt, x.data.toList)] from if_pos rfl, show errE part (.el true part rk rt x.data.toList) = [] from rfl, List.append_nil]; exact hJ5.radd ((Below.refl _ _).alloc (Nat.le_refl _) _) (rk, rt, x.data.toList) q1 q2 q3, (hb5.alloc hwz5 _).upd q2 (by simp; omega) (fun i _ hi => (hJ5.two.sr.lt i hi).1)⟩
              case measure => simp [intOf] <;> omega
            · go_wp2
              go_roundw
              case rel => exact ⟨k + 1, by go_num, hlt, by rw [HR.out]; simp [risesAt], by rw [HTV.out], by rw [HLA.out]; go_num, by rw [HLS.out]; rfl, by rw [HLS.out]; rfl, by rw [HRC.out, HEC.out, HTT.out, show recE a1 (.el true part rk rt x.data.toList) = [] from if_neg ep, show errE a1 (.el true part rk rt x.data.toList) = [] from rfl, List.append_nil, List.append_nil]; exact hJ5, hb5⟩
              case measure => simp [intOf] <;> omega
    · obtain rfl : k = n0 := by omega
      have e : L.take k = L := List.take_of_length_le (by rw [HLL.out]; exact Nat.le_refl _)
      rw [e] at hJ ⊢
      clear e
      have hok : ∀ e ∈ L, Ev.ok e := fun e he => by
        rw [← HLX.out] at he
        obtain ⟨d, hd, rfl⟩ := List.mem_map.1 he
        exact HQ.out d hd
      have hRI := recsOf_in (p := a1) hok
      have hEI := errsOf_in (p := a1) hok
      have hEL := errsOf_len a1 L
      obtain ⟨-, aA, cA, rfl, hE⟩ := rowe_of_sl hJ.all
      have hll : L.length ≤ 100 := by rw [HLL.out]; exact hsmn
      obtain ⟨N, hN⟩ : ∃ N, L.length = N := ⟨_, rfl⟩
      have HOF := Lib.hid (ju_of a1 aA N cA L wr hE hN.symm (by omega))
      have HRI := fun wx (hx : Below wr.heap.size wr wx) z hz => Lib.hid (ju_rises aA N cA L wx (hE.on hx) hN.symm (by omega) z hz)
      have HTG := fun wx (hx : Below wr.heap.size wr wx) z hz => Lib.hid (ju_tagged aA N cA L wx (hE.on hx) hN.symm (by omega) z hz)
      have HLA := fun wx (hx : Below wr.heap.size wr wx) z hz => Lib.hid (ju_lates aA N cA L wx (hE.on hx) hN.symm (by omega) z hz)
      obtain ⟨hrn, av, cv, rfl, hR0⟩ := RowR.of_sl hJ.two.sr hRI
      obtain ⟨hen, au, cu, rfl, hI0⟩ := rowi_of_sl hJ.two.se hEI
      have HSI := fun wx (hx : Below wr.heap.size wr wx) (q : Option Addr) (cq : Nat) (hq : RowI wx .i64 q (errsOf a1 L)) => Lib.hid (ref_sameI (errsOf a1 L) q au cq cu (errsOf a1 L).length (errsOf a1 L).length wx hq (hI0.below hx) rfl rfl (by omega))
      have HSR := fun wx (hx : Below wr.heap.size wr wx) (q : Option Addr) (cq : Nat) (hq : RowR wx q (recsOf a1 L)) => Lib.hid (ref_sameR q av cq cv (recsOf a1 L) (recsOf a1 L) wx hq (hR0.on hx) true (by simp))
      rw [hN]
      have HRIz := HRI
      obtain ⟨R, hR⟩ : ∃ R, risesAt (-9223372036854775808) L = R := ⟨_, rfl⟩
      obtain ⟨T, hT⟩ : ∃ T, taggedAt (-9223372036854775808) L = T := ⟨_, rfl⟩
      obtain ⟨la, hla⟩ : ∃ la, lates L = la := ⟨_, rfl⟩
      have HRIc := fun wx hx => HRI wx hx R hR
      have HTGc := fun wx hx => HTG wx hx T hT
      have HLAc := fun wx hx => HLA wx hx la hla
      rw [hR, hT, hla]
      clear HRIz HRI HTG HLA hR hT hla hN hok hE hJ hll
      generalize errsOf a1 L = E at *
      generalize recsOf a1 L = RS at *
      have hE2 : Hid (E.length ≤ L.length) := hEL
      have hlE : E.length ≤ 100 := by have := hE2.out; rw [HLL.out] at this; omega
      go_wp2_with (first | (go_at_call 25; (with_reducible refine HOF.out.mono ?_); intro e w6 h6; obtain ⟨v6, u6, rfl, hT6, hb6⟩ := h6; obtain ⟨-, a6, c6, rfl, hR6⟩ := RowR.of_sl hT6.sr hRI; obtain ⟨-, ae6, ce6, rfl, hI6⟩ := rowi_of_sl hT6.se hEI) | fail)
      obtain ⟨M, hM⟩ : ∃ M, E.length = M := ⟨_, rfl⟩
      rw [hM] at hlE HSI ⊢
      have HM := Lib.hid hM
      clear hM hEL
      have hq0 : Sl w6.heap.size w6 1 (.slice none 0 0) 0 (iv (E.take 0)) := Sl.nil _ _ _
      go_loopw [17, 99] (fun q i wx => ∃ j : Nat, i = .int .i64 j ∧ j ≤ M ∧ Sl w6.heap.size wx 1 q j (iv (E.take j)) ∧ Below w6.heap.size w6 wx) (fun _ i _ => M - (intOf i).toNat)
      case atStart => exact ⟨0, rfl, Nat.zero_le _, hq0, Below.refl _ _⟩
      case round =>
        clear hq0
        obtain ⟨j, rfl, hjM, hq, hbq⟩ := hrel
        obtain ⟨aq, cq, rfl⟩ := hq.shape
        have hwq := hbq.size
        by_cases hjl : j < M
        · have hj1 : j < E.length := by rw [HM.out]; exact hjl
          obtain ⟨b6, o6, rfl, hbb, q0⟩ := (hI6.below hbq).at_ j hj1
          have HT2 := Lib.hid (List.take_succ_eq_append_getElem hj1)
          generalize E[j] = y at *
          have hm3 : j + 1 ≤ maxLen := by unfold maxLen; omega
          go_wp2_with (at_builtin; refine wpList_append_sl _ rfl (.tmp 103) (.tmp 105) 55 55 rfl 3 j0 _ 8 Tryz.underlying55 hj hy0 hy1 hy2 rfl rfl (hq.alloc _) _ 1 [.int .i64 y] rfl (src_oneN Tryz.underlying55 _ _ _ _ rfl rfl) hm3 (by omega) (by simp; omega) ?_; intro u1 w8 q1 q2 q3; obtain ⟨aU, cU, rfl⟩ := q1.shape)
          go_roundw
          case rel => exact ⟨j + 1, by go_num, hjl, by rw [HT2.out]; unfold iv at q1 ⊢; rw [List.map_append]; exact q1, (hbq.alloc hwq _).upd q2 (by simp; omega) (fun i _ hi => (hq.lt i hi).1)⟩
          case measure => simp [intOf] <;> omega
        · obtain rfl : j = M := by omega
          have hte : E.take j = E := List.take_of_length_le (by rw [HM.out]; exact Nat.le_refl _)
          rw [hte] at hq
          obtain ⟨hqn, aq2, cq2, hqe, hIq⟩ := rowi_of_sl hq hEI
          rw [← hqn] at hqe
          cases hqe
          have hb7 := on_below hb6 hbq
          clear hte hq hqn
          have HR1 := HRIc _ hb7
          go_wp2_with (first | (go_at_call 11; (with_reducible refine HR1.out.mono ?_); rintro e wa ⟨rfl, hba'⟩; have hba := on_below hb7 hba'; have HT1 := HTGc _ hba; have hI1 := hIq.below hba') | (go_at_call 12; (with_reducible refine HT1.out.mono ?_); rintro e wb ⟨rfl, hbb'⟩; have hbb2 := on_below hba hbb'; have HL1 := HLAc _ hbb2; have hI2 := hI1.below hbb') | (go_at_call 19; (with_reducible refine HL1.out.mono ?_); rintro e wc ⟨rfl, hbc'⟩; have hbc := on_below hbb2 hbc'; have hI3 := hI2.below hbc'; have HS1 := HSR wc hbc a6 c6 (((((hR6.on hbq).on hba').on hbb').on hbc'))) | (go_at_call 26; (with_reducible refine HS1.out.mono ?_); rintro e wd ⟨rfl, hdn⟩; have hbd' := on_quiet hdn; have hbd := on_below hbc hbd'; have HS2 := HSI wd hbd aq cq (hI3.below hbd')) | (go_at_call 27; (with_reducible refine HS2.out.mono ?_); rintro e we ⟨rfl, hen'⟩))
          go_ret
          exact ⟨by simp, on_below hbz (on_below hb (on_below hbd (on_quiet hen')))⟩
end Go.Proofs.YtmimfkhkilijcaaGreat
