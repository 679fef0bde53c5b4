/- The walk of GenNows. -/
import Derived.Test.YteimpeeghjeogaaWGenOf
import Derived.Test.YteimpeeghjeogaaGenRef
namespace Go.Proofs.Yteimpeeghjeogaa
set_option maxRecDepth 4000
open Go.ChangeShapes Go.WideShapes Go.ChangeAt Go.RowKit
open PHist PRing PSat PClamp PBound PFrame PSign
set_option linter.unusedVariables false
set_option linter.unusedSimpArgs false

theorem sl_cap {B : Nat} {w : World} {size : Nat} {a : Option Addr} {n c m : Nat} {xs : List Value} (h : Sl B w size (.slice a n c) m xs) : n = m ∧ n ≤ c := by
  rcases h.2 with ⟨hx, hx0⟩ | ⟨g, off, cap, hx, _, _, h5, _⟩
  · simp only [Value.slice.injEq] at hx
    omega
  · simp only [Value.slice.injEq] at hx
    omega

theorem Sl.onB {B : Nat} {w w' : World} {size : Nat} {v : Value} {n : Nat} {xs : List Value} (h : Sl B w size v n xs) (hb : Below w.heap.size w w') : Sl B w' size v n xs :=
  h.upd (Upd.of_below hb (S := fun j => w.heap.size ≤ j) (fun _ _ h => h)) (fun j hj hs => by have := (h.lt j hj).2; omega)
theorem rowi_n {B : Nat} {w : World} {a : Option Addr} {n c : Nat} {l : List Int} (h : Sl B w 1 (.slice a n c) n (iv l)) (hn : n = l.length) (hb : ∀ x ∈ l, -9223372036854775808 ≤ x ∧ x ≤ 9223372036854775807) : RowI w .i64 a l := by
  subst hn
  obtain ⟨_, a', c', hv, hr⟩ := rowi_of_sl h hb
  simp only [Value.slice.injEq] at hv
  obtain ⟨rfl, -, -⟩ := hv
  exact hr

set_option maxHeartbeats 8000000 in
theorem walk_GenNows (w : World) (c0 : Array Value) (d0 : (Int × Int × Int × Int × Int × Unit)) (w0 : Rd w (.pair (.int .i64) (.pair (.int .i64) (.pair (.int .i64) (.pair (.int .i64) (.pair (.int .i64) .unit))))) c0.toList d0) (a1 : Option Addr) (n1 c1 : Nat) (l1 : List (Int × Int × ByteArray × Unit)) (w1 : Rd w (.sl (.pair (.int .i64) (.pair (.int .i64) (.pair .str .unit)))) [.slice a1 n1 c1] l1) :
    Calls Try.prog 4 #[.agg c0, .slice a1 n1 c1] w fun e w' => e = .returned (.bool true) ∧ Below w.heap.size w w' := by
  obtain ⟨r, hf, rfl⟩ := Rd.rul w0
  clear w0
  obtain ⟨hn0, hcap, hr, hxm⟩ := Rd.recs w1
  have hln : (l1.map toR).length = n1 := (@List.length_map _ _ l1 toR).trans hn0.symm
  generalize hrs : (List.map toR l1 : List PFrame.R) = rs at *
  clear hrs w1 hn0
  have HN := Lib.hid hln
  clear hln
  obtain ⟨z, hz⟩ : ∃ z, rcheck r = z := ⟨_, rfl⟩
  have HRC := fun w' => Lib.hid (ref_check13 r w' z hz)
  by_cases h0 : z = 0
  case neg =>
    have hz0 : (z != 0) = true := by simpa using h0
    obtain ⟨kd, bd, pc, wn, sg⟩ := r
    simp only [Rul.val] at HRC
    have hA := At.alloc w [.int .i64 kd, .int .i64 bd, .int .i64 pc, .int .i64 wn, .int .i64 sg] 23
    have hb0 : Below w.heap.size w (w.alloc (.cells #[.int .i64 kd, .int .i64 bd, .int .i64 pc, .int .i64 wn, .int .i64 sg] 23)) := (Below.refl _ _).alloc (Nat.le_refl _) _
    unfold Rul.cells
    simp only
    clear hz hf
    go_enter Try.func4, Try.ntmps4
    go_wp2_with (go_at_call 8; refine (speaks13 _).mono ?_; rintro e w1 ⟨rfl, hb1⟩; have hbw1 := on_below hb0 hb1; have hA1 := hA.on hb1; obtain ⟨hg1, c0, -, c1, -, c2, -, c3, -, c4, -⟩ := hA1.five)
    go_wp2_with (go_at_call 10; (with_reducible refine (HRC _).out.mono ?_); rintro e w3 ⟨rfl, hb3⟩; have hbw3 := on_below hbw1 hb3)
    go_ret
    exact ⟨rfl, hbw3⟩
  subst h0
  have HOK := Lib.hid hz
  have HFT := Lib.hid hf
  by_cases hbig : 40 < n1
  · obtain ⟨kd, bd, pc, wn, sg⟩ := r
    simp only [Rul.val] at HRC
    have hA := At.alloc w [.int .i64 kd, .int .i64 bd, .int .i64 pc, .int .i64 wn, .int .i64 sg] 23
    have hb0 : Below w.heap.size w (w.alloc (.cells #[.int .i64 kd, .int .i64 bd, .int .i64 pc, .int .i64 wn, .int .i64 sg] 23)) := (Below.refl _ _).alloc (Nat.le_refl _) _
    unfold Rul.cells
    simp only
    clear hz hf
    go_enter Try.func4, Try.ntmps4
    go_wp2_with (go_at_call 8; refine (speaks13 _).mono ?_; rintro e w1 ⟨rfl, hb1⟩; have hbw1 := on_below hb0 hb1; have hA1 := hA.on hb1; obtain ⟨hg1, c0, -, c1, -, c2, -, c3, -, c4, -⟩ := hA1.five)
    go_wp2_with (go_at_call 10; (with_reducible refine (HRC _).out.mono ?_); rintro e w3 ⟨rfl, hb3⟩; have hbw3 := on_below hbw1 hb3)
    go_ret
    exact ⟨rfl, hbw3⟩
  have hsm : n1 ≤ 40 := by omega
  obtain ⟨i0, hi0, hz0, hz1, hz2⟩ := info_parts info_int
  have HO := fun w' => Lib.hid (gn_of r w' hz)
  have HNV := Lib.hid (gnow_never hz)
  have hIR : InR rs := hr.tm
  have HIR := Lib.hid hIR
  have HSN := fun S t g k x w' (hx : rs[k]? = some x) h => Lib.hid (gn_seen S t g r (rs.take k) x w' h hz hf (hIR.take k) (hIR x (List.mem_of_getElem? hx)) (by have := HN.out; rw [List.length_take]; omega))
  have HSL := fun S t g L w' h (hL : L.length ≤ 800) zz hzz o ho => Lib.hid (gn_slack S t g r L w' h hz hL zz hzz o ho)
  have HNW := fun S t g L w' h => Lib.hid (gn_now S t g r L w' h)
  have HRN := fun a c k w' (hb : Below w.heap.size w w') (ha : a1 = a) (h0 : 0 < k) (hk : k ≤ n1) (hs : Short (rs.take k)) zz hzz => Lib.hid (ref_now13 r a k c (rs.take k) w' (by have := HN.out; rw [List.length_take]; omega) h0 (ha ▸ (hr.on hb).take k) hs hf hz (by have := HN.out; rw [List.length_take]; omega) zz hzz)
  have HUP := Lib.hid (gnow_up r)
  have HK := Lib.hid (rcheck_some hz)
  obtain ⟨kd, bd, pc, wn, sg⟩ := r
  simp only [Rul.val] at HRC HO HRN
  have hA := At.alloc w [.int .i64 kd, .int .i64 bd, .int .i64 pc, .int .i64 wn, .int .i64 sg] 23
  have hb0 : Below w.heap.size w (w.alloc (.cells #[.int .i64 kd, .int .i64 bd, .int .i64 pc, .int .i64 wn, .int .i64 sg] 23)) := (Below.refl _ _).alloc (Nat.le_refl _) _
  have hs0 : (w.alloc (.cells #[.int .i64 kd, .int .i64 bd, .int .i64 pc, .int .i64 wn, .int .i64 sg] 23)).heap.size = w.heap.size + 1 := by simp
  unfold Rul.cells
  simp only
  generalize hRR : (⟨kd, bd, pc, wn, sg⟩ : Rul) = rr at *
  clear hz hf hbig hIR HFT
  go_enter Try.func4, Try.ntmps4
  go_wp2_with (go_at_call 8; refine (speaks13 _).mono ?_; rintro e w1 ⟨rfl, hb1⟩; have hbw1 := on_below hb0 hb1; have hA1 := hA.on hb1; obtain ⟨hg1, c0, -, c1, -, c2, -, c3, -, c4, -⟩ := hA1.five)
  go_wp2_with (go_at_call 10; (with_reducible refine (HRC _).out.mono ?_); rintro e w3 ⟨rfl, hb3⟩; have hbw3 := on_below hbw1 hb3; have hA3 := hA1.on hb3; obtain ⟨hg3, d0, -, d1, -, d2, -, d3, -, d4, -⟩ := hA3.five)
  go_wp2_with (go_at_call 9; (with_reducible refine (HO _).out.mono ?_); intro e w4 hof; obtain ⟨t, g, S4, rfl, hG4, hS4, hb4⟩ := hof; have hmN := hG4.now; have hmS := hG4.seen; have hmE := hG4.enters; have hbw4 := on_below hbw3 hb4; have hA4 := hA3.on hb4)
  have hSB : ∀ k, S4 k → w.heap.size + 1 ≤ k := fun k hk => by
    have h1 := hS4 k hk
    have h2 := hb1.size
    have h3 := hb3.size
    omega
  clear c0 c1 c2 c3 c4 d0 d1 d2 d3 d4 hA hA1 hA3 hb0 hb1 hb3 hb4 hbw1 hbw3 hg1 hg3 hS4 HRC HO hs0
  go_loopw [7, 8, 37] (fun m v i wr => ∃ (k : Nat) (S : Nat → Prop), k ≤ n1 ∧ i = .int .i64 k ∧ m = .int .i64 (gnow rr (rs.take k)) ∧ Sl (w.heap.size + 1) wr 1 v k (iv (times (rs.take k))) ∧ GenC wr S t g rr (rs.take k) ∧ (∀ j, S j → w.heap.size + 1 ≤ j) ∧ (∀ j, v.ownBlock = some j → ¬ S j) ∧ Hid (Short (rs.take k)) ∧ At wr w.heap.size [.int .i64 kd, .int .i64 bd, .int .i64 pc, .int .i64 wn, .int .i64 sg] ∧ Below w.heap.size w wr) (fun _ _ i _ => n1 - (intOf i).toNat)
  case atStart => exact ⟨0, S4, Nat.zero_le _, rfl, by rw [show rs.take 0 = [] from rfl, HNV.out], Sl.nil _ _ _, by simpa using hG4, hSB, fun j hj => by simp [Value.ownBlock] at hj, Lib.hid (fun x hx => by simp at hx), hA4, hbw4⟩
  case round =>
    obtain ⟨k, S, hk, rfl, rfl, hsl, hG, hS, hD, HSH, hAk, hbk⟩ := hrel
    have hszk := hbk.size
    have hAlt := hAk.1
    by_cases hlt : k < n1
    · have hk1 : k < rs.length := by rw [HN.out]; exact hlt
      obtain ⟨b, off, rfl, hbb, p0, p1, p2⟩ := (hr.on hbk).at_ k hk1
      have hxk : rs[k]? = some rs[k] := List.getElem?_eq_getElem hk1
      have htk := List.take_succ_eq_append_getElem hk1
      generalize rs[k] = x at *
      obtain ⟨k1, t1, x1⟩ := x
      simp only at p0 p1 p2
      have hsx : (bstr x1).size = x1.length := by simp [ByteArray.size]
      by_cases hx : 200 < x1.length
      · have hb9 := hbk.alloc hszk (.cells #[.int .i64 k1, .int .i64 t1, .string (bstr x1)] 39)
        go_wp2
        go_ret
        exact ⟨rfl, hb9⟩
      have hx2 : x1.length ≤ 200 := by omega
      have HTK := Lib.hid htk
      have HSX : Hid (Short (rs.take (k + 1))) := by
        show Short _
        rw [htk]
        intro y hy
        rcases List.mem_append.1 hy with hy | hy
        · exact HSH.out y hy
        · rw [List.mem_singleton.1 hy]
          show x1.length ≤ 4096
          omega
      have HXK := Lib.hid hxk
      clear htk hxk hx HSH
      have hGlt := hG.lt
      have hlL : (rs.take k).length = k := by rw [List.length_take]; omega
      have hR0 := At.alloc wr [.int .i64 k1, .int .i64 t1, .string (bstr x1)] 39
      have hR1 := hR0.upd (S := fun _ => False) ((Upd.refl _ _).alloc (.cells #[.int .i64 t1] 3)) id
      have hG1 := (hG.alloc (.cells #[.int .i64 k1, .int .i64 t1, .string (bstr x1)] 39)).alloc (.cells #[.int .i64 t1] 3)
      have hA1 := (hAk.upd (S := fun _ => False) ((Upd.refl _ _).alloc (.cells #[.int .i64 k1, .int .i64 t1, .string (bstr x1)] 39)) id).upd (S := fun _ => False) ((Upd.refl _ _).alloc (.cells #[.int .i64 t1] 3)) id
      have hb1 := (hbk.alloc hszk (.cells #[.int .i64 k1, .int .i64 t1, .string (bstr x1)] 39)).alloc (by simp; omega) (.cells #[.int .i64 t1] 3)
      have hsl1 := (hsl.alloc (.cells #[.int .i64 k1, .int .i64 t1, .string (bstr x1)] 39)).alloc (.cells #[.int .i64 t1] 3)
      have hslt := hsl.lt
      have hsz1 : ((wr.alloc (.cells #[.int .i64 k1, .int .i64 t1, .string (bstr x1)] 39)).alloc (.cells #[.int .i64 t1] 3)).heap.size = wr.heap.size + 1 + 1 := by simp
      have hwB : w.heap.size + 1 ≤ ((wr.alloc (.cells #[.int .i64 k1, .int .i64 t1, .string (bstr x1)] 39)).alloc (.cells #[.int .i64 t1] 3)).heap.size := by rw [hsz1]; omega
      have hm1 : k + 1 ≤ maxLen := by unfold maxLen; omega
      obtain ⟨av, cv, rfl⟩ := hsl.shape
      have HF1 := Lib.hid (And.intro hR1 (And.intro hG1 (And.intro hA1 hb1)))
      have HL1 := Lib.hid (And.intro hGlt (And.intro hslt (And.intro hsz1 (And.intro hszk (And.intro hAlt (And.intro hS hD))))))
      have HSK := HSN S t g k (k1, t1, x1)
      simp only at HSK
      clear hR1 hG hG1 hA1 hb1 hsl hGlt hslt hsz1 hAk hS hD HSN
      obtain ⟨hr0, r0, y0, r1, y1, r2, y2⟩ := hR0.three
      clear hR0 y0 y1 y2
      have HOWN := fun (v5 : Value) (w5 : World) (q1 : Sl (w.heap.size + 1) w5 1 v5 (k + 1) (iv (times (rs.take k)) ++ [.int .i64 t1])) (q2 : Upd (fun j => (Value.slice av k cv).ownBlock = some j) ((wr.alloc (.cells #[.int .i64 k1, .int .i64 t1, .string (bstr x1)] 39)).alloc (.cells #[.int .i64 t1] 3)) w5) (q3 : ∀ j, v5.ownBlock = some j → (Value.slice av k cv).ownBlock = some j ∨ ((wr.alloc (.cells #[.int .i64 k1, .int .i64 t1, .string (bstr x1)] 39)).alloc (.cells #[.int .i64 t1] 3)).heap.size ≤ j) => show (∃ a5 c5, v5 = .slice a5 (k + 1) c5 ∧ At w5 wr.heap.size [.int .i64 k1, .int .i64 t1, .string (bstr x1)] ∧ GenC w5 S t g rr (rs.take k) ∧ At w5 w.heap.size [.int .i64 kd, .int .i64 bd, .int .i64 pc, .int .i64 wn, .int .i64 sg] ∧ Below w.heap.size w w5 ∧ w.heap.size + 1 ≤ w5.heap.size ∧ (∀ j, v5.ownBlock = some j → ¬ S j)) from by
        obtain ⟨a5, c5, h5⟩ := q1.shape
        obtain ⟨f1, f2, f3, f4⟩ := HF1.out
        obtain ⟨l1, l2, l3, l4, l5, l6, l7⟩ := HL1.out
        refine ⟨a5, c5, h5, f1.upd q2 (fun h => by have := (l2 _ h).2; omega), f2.upd q2 (fun j hj h => l7 j h hj), f3.upd q2 (fun h => by have := (l2 _ h).1; omega), f4.upd q2 (by rw [l3]; omega) (fun i _ h => by have := (l2 i h).1; omega), Nat.le_trans hwB q2.size, fun j hj hs => ?_⟩
        rcases q3 j hj with h | h
        · exact l7 j h hs
        · have := l1 j hs
          rw [l3] at h
          omega
      go_wp2_with (at_builtin; refine wpList_append_sl _ rfl (.tmp 46) (.tmp 49) 37 37 rfl 3 i0 (.int .i64 0) 8 Try.underlying37 hi0 hz0 hz1 hz2 rfl rfl hsl1 _ 1 [.int .i64 t1] rfl (src_oneN Try.underlying37 _ (.int .i64 t1) _ _ (by simp) rfl) hm1 (by omega) hwB ?_; intro v5 w5 q1 q2 q3; obtain ⟨a5, c5, hv5, hR5, hG5, hA5, hb5, hz5, hD5⟩ := HOWN v5 w5 q1 q2 q3; obtain ⟨e0, e1, -, e2, -, e3, -⟩ := hR5.three; clear q2 q3)
      subst hv5
      have hGlt5 := hG5.lt
      have HM := Lib.hid (And.intro hR5 (And.intro hA5 (And.intro hb5 (And.intro hz5 (And.intro hD5 (And.intro q1 hGlt5))))))
      have hw5 : wr.heap.size < w5.heap.size := hR5.1
      have HL2 := HL1
      clear hR5 hA5 hb5 hz5 hD5 q1 hGlt5 HF1 HOWN hsl1 hwB
      have HAFT := fun (w6 : World) (S6 : Nat → Prop) (hu6 : Upd S w5 w6) (hs6 : ∀ j, S6 j → S j ∨ w5.heap.size ≤ j) => show (At w6 w.heap.size [.int .i64 kd, .int .i64 bd, .int .i64 pc, .int .i64 wn, .int .i64 sg] ∧ Below w.heap.size w w6 ∧ Sl (w.heap.size + 1) w6 1 (.slice a5 (k + 1) c5) (k + 1) (iv (times (rs.take k)) ++ [.int .i64 t1]) ∧ (∀ j, S6 j → w.heap.size + 1 ≤ j) ∧ (∀ j, (Value.slice a5 (k + 1) c5).ownBlock = some j → ¬ S6 j)) from by
        obtain ⟨m1, m2, m3, m4, m5, m6, m7⟩ := HM.out
        obtain ⟨l1, l2, l3, l4, l5, l6, l7⟩ := HL1.out
        refine ⟨m2.upd hu6 (fun h => by have := l6 _ h; omega), m3.upd hu6 m3.size (fun i _ h => by have := l6 i h; omega), m6.upd hu6 (fun j hj hs => m5 j hj hs), fun j hj => ?_, fun j hj hs => ?_⟩
        · rcases hs6 j hj with h | h
          · exact l6 j h
          · omega
        · rcases hs6 j hs with h | h
          · exact m5 j hj h
          · have := (m6.lt j hj).2; omega
      go_wp2_with (first | ((with_reducible refine (HSK _ HXK.out hG5).out.mono ?_); intro e w6 h6; obtain ⟨rfl, S6, hG6, hu6, hs6⟩ := h6; obtain ⟨hA6, hb6, hsl6, hS6, hD6⟩ := HAFT w6 S6 hu6 hs6; obtain ⟨hg6, f0, -, f1, -, f2, -, f3, -, f4, -⟩ := hA6.five))
      clear e0 e1 e2 e3
      go_wp2_with (go_at_call 58; (with_reducible refine (HNW _ _ _ _ _ hG6).out.mono ?_); rintro e w7 ⟨rfl, rfl⟩)
      have hsl6' : Sl (w.heap.size + 1) w6 1 (.slice a5 (k + 1) c5) (k + 1) (iv (times (rs.take (k + 1)))) := by
        rw [HTK.out, times_snoc, iv_snoc']
        exact hsl6
      have HB6 := Lib.hid (And.intro hsl6' (And.intro hS6 hD6))
      have hin1 : (k : Int) + 1 ≤ (n1 : Int) := by omega
      have hic : (k : Int) + 1 ≤ (c1 : Int) := by omega
      have htn : ((k : Int) + 1).toNat = k + 1 := by omega
      have h00 : (0 : Int) ≤ (k : Int) + 1 := by omega
      have hwr : IntKind.i64.wrap ((k : Int) + 1) = (k : Int) + 1 := by rw [IntKind.wrap_i64]; omega
      have HR9 := fun w' (h : Below w.heap.size w w') cc => HRN (some ⟨b, off, none⟩) cc (k + 1) w' h rfl (by omega) (by omega) HSX.out _ (by rw [HTK.out])
      have hlast : decide (gnow rr (rs.take k ++ [(k1, t1, x1)]) < gnow rr (rs.take k)) = false := by
        have := HUP.out (rs.take k) (k1, t1, x1)
        simp
        omega
      have HS9 := fun S' w' h => HSL S' t g (rs.take k ++ [(k1, t1, x1)]) w' h (by rw [List.length_append, hlL]; simp; omega) _ rfl _ rfl
      clear hsl6 hsl6' hS6 hD6 HRN HSL HNW HSK HAFT HM HL1 HL2 hG5
      generalize hNN : gnow rr (rs.take k ++ [(k1, t1, x1)]) = N at *
      have HNN := Lib.hid hNN
      clear hNN
      generalize gnow rr (rs.take k) = m at *
      have hNe : (N != N) = false := by simp
      go_region_held3 (fun wx => wx.cell? ⟨w.heap.size, 0, none⟩ = some (.int .i64 kd) ∧ wx.cell? ⟨w.heap.size, 1, none⟩ = some (.int .i64 bd) ∧ wx.cell? ⟨w.heap.size, 2, none⟩ = some (.int .i64 pc) ∧ wx.cell? ⟨w.heap.size, 3, none⟩ = some (.int .i64 wn) ∧ wx.cell? ⟨w.heap.size, 4, none⟩ = some (.int .i64 sg)) (first | exact ⟨f0, f1, f2, f3, f4⟩ | exact ⟨j0, j1, j2, j3, j4⟩) (first | (go_at_call 13; (with_reducible refine (HR9 _ hb6.drew _).out.mono ?_); rintro e w8 ⟨rfl, hb8⟩; have hA8 := hA6.drew.on hb8; have hG8 := hG6.drew.on hb8; have hb68 := on_below hb6.drew hb8; obtain ⟨hg8, j0, -, j1, -, j2, -, j3, -, j4, -⟩ := hA8.five))
      all_goals
        clear f0 f1 f2 f3 f4 HR9 r0 r1 r2 hr0 p0 p1 p2 hbb
        by_cases hk2 : kd = 2
        · have hkr : rr.kind = 2 := by rw [← hRR]; exact hk2
          have hbd : (0 ≤ pc ∧ pc ≤ 100) ∧ 1 ≤ wn ∧ wn ≤ 4096 := by
            rcases HK.out with ⟨h1, _⟩ | ⟨h1, _⟩ | ⟨h1, h2⟩
            · omega
            · omega
            · rw [← hRR] at h2; exact h2
          have hgs : gslack rr (rs.take k ++ [(k1, t1, x1)]) = pick (kept wn.toNat (times (rs.take (k + 1)))) pc.toNat := by
            unfold gslack
            rw [if_neg (by omega), if_neg (by omega), HTK.out, ← hRR]
          have hdk : decide (rr.kind ≠ 1) = true := by simp; omega
          rw [hgs, hdk] at HS9
          obtain ⟨hsl6, hS6, hD6⟩ := HB6.out
          have hsl8 := (hsl6.upd (S := fun _ => False) ((Upd.refl _ _).drew) (fun _ _ h => h)).onB hb8
          have HSL8 := Lib.hid hsl8
          have hlT : (times (rs.take (k + 1))).length = k + 1 := by rw [times_len, List.length_take]; have := HN.out; omega
          have HT := Lib.hid (hr.tm)
          have HLG := fun wx (hx : Below w8.heap.size w8 wx) => show Hid (Calls Try.prog 14 #[.slice a5 (k + 1) c5, .int .i64 pc, .int .i64 wn] wx fun e w' => e = .returned (.int .i64 (pick (kept wn.toNat (times (rs.take (k + 1)))) pc.toNat)) ∧ Below wx.heap.size wx w') from by
            have hs9 := HSL8.out.onB hx
            have hc9 := sl_cap hs9
            have hrow9 := rowi_n hs9 hlT.symm (InR.times (InR.take HT.out (k + 1)))
            have := ref_lag a5 (k + 1) c5 (times (rs.take (k + 1))) pc.toNat wn.toNat wx hlT.symm hc9.2 hrow9 (by omega) (by omega) (by omega) _ rfl
            rw [show (pc.toNat : Int) = pc by omega, show (wn.toNat : Int) = wn by omega] at this
            exact Lib.hid this
          subst hk2
          clear hgs hdk hsl6 hS6 hD6 hsl8 hlT hkr hbd HT
          generalize pick (kept wn.toNat (times (rs.take (k + 1)))) pc.toNat = sk at *
          have hsk : (sk != sk) = false := by simp
          go_wp2_with (go_at_call 12; (with_reducible refine (HS9 _ _ hG8).out.mono ?_); rintro e w9 ⟨rfl, hb9⟩; have hG9 := hG8.on hb9; have hA9 := hA8.on hb9; have hb69 := on_below hb68 hb9; obtain ⟨hg9, g0, -, g1, -, g2, -, g3, -, g4, -⟩ := hA9.five)
          go_wp2_with (go_at_call 14; (with_reducible refine (HLG _ hb9).out.mono ?_); rintro e w10 ⟨rfl, hb10⟩; have hG10 := hG9.on hb10; have hA10 := hA9.on hb10; have hb610 := on_below hb69 hb10)
          go_roundw
          case rel =>
            rw [← HTK.out] at HNN hG10
            exact ⟨k + 1, S6, by omega, by go_num, by rw [HNN.out], (HSL8.out.onB hb9).onB hb10, hG10, HB6.out.2.1, HB6.out.2.2, HSX, hA10, hb610⟩
          case measure => simp [intOf]; omega
        · have hkd : (kd == 2) = false := by simpa using hk2
          generalize gslack rr (rs.take k ++ [(k1, t1, x1)]) = sk at *
          generalize decide (rr.kind ≠ 1) = oo at *
          go_wp2_with (go_at_call 12; (with_reducible refine (HS9 _ _ hG8).out.mono ?_); rintro e w9 ⟨rfl, hb9⟩; have hG9 := hG8.on hb9; have hA9 := hA8.on hb9; have hb69 := on_below hb68 hb9; obtain ⟨hg9, g0, -, g1, -, g2, -, g3, -, g4, -⟩ := hA9.five)
          go_roundw
          case rel =>
            rw [← HTK.out] at HNN hG9
            exact ⟨k + 1, S6, by omega, by go_num, by rw [HNN.out], ((HB6.out.1.upd (S := fun _ => False) ((Upd.refl _ _).drew) (fun _ _ h => h)).onB hb8).onB hb9, hG9, HB6.out.2.1, HB6.out.2.2, HSX, hA9, hb69⟩
          case measure => simp [intOf]; omega
    · obtain rfl : k = n1 := by omega
      go_wp2
      go_ret
      exact ⟨rfl, hbk⟩
end Go.Proofs.Yteimpeeghjeogaa
