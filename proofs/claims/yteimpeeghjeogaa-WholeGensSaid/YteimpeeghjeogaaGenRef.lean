/- The document's own answers of layer 13. -/
import Derived.Test.YteimpeeghjeogaaGenPlain
import Derived.Test.YteimpeeghjeogaaKPer
import Derived.Test.YteimpeeghjeogaaKSign
namespace Go.Proofs.Yteimpeeghjeogaa
set_option maxRecDepth 4000
open Go.ChangeShapes Go.WideShapes Go.ChangeAt Go.RowKit
open PHist PRing PSat PClamp PBound PFrame PSign
set_option linter.unusedVariables false
set_option linter.unusedSimpArgs false

theorem times_take (l : List R) (k : Nat) (h : k < l.length) : times (l.take (k + 1)) = times (l.take k) ++ [l[k].2.1] := by
  rw [List.take_succ_eq_append_getElem h, times_snoc]
theorem said_take (n : Int) (l : List R) (k : Nat) (h : k < l.length) : said n (l.take (k + 1)) = said n (l.take k) ++ (if saysR n l[k] then [l[k].2.1] else []) := by
  rw [List.take_succ_eq_append_getElem h, said_snoc]

/-- Two rows of numbers that a call has, each in blocks of its own. -/
def Two (B : Nat) (w : World) (v u : Value) (a b : List Int) : Prop := Sl B w 1 v a.length (iv a) ∧ Sl B w 1 u b.length (iv b) ∧ ∀ k, v.ownBlock = some k → u.ownBlock ≠ some k
theorem Two.left {B : Nat} {w w' : World} {v u v' : Value} {a b a' : List Int} (h : Two B w v u a b) (h1 : Sl B w' 1 v' a'.length (iv a')) (h2 : Upd (fun k => v.ownBlock = some k) w w') (h3 : ∀ k, v'.ownBlock = some k → v.ownBlock = some k ∨ w.heap.size ≤ k) : Two B w' v' u a' b := by
  refine ⟨h1, h.2.1.upd h2 (fun k hk hv => h.2.2 k hv hk), fun k hk hu => ?_⟩
  rcases h3 k hk with h4 | h4
  · exact h.2.2 k h4 hu
  · have := (h.2.1.lt k hu).2; omega
theorem Two.right {B : Nat} {w w' : World} {v u u' : Value} {a b b' : List Int} (h : Two B w v u a b) (h1 : Sl B w' 1 u' b'.length (iv b')) (h2 : Upd (fun k => u.ownBlock = some k) w w') (h3 : ∀ k, u'.ownBlock = some k → u.ownBlock = some k ∨ w.heap.size ≤ k) : Two B w' v u' a b' := by
  refine ⟨h.1.upd h2 (fun k hk hv => h.2.2 k hk hv), h1, fun k hk hu => ?_⟩
  rcases h3 k hu with h4 | h4
  · exact h.2.2 k hk h4
  · have := (h.1.lt k hk).2; omega
theorem Two.upd {B : Nat} {S : Nat → Prop} {w w' : World} {v u : Value} {a b : List Int} (h : Two B w v u a b) (hu : Upd S w w') (hS : ∀ k, S k → w.heap.size ≤ k) : Two B w' v u a b :=
  ⟨h.1.upd hu (fun k hk hs => by have := (h.1.lt k hk).2; have := hS k hs; omega), h.2.1.upd hu (fun k hk hs => by have := (h.2.1.lt k hk).2; have := hS k hs; omega), h.2.2⟩
theorem Two.alloc {B : Nat} {w : World} {v u : Value} {a b : List Int} (h : Two B w v u a b) (o : Obj) : Two B (w.alloc o) v u a b := h.upd (S := fun _ => False) ((Upd.refl _ _).alloc o) (fun _ h => h.elim)
theorem Two.on {B : Nat} {w w' : World} {v u : Value} {a b : List Int} (h : Two B w v u a b) (hb : Below w.heap.size w w') : Two B w' v u a b := h.upd (S := fun k => w.heap.size ≤ k) (Upd.of_below hb (fun _ _ h => h)) (fun _ h => h)
theorem Two.drewN {B : Nat} {w : World} {v u : Value} {a b : List Int} (h : Two B w v u a b) (n : Nat) : Two B (w.drewN n) v u a b := h.upd (S := fun _ => False) ((Upd.refl _ _).drewN n) (fun _ h => h.elim)
theorem Two.drew {B : Nat} {w : World} {v u : Value} {a b : List Int} (h : Two B w v u a b) : Two B w.drew v u a b := h.upd (S := fun _ => False) ((Upd.refl _ _).drew) (fun _ h => h.elim)

/-- Texts that aren't too long. -/
def Short (l : List R) : Prop := ∀ r ∈ l, r.2.2.length ≤ 4096

set_option maxHeartbeats 4000000 in
theorem ref_now13 (r : Rul) (a : Option Addr) (n c : Nat) (l : List R) (w : World) (hn : n = l.length) (h0 : 0 < n) (hl : RowR w a l) (hs : Short l) (hf : r.Fits) (hok : rcheck r = 0) (hb : l.length ≤ 800) (z : Int) (hz : gnow r l = z) :
    Calls Try.prog 13 #[r.val, .slice a n c] w fun e w' => e = .returned (.int .i64 z) ∧ Below w.heap.size w w' := by
  subst hn
  have HOK := Lib.hid hok
  have HZ := Lib.hid hz
  have hT : InR l := hl.tm
  have HT := Lib.hid hT
  obtain ⟨kd, bd, pc, wn, sg⟩ := r
  have hfb := hf.bound
  unfold in64 at hfb
  simp only at hfb
  unfold Rul.val
  simp only
  have hA := At.alloc w [.int .i64 kd, .int .i64 bd, .int .i64 pc, .int .i64 wn, .int .i64 sg] 23
  have hb0 : Below w.heap.size w (w.alloc (.cells #[.int .i64 kd, .int .i64 bd, .int .i64 pc, .int .i64 wn, .int .i64 sg] 23)) := (Below.refl _ _).alloc (Nat.le_refl _) _
  obtain ⟨i0, hi0, hz0, hz1, hz2⟩ := info_parts info_int
  clear hz hok hf hT
  have hsz0 : (w.alloc (.cells #[.int .i64 kd, .int .i64 bd, .int .i64 pc, .int .i64 wn, .int .i64 sg] 23)).heap.size = w.heap.size + 1 := by simp
  go_enter Try.func13, Try.ntmps13
  go_wp2
  generalize w.alloc (.cells #[.int .i64 kd, .int .i64 bd, .int .i64 pc, .int .i64 wn, .int .i64 sg] 23) = w0 at *
  have hbw := (hb0.alloc hb0.size (.cells #[] 3)).alloc (by have := hb0.size; simp; omega) (.cells #[] 3)
  have hA2 := (hA.upd (S := fun _ => False) ((Upd.refl _ _).alloc (.cells #[] 3)) id).upd (S := fun _ => False) ((Upd.refl _ _).alloc (.cells #[] 3)) id
  have hs1 : Sl (w.heap.size + 1) (w0.alloc (.cells #[] 3)) 1 (.slice (some ⟨w0.heap.size, 0, none⟩) 0 0) 0 [] := Sl.made (B := w.heap.size + 1) w0 #[] 3 1 0 0 (by omega) (Nat.le_refl _) (Nat.zero_le _) (by simp)
  have hs2 : Sl (w.heap.size + 1) ((w0.alloc (.cells #[] 3)).alloc (.cells #[] 3)) 1 (.slice (some ⟨(w0.alloc (.cells #[] 3)).heap.size, 0, none⟩) 0 0) 0 [] := Sl.made (B := w.heap.size + 1) _ #[] 3 1 0 0 (by simp; omega) (Nat.le_refl _) (Nat.zero_le _) (by simp)
  have htw : Two (w.heap.size + 1) ((w0.alloc (.cells #[] 3)).alloc (.cells #[] 3)) (.slice (some ⟨w0.heap.size, 0, none⟩) 0 0) (.slice (some ⟨(w0.alloc (.cells #[] 3)).heap.size, 0, none⟩) 0 0) [] [] :=
    ⟨hs1.alloc _, hs2, fun k h1 h2 => by simp [Value.ownBlock] at h1 h2; omega⟩
  go_loopw [5, 6, 7] (fun v u i wr => ∃ k : Nat, k ≤ l.length ∧ i = .int .i64 k ∧ Two (w.heap.size + 1) wr v u (times (l.take k)) (said sg (l.take k)) ∧ At wr w.heap.size [.int .i64 kd, .int .i64 bd, .int .i64 pc, .int .i64 wn, .int .i64 sg] ∧ Below w.heap.size w wr) (fun _ _ i _ => l.length - (intOf i).toNat)
  case atStart =>
    refine ⟨0, Nat.zero_le _, rfl, ?_, hA2, hbw⟩
    rw [show (w0.alloc (.cells #[] 3)).heap.size = w0.heap.size + 1 by simp, hsz0] at htw
    exact htw
  case round =>
    obtain ⟨k, hk, rfl, htk, hAk, hbk⟩ := hrel
    have hszk := hbk.size
    have hAlt := hAk.1
    by_cases hlt : k < l.length
    · obtain ⟨b, off, rfl, hbb, p0, p1, p2⟩ := (hl.on hbk).at_ k hlt
      have htm := times_take l k hlt
      have hsd := said_take sg l k hlt
      have hlt1 : (times (l.take k)).length = k := by rw [times_len, List.length_take]; omega
      have hls1 : (said sg (l.take k)).length ≤ k := by have := said_len sg (l.take k); rw [List.length_take] at this; omega
      have hsx := hs l[k] (List.getElem_mem hlt)
      have HRW := Lib.hid (fun w' (h : Below w.heap.size w w') => (hl.on h).cell k hlt)
      generalize l[k] = x at *
      obtain ⟨k1, t1, x1⟩ := x
      simp only at p0 p1 p2 htm hsx HRW
      have HS := Lib.hid hsx
      have HTM := Lib.hid htm
      generalize times (l.take k) = A at *
      generalize said sg (l.take k) = D at *
      have hm1 : A.length + 1 ≤ maxLen := by unfold maxLen; omega
      have hm2 : D.length + 1 ≤ maxLen := by unfold maxLen; omega
      clear hsx htm
      have hwB : w.heap.size + 1 ≤ (wr.alloc (.cells #[.int .i64 t1] 3)).heap.size := by simp; omega
      have htka := htk.alloc (.cells #[.int .i64 t1] 3)
      have hAka := hAk.upd (S := fun _ => False) ((Upd.refl _ _).alloc (.cells #[.int .i64 t1] 3)) id
      have hbka := hbk.alloc hszk (.cells #[.int .i64 t1] 3)
      have HTKA := Lib.hid htka
      have HAKA := Lib.hid hAka
      have HBKA := Lib.hid hbka
      have hszp := hbka.size
      obtain ⟨av, cv, rfl⟩ := htka.1.shape
      obtain ⟨au, cu, rfl⟩ := htka.2.1.shape
      have hslA := htka.1
      clear htk htka hAk hAka hbk hbka hbb
      go_wp2_with (at_builtin; refine wpList_append_sl _ rfl (.tmp 16) (.tmp 22) 37 37 rfl 3 i0 (.int .i64 0) 8 Try.underlying37 hi0 hz0 hz1 hz2 rfl rfl hslA _ 1 [.int .i64 t1] rfl (src_oneN Try.underlying37 _ (.int .i64 t1) _ _ (by simp) rfl) hm1 (by omega) hwB ?_; intro v1 w1 q1 q2 q3)
      have hs1 : Two (w.heap.size + 1) w1 v1 (.slice au D.length cu) (A ++ [t1]) D := HTKA.out.left (by rw [List.length_append, iv_snoc']; exact q1) q2 q3
      have hA1 : At w1 w.heap.size [.int .i64 kd, .int .i64 bd, .int .i64 pc, .int .i64 wn, .int .i64 sg] := HAKA.out.upd q2 (fun h => by have := (HTKA.out.1.lt _ h).1; omega)
      have hb1 : Below w.heap.size w w1 := HBKA.out.upd q2 hszp (fun i _ h => by have := (HTKA.out.1.lt i h).1; omega)
      obtain ⟨hbb, p0, p1, p2⟩ := HRW.out w1 hb1
      obtain ⟨av1, cv1, hv1⟩ := hs1.1.shape
      subst hv1
      have hsz1 := hb1.size
      have HS1 := Lib.hid hs1
      have HA1 := Lib.hid hA1
      have HB1 := Lib.hid hb1
      obtain ⟨hgr, r0, y0, r1, y1, r2, y2, r3, y3, r4, y4⟩ := hA1.five
      have hslD := hs1.2.1
      clear q1 q2 q3 hslA hs1 hA1 hb1 y0 y1 y2 y3 y4
      have hwr0 : ∀ m : Nat, m ≤ 3000 → IntKind.i64.wrap (m : Int) = (m : Int) := fun m h => by rw [IntKind.wrap_i64]; omega
      by_cases hk2 : k1 = 2
      · subst hk2
        have hD : Hid (said sg (l.take (k + 1)) = D ++ [t1]) := by
          show _ = _
          rw [hsd, if_pos (by simp [saysR, says])]
        clear hsd
        go_wp2
        go_quiet (fail)
        have hsw := (HS1.out.drewN nq).alloc (.cells #[.int .i64 t1] 3)
        have hAw := (HA1.out.drewN nq).upd (S := fun _ => False) ((Upd.refl _ _).alloc (.cells #[.int .i64 t1] 3)) id
        have hbw2 := (below_drewN HB1.out nq).alloc (by simpa using hsz1) (.cells #[.int .i64 t1] 3)
        have hslW := hsw.2.1
        have hwB2 : w.heap.size + 1 ≤ ((w1.drewN nq).alloc (.cells #[.int .i64 t1] 3)).heap.size := by simp; omega
        go_wp2_with (at_builtin; refine wpList_append_sl _ rfl (.tmp 40) (.tmp 46) 37 37 rfl 3 i0 (.int .i64 0) 8 Try.underlying37 hi0 hz0 hz1 hz2 rfl rfl hslW _ 1 [.int .i64 t1] rfl (src_oneN Try.underlying37 _ (.int .i64 t1) _ _ (by simp) rfl) hm2 (by omega) hwB2 ?_; intro v3 w3 q1 q2 q3)
        go_roundw
        case rel =>
          refine ⟨k + 1, by omega, by go_num, ?_, hAw.upd q2 (fun h => by have := (hsw.2.1.lt _ h).1; omega), hbw2.upd q2 hbw2.size (fun i _ h => by have := (hsw.2.1.lt i h).1; omega)⟩
          rw [HTM.out, hD.out, show k + 1 = (A ++ [t1]).length by (rw [List.length_append, hlt1]; rfl)]
          exact hsw.right (by rw [List.length_append, iv_snoc']; exact q1) q2 q3
        case measure => simp [intOf]; omega
      have hkk : (k1 == 2) = false := by simpa using hk2
      have HH := fun w' => Lib.hid (ref_has (bstr x1) sg w' (by simpa [ByteArray.size] using HS.out))
      have hsy : saysR sg (k1, t1, x1) = hasn (signs (bstr x1).data.toList) sg := by simp [saysR, says, hk2]
      rw [hsy] at hsd
      clear hsy hk2
      generalize hasn (signs (bstr x1).data.toList) sg = o at *
      cases o
      · have hD : Hid (said sg (l.take (k + 1)) = D) := by
          show _ = _
          rw [hsd, if_neg (by simp), List.append_nil]
        clear hsd
        go_wp2
        go_region_held3 (fun wx => wx.cell? ⟨b, off + k * 3, none⟩ = some (.int .i64 k1) ∧ wx.cell? ⟨b, off + k * 3 + 2, none⟩ = some (.string (bstr x1)) ∧ wx.cell? ⟨w.heap.size, 4, none⟩ = some (.int .i64 sg)) (first | exact ⟨p0, p2, r4⟩ | exact ⟨u0, u2, v4⟩) (first | (go_at_call 27; refine (HH _).out.mono ?_; rintro e w2 ⟨rfl, hb2⟩; have hB2 := on_below HB1.out.drew hb2; have hA2 := HA1.out.drew.on hb2; obtain ⟨-, u0, u1, u2⟩ := HRW.out _ hB2; obtain ⟨-, -, -, -, -, -, -, -, -, v4, -⟩ := hA2.five))
        all_goals
          go_wp2
          go_roundw
        case rel =>
          refine ⟨k + 1, by omega, by go_num, ?_, hA2, hB2⟩
          rw [HTM.out, hD.out, show k + 1 = (A ++ [t1]).length by (rw [List.length_append, hlt1]; rfl)]
          exact HS1.out.drew.on hb2
        case measure => simp [intOf]; omega
      · have hD : Hid (said sg (l.take (k + 1)) = D ++ [t1]) := by
          show _ = _
          rw [hsd, if_pos rfl]
        clear hsd
        go_wp2
        go_region_held3 (fun wx => wx.cell? ⟨b, off + k * 3, none⟩ = some (.int .i64 k1) ∧ wx.cell? ⟨b, off + k * 3 + 2, none⟩ = some (.string (bstr x1)) ∧ wx.cell? ⟨w.heap.size, 4, none⟩ = some (.int .i64 sg)) (first | exact ⟨p0, p2, r4⟩ | exact ⟨u0, u2, v4⟩) (first | (go_at_call 27; refine (HH _).out.mono ?_; rintro e w2 ⟨rfl, hb2⟩; have hB2 := on_below HB1.out.drew hb2; have hA2 := HA1.out.drew.on hb2; obtain ⟨-, u0, u1, u2⟩ := HRW.out _ hB2; obtain ⟨-, -, -, -, -, -, -, -, -, v4, -⟩ := hA2.five))
        all_goals
          have hsz2 := hB2.size
          have hsw := (HS1.out.drew.on hb2).alloc (.cells #[.int .i64 t1] 3)
          have hAw := hA2.upd (S := fun _ => False) ((Upd.refl _ _).alloc (.cells #[.int .i64 t1] 3)) id
          have hbw2 := hB2.alloc hsz2 (.cells #[.int .i64 t1] 3)
          have hslW := hsw.2.1
          have hwB2 : w.heap.size + 1 ≤ (w2.alloc (.cells #[.int .i64 t1] 3)).heap.size := by simp; omega
          go_wp2_with (at_builtin; refine wpList_append_sl _ rfl (.tmp 40) (.tmp 46) 37 37 rfl 3 i0 (.int .i64 0) 8 Try.underlying37 hi0 hz0 hz1 hz2 rfl rfl hslW _ 1 [.int .i64 t1] rfl (src_oneN Try.underlying37 _ (.int .i64 t1) _ _ (by simp) rfl) hm2 (by omega) hwB2 ?_; intro v3 w3 q1 q2 q3)
          go_roundw
        case rel =>
          refine ⟨k + 1, by omega, by go_num, ?_, hAw.upd q2 (fun h => by have := (hsw.2.1.lt _ h).1; omega), hbw2.upd q2 hbw2.size (fun i _ h => by have := (hsw.2.1.lt i h).1; omega)⟩
          rw [HTM.out, hD.out, show k + 1 = (A ++ [t1]).length by (rw [List.length_append, hlt1]; rfl)]
          exact hsw.right (by rw [List.length_append, iv_snoc']; exact q1) q2 q3
        case measure => simp [intOf]; omega
    · obtain rfl : k = l.length := by omega
      have hall : l.take l.length = l := List.take_of_length_le (Nat.le_refl _)
      rw [hall] at htk
      have hT := HT.out
      have hlt1 := times_len l
      have hls1 := said_len sg l
      have hZ := HZ.out
      unfold gnow at hZ
      simp only at hZ
      obtain ⟨hk1, a1, c1, hv1, hrow1⟩ := rowi_of_sl htk.1 hT.times
      obtain ⟨hk2, a2, c2, hv2, hrow2⟩ := rowi_of_sl htk.2.1 (fun x hx => hT.times x (said_mem hx))
      subst hv1
      subst hv2
      obtain ⟨g1, o1, hx, hcap1⟩ : ∃ g off, a1 = some ⟨g, off, none⟩ ∧ (times l).length ≤ c1 := by
        rcases htk.1.2 with ⟨hx, hx0⟩ | ⟨g, off, cap, hx, _, _, h5, _⟩
        · omega
        · simp only [Value.slice.injEq] at hx
          obtain ⟨rfl, -, rfl⟩ := hx
          exact ⟨g, off, rfl, h5⟩
      subst hx
      obtain ⟨hgr, r0, y0, r1, y1, r2, y2, r3, y3, r4, y4⟩ := hAk.five
      clear htk hall hs hl HT hk1 hk2 hAk y0 y1 y2 y3 y4 hA2 hA hs1 hs2 htw
      have HN0 := Lib.hid (fun b (hb' : -9223372036854775808 ≤ b ∧ b ≤ 9223372036854775807) wx h => ref_now10 (some ⟨g1, o1, none⟩) (times l).length c1 (times l) b wx rfl (by omega) h (by omega) hb' _ rfl)
      have HN1 := Lib.hid (fun (z : Int) hz wx h => ref_most a2 (said sg l).length c2 (said sg l) wx rfl h (by omega) z hz)
      have HN2 := Lib.hid (fun (p q : Nat) (hp : p ≤ 100) (hq : q ≤ 100000) (z : Int) hz wx h => ref_now12 g1 o1 (times l).length c1 (times l) p q wx rfl hcap1 h (by omega) hq hp z hz)
      have HL := Lib.hid hlt1
      clear hlt1 hls1 hcap1 hb h0
      rcases rcheck_some HOK.out with ⟨hk0, h1⟩ | ⟨hk0, h1, h2⟩ | ⟨hk0, ⟨h1, h2⟩, h3, h4⟩
      · simp only at hk0
        subst hk0
        rw [if_pos rfl] at hZ
        have HN := fun wx h => Lib.hid (HN0.out bd hfb wx h)
        rw [hZ] at HN
        clear HOK HZ h1 HN0 HN1 HN2 HL hrow2 hZ
        generalize times l = A at *
        go_wp2_with (go_at_call 28; (with_reducible refine (HN _ hrow1).out.mono ?_); rintro e w' ⟨rfl, rfl⟩)
        go_ret
        exact ⟨rfl, hbk⟩
      · simp only at hk0
        subst hk0
        rw [if_neg (by omega), if_pos rfl] at hZ
        have HN := fun wx h => Lib.hid (HN1.out z hZ wx h)
        clear HOK HZ h1 h2 HN0 HN1 HN2 HL hrow1 hZ
        generalize said sg l = D at *
        go_wp2_with (go_at_call 29; (with_reducible refine (HN _ hrow2).out.mono ?_); rintro e w' ⟨rfl, rfl⟩)
        go_ret
        exact ⟨rfl, hbk⟩
      · simp only at hk0 h1 h2 h3 h4
        subst hk0
        rw [if_neg (by omega), if_neg (by omega), ← HL.out] at hZ
        have HN := fun wx h => Lib.hid (HN2.out pc.toNat wn.toNat (by omega) (by omega) z hZ wx h)
        rw [show (pc.toNat : Int) = pc by omega, show (wn.toNat : Int) = wn by omega] at HN
        clear HOK HZ h1 h2 h3 h4 hZ HN0 HN1 HN2 HL hrow2
        generalize times l = A at *
        go_wp2_with (go_at_call 30; (with_reducible refine (HN _ hrow1).out.mono ?_); rintro e w' ⟨rfl, hb9⟩)
        go_ret
        exact ⟨rfl, on_below hbk hb9⟩
end Go.Proofs.Yteimpeeghjeogaa
