/- judge: Of. -/
import Derived.Test.YtmimfkhkilijcaaGreatKJuC
import Derived.Test.YtmimfkhkilijcaaGreatKLogR
import Derived.Test.YtmimfkhkilijcaaGreatKBase
namespace Go.Proofs.YtmimfkhkilijcaaGreat
set_option maxRecDepth 4000
open Go.ChangeShapes Go.WideShapes Go.ChangeAt Go.RowKit
open PHist PRing PSat PClamp PBound PFrame PSign PTree PEv
set_option linter.unusedVariables false
set_option linter.unusedSimpArgs false

theorem info_errno : (Tryz.prog.info? 32).map (fun i => (i.zero, i.size, i.bytes)) = some (some (.int .i64 0), 1, 8) := by kernel_rfl
/-- Two rows of the call's own: records, and errors. -/
structure Two25 (B : Nat) (w : World) (v u : Value) (rs : List R) (es : List Int) : Prop where
  sr : Sl B w 3 v rs.length (rv rs)
  se : Sl B w 1 u es.length (iv es)
  ap : ∀ k, v.ownBlock = some k → u.ownBlock ≠ some k
theorem Two25.onW {B : Nat} {w w' : World} {v u : Value} {rs : List R} {es : List Int} (h : Two25 B w v u rs es) (hb : Below w.heap.size w w') : Two25 B w' v u rs es := ⟨h.sr.onW hb, h.se.onW hb, h.ap⟩
def OfPost25 (rs : List R) (es : List Int) (w : World) (e : Ending) (w' : World) : Prop := ∃ v u, e = .returned (.tuple #[v, u]) ∧ Two25 w.heap.size w' v u rs es ∧ Below w.heap.size w w'
theorem Two25.radd {B : Nat} {w w1 w' : World} {v v' u : Value} {rs : List R} {es : List Int} (h : Two25 B w v u rs es) (hb1 : Below w.heap.size w w1) (r : R) (k1 : Sl B w' 3 v' (rs.length + 1) (rv rs ++ rcells r)) (k2 : Upd (fun k => v.ownBlock = some k) w1 w') (k3 : ∀ k, v'.ownBlock = some k → v.ownBlock = some k ∨ w1.heap.size ≤ k) : Two25 B w' v' u (rs ++ [r]) es := by
  have hu := h.se.onW hb1
  have hs := hb1.size
  refine ⟨?_, hu.upd k2 (fun k hk hv => h.ap k hv hk), fun k hk hu2 => ?_⟩
  · rw [List.length_append, rv_append, show rv [r] = rcells r from List.append_nil _]; exact k1
  · rcases k3 k hk with h1 | h1
    · exact h.ap k h1 hu2
    · have := (h.se.lt k hu2).2; omega
theorem Two25.eadd {B : Nat} {w w1 w' : World} {v u u' : Value} {rs : List R} {es : List Int} (h : Two25 B w v u rs es) (hb1 : Below w.heap.size w w1) (e : Int) (k1 : Sl B w' 1 u' (es.length + 1) (iv es ++ [.int .i64 e])) (k2 : Upd (fun k => u.ownBlock = some k) w1 w') (k3 : ∀ k, u'.ownBlock = some k → u.ownBlock = some k ∨ w1.heap.size ≤ k) : Two25 B w' v u' rs (es ++ [e]) := by
  have hv := h.sr.onW hb1
  have hs := hb1.size
  refine ⟨hv.upd k2 (fun k hk hu => h.ap k hk hu), ?_, fun k hk hu2 => ?_⟩
  · rw [List.length_append]; unfold iv at k1 ⊢; rw [List.map_append]; exact k1
  · rcases k3 k hu2 with h1 | h1
    · exact h.ap k hk h1
    · have := (h.sr.lt k hk).2; omega
theorem recsOf_take (p : Int) (l : List Ev) (k : Nat) (h : k < l.length) : recsOf p (l.take (k + 1)) = recsOf p (l.take k) ++ recE p l[k] := by
  rw [List.take_succ_eq_append_getElem h, recsOf_snoc]
theorem errsOf_take (p : Int) (l : List Ev) (k : Nat) (h : k < l.length) : errsOf p (l.take (k + 1)) = errsOf p (l.take k) ++ errE p l[k] := by
  rw [List.take_succ_eq_append_getElem h, errsOf_snoc]
set_option maxRecDepth 100000 in
set_option maxHeartbeats 4000000 in
theorem ju_of (p : Int) (a : Option Addr) (n c : Nat) (l : List Ev) (w : World) (hr : RowE w a l) (hn : n = l.length) (hl : n ≤ 100000) :
    Calls Tryz.prog 25 #[.int .i64 p, .slice a n c] w (OfPost25 (recsOf p l) (errsOf p l) w) := by
  obtain ⟨i0, hi, hz0, hz1, hz2⟩ := info_parts info_rec
  obtain ⟨j0, hj, hy0, hy1, hy2⟩ := info_parts info_errno
  have HN := Lib.hid hn
  clear hn
  have h0 : Two25 w.heap.size w (.slice none 0 0) (.slice none 0 0) (recsOf p (l.take 0)) (errsOf p (l.take 0)) := ⟨Sl.nil _ _ _, Sl.nil _ _ _, fun k h => by simp [Value.ownBlock] at h⟩
  go_enter Tryz.func25, Tryz.ntmps25
  go_wp2
  go_loopw [4, 5, 12] (fun v u i wr => ∃ k : Nat, i = .int .i64 k ∧ k ≤ n ∧ Two25 w.heap.size wr v u (recsOf p (l.take k)) (errsOf p (l.take k)) ∧ Below w.heap.size w wr) (fun _ _ i _ => n - (intOf i).toNat)
  case atStart => exact ⟨0, rfl, Nat.zero_le _, h0, Below.refl _ _⟩
  case round =>
    clear h0
    obtain ⟨k, rfl, hk, hT, hb⟩ := hrel
    obtain ⟨av, cv, rfl⟩ := hT.sr.shape
    obtain ⟨au, cu, rfl⟩ := hT.se.shape
    by_cases hlt : k < n
    · have hk1 : k < l.length := by rw [← HN.out]; exact hlt
      obtain ⟨b, off, rfl, hbl, q0⟩ := (hr.on hb).at_ k hk1
      have HR := Lib.hid (recsOf_take p l k hk1)
      have HE := Lib.hid (errsOf_take p l k hk1)
      have hrl := recsOf_len p (l.take k)
      have hel := errsOf_len p (l.take k)
      rw [List.length_take] at hrl hel
      generalize recsOf p (l.take k) = R0 at *
      generalize errsOf p (l.take k) = E0 at *
      generalize l[k] = ev at *
      have hwB := hb.size
      have hm1 : R0.length + 1 ≤ maxLen := by unfold maxLen; omega
      have hm2 : E0.length + 1 ≤ maxLen := by unfold maxLen; omega
      cases ev with
      | mark x =>
        have t1 := ta_e_no1 (.agg #[.int .i64 x])
        have t2 := ta_f_no2 (.agg #[.int .i64 x])
        simp only [evv] at q0
        have HR2 : Hid (recsOf p (l.take (k + 1)) = R0) := HR.out.trans (List.append_nil _)
        have HE2 : Hid (errsOf p (l.take (k + 1)) = E0) := HE.out.trans (List.append_nil _)
        clear HR HE
        go_wp2
        go_roundw
        case rel => exact ⟨k + 1, by go_num, hlt, by rw [HR2.out, HE2.out]; exact hT, hb⟩
        case measure => simp [intOf] <;> omega
      | fault q e =>
        simp only [evv] at q0
        have HR2 : Hid (recsOf p (l.take (k + 1)) = R0) := HR.out.trans (List.append_nil _)
        by_cases hq : q = p
        · subst hq
          have t1 := ta_e_no2 (.agg #[.int .i64 q, .int .i64 e])
          have t2 := ta_f_yes q e
          have HE2 : Hid (errsOf q (l.take (k + 1)) = E0 ++ [e]) := HE.out.trans (by show E0 ++ (if q = q then [e] else []) = _; rw [if_pos rfl])
          clear HR HE
          go_wp2_with (at_builtin; refine wpList_append_sl _ rfl (.tmp 36) (.tmp 39) 63 63 rfl 32 j0 _ 8 Tryz.underlying63 hj hy0 hy1 hy2 rfl rfl ((hT.se.alloc _).alloc _) _ 1 [.int .i64 e] rfl (src_oneN Tryz.underlying63 _ _ _ _ (by simp) rfl) hm2 (by omega) (by simp; omega) ?_; intro v1 w3 k1 k2 k3; obtain ⟨av1, cv1, rfl⟩ := k1.shape)
          go_roundw
          case rel => exact ⟨k + 1, by go_num, hlt, by rw [HR2.out, HE2.out]; exact hT.eadd (((Below.refl _ _).alloc (Nat.le_refl _) _).alloc (by simp) _) e k1 k2 k3, ((hb.alloc hwB _).alloc (by simp; omega) _).upd k2 (by simp; omega) (fun i _ hi => by have := (hT.se.lt i hi).1; omega)⟩
          case measure => simp [intOf] <;> omega
        · have t1 := ta_e_no2 (.agg #[.int .i64 q, .int .i64 e])
          have t2 := ta_f_yes q e
          have HE2 : Hid (errsOf p (l.take (k + 1)) = E0) := HE.out.trans (by show E0 ++ (if q = p then [e] else []) = _; rw [if_neg hq, List.append_nil])
          clear HR HE
          go_wp2
          go_roundw
          case rel => exact ⟨k + 1, by go_num, hlt, by rw [HR2.out, HE2.out]; exact hT.onW ((Below.refl _ _).alloc (Nat.le_refl _) _), hb.alloc hwB _⟩
          case measure => simp [intOf] <;> omega
      | el late q kk t x =>
        simp only [evv] at q0
        have HE2 : Hid (errsOf p (l.take (k + 1)) = E0) := HE.out.trans (List.append_nil _)
        by_cases hq : q = p
        · subst hq
          have t1 := ta_e_yes q kk t (bstr x) late
          have HR2 : Hid (recsOf q (l.take (k + 1)) = R0 ++ [(kk, t, x)]) := HR.out.trans (by show R0 ++ (if q = q then [(kk, t, x)] else []) = _; rw [if_pos rfl])
          clear HR HE
          go_wp2_with (at_builtin; refine wpList_append_sl _ rfl (.tmp 24) (.tmp 27) 49 49 rfl 57 i0 _ 32 Tryz.underlying49 hi hz0 hz1 hz2 rfl rfl ((hT.sr.alloc _).alloc _) _ 1 _ rfl (src_recN Tryz.underlying49 _ (kk, t, x) _ _ (by simp)) hm1 (by omega) (by simp; omega) ?_; intro v1 w3 k1 k2 k3; obtain ⟨av1, cv1, rfl⟩ := k1.shape)
          go_roundw
          case rel => exact ⟨k + 1, by go_num, hlt, by rw [HR2.out, HE2.out]; exact hT.radd (((Below.refl _ _).alloc (Nat.le_refl _) _).alloc (by simp) _) (kk, t, x) k1 k2 k3, ((hb.alloc hwB _).alloc (by simp; omega) _).upd k2 (by simp; omega) (fun i _ hi => by have := (hT.sr.lt i hi).1; omega)⟩
          case measure => simp [intOf] <;> omega
        · have t1 := ta_e_yes q kk t (bstr x) late
          have HR2 : Hid (recsOf p (l.take (k + 1)) = R0) := HR.out.trans (by show R0 ++ (if q = p then [(kk, t, x)] else []) = _; rw [if_neg hq, List.append_nil])
          clear HR HE
          go_wp2
          go_roundw
          case rel => exact ⟨k + 1, by go_num, hlt, by rw [HR2.out, HE2.out]; exact hT.onW ((Below.refl _ _).alloc (Nat.le_refl _) _), hb.alloc hwB _⟩
          case measure => simp [intOf] <;> omega
    · obtain rfl : k = n := by omega
      go_wp2
      go_ret2
      have e : l.take k = l := List.take_of_length_le (by rw [← HN.out]; exact Nat.le_refl _)
      refine ⟨_, _, rfl, ?_, hb⟩
      rw [← congrArg (recsOf p) e, ← congrArg (errsOf p) e]
      exact hT
end Go.Proofs.YtmimfkhkilijcaaGreat
