/- Contracts of log's calls: records read one behind the other. -/
import Derived.Test.YtmimfkhkilijcaaGreatKFrame
import Derived.Test.YtmimfkhkilijcaaGreatKRec
import Derived.Test.YtmimfkhkilijcaaGreatKBase
import Derived.Test.YtmimfkhkilijcaaGreatKFRef
import Derived.Deep.LoopGhost
namespace Go.Proofs.YtmimfkhkilijcaaGreat
set_option maxRecDepth 4000
open Go.ChangeShapes Go.WideShapes Go.ChangeAt Go.RowKit
open PVar PCrc PFrame
set_option linter.unusedVariables false

theorem info_rec : (Tryz.prog.info? 57).map (fun i => (i.zero, i.size, i.bytes)) = some (some (.agg #[.int .i64 0, .int .i64 0, .string ⟨#[]⟩]), 3, 32) := by kernel_rfl

/-- What a record, newly laid as a slice of one, yields to an append. -/
theorem src_rec {P : Program} {tx e' : TypeId} (hk : P.underlying tx = some (.slice e')) (w : World) (r : R) (e : TypeId) : Src P 3 tx (.slice (some ⟨w.heap.size, 0, none⟩) 1 1) 1 (rcells r) (w.alloc (.cells (rcells r).toArray e)) := by
  refine Src.ofSlice _ hk ⟨w.heap.size, 0, none⟩ 1 1 (rcells r) rfl (fun j x hx => ?_) (fun x hx => ?_)
  · have ha := At.alloc w (rcells r) e
    have hj := (List.getElem?_eq_some_iff.1 hx)
    obtain ⟨hj, rfl⟩ := hj
    rw [Addr.add_lit, Nat.zero_add]
    exact (ha.2 j hj).1
  · simp [rcells] at hx
    rcases hx with rfl | rfl | rfl <;> rfl

theorem src_recN {P : Program} {tx e' : TypeId} (hk : P.underlying tx = some (.slice e')) (w : World) (r : R) (e : TypeId) (N : Nat) (hN : w.heap.size = N) : Src P 3 tx (.slice (some ⟨N, 0, none⟩) 1 1) 1 (rcells r) (w.alloc (.cells (rcells r).toArray e)) := by
  subst hN
  exact src_rec hk w r e

theorem drop_size (s : ByteArray) (k : Nat) : (bstr (s.data.toList.drop k)).size = s.size - k := by rw [size_bstr, List.length_drop]; simp

/-- What Parse answers. -/
def ParsePost (w : World) (p : List R × Nat × Nat) (e : Ending) (w' : World) : Prop :=
  ∃ a c, e = .returned (.tuple #[.slice a p.1.length c, .int .i64 p.2.1, .int .i64 p.2.2]) ∧ RowR w' a p.1 ∧ Below w.heap.size w w'
def ParsePost2 (w : World) (p : List R × Nat × Nat) (e : Ending) (w' : World) : Prop :=
  ∃ a c, e = .returned (.tuple #[.slice a p.1.length c, .int .i64 p.2.1, .int .i64 p.2.2]) ∧ RowR w' a p.1 ∧ Below w.heap.size w w' ∧ p.1.length ≤ c ∧ c ≤ maxLen ∧ ∀ q, a = some q → w.heap.size ≤ q.block
theorem Sl.cap {B : Nat} {w : World} {size : Nat} {a : Option Addr} {n m c : Nat} {xs : List Value} (h : Sl B w size (.slice a n c) m xs) : n ≤ c ∧ c ≤ maxLen := by
  rcases h.2 with ⟨h1, h2⟩ | ⟨g, off, cap, h1, h2, h3, h4, h5, _⟩
  · cases h1; exact ⟨Nat.le_refl _, Nat.zero_le _⟩
  · cases h1; exact ⟨h4, h5⟩


set_option maxRecDepth 100000 in
set_option maxHeartbeats 2000000 in
theorem log_parse2 (s : ByteArray) (w : World) (hs : s.size ≤ 100000) :
    Calls Tryz.prog 65 #[.string s] w (ParsePost2 w (parse s.data.toList)) := by
  have hsl : s.data.toList.length = s.size := by simp
  obtain ⟨i0, hi, hz0, hz1, hz2⟩ := info_parts info_rec
  go_enter Tryz.func65, Tryz.ntmps65
  go_wp2
  go_loopw [2, 3] (fun v i wr => ∃ (rs : List R) (k : Nat), k ≤ s.size ∧ i = .int .i64 k ∧ Sl w.heap.size wr 3 v rs.length (rv rs) ∧ (∀ r ∈ rs, (-9223372036854775808 ≤ r.1 ∧ r.1 ≤ 9223372036854775807) ∧ (-9223372036854775808 ≤ r.2.1 ∧ r.2.1 ≤ 9223372036854775807)) ∧ rs.length ≤ k ∧ Below w.heap.size w wr ∧
      Hid (parse s.data.toList = (rs ++ (parse (s.data.toList.drop k)).1, k + (parse (s.data.toList.drop k)).2.1, (parse (s.data.toList.drop k)).2.2))) (fun _ i _ => s.size - (intOf i).toNat)
  case atStart => exact ⟨[], 0, Nat.zero_le _, rfl, Sl.nil _ _ _, by simp, Nat.zero_le _, Below.refl _ _, by show _ = _; simp⟩
  case round =>
    obtain ⟨rs, k, hk, rfl, hsl3, hbd, hrk, hb, HP⟩ := hrel
    by_cases hlt : k < s.size
    · have hfrom := fun w => from_run (P := Tryz.prog) w 9 s k k rfl Tryz.underlying9 hk
      have hget := fun w => fr_get (bstr (s.data.toList.drop k)) w (by rw [drop_size]; omega)
      rw [show (bstr (s.data.toList.drop k)).data.toList = s.data.toList.drop k from rfl] at hget
      have hne : s.data.toList.drop k ≠ [] := by
        intro h
        have := congrArg List.length h
        rw [List.length_drop] at this
        simp at this
        omega
      rcases fget_err (s.data.toList.drop k) with he | ⟨er, he, h1, h5⟩
      · obtain ⟨r, n, e0, hf⟩ : ∃ r n e, fget (s.data.toList.drop k) = (r, n, e) := ⟨_, _, _, rfl⟩
        rw [hf] at he
        simp only at he
        subst he
        obtain ⟨o1, o2, o3, o4⟩ := fget_ok hf
        have hlen : (s.data.toList.drop k).length = s.size - k := by rw [List.length_drop]; omega
        have hn0 := encR_pos r
        rw [← o3] at hn0
        have hkn : k + n ≤ s.size := by omega
        have hm := parse_more hf
        rw [hf] at hget
        have hp := HP.out
        rw [hm, List.drop_drop] at hp
        have hp2 : parse s.data.toList = ((rs ++ [r]) ++ (parse (s.data.toList.drop (k + n))).1, (k + n) + (parse (s.data.toList.drop (k + n))).2.1, (parse (s.data.toList.drop (k + n))).2.2) := by
          rw [hp, List.append_assoc, Nat.add_assoc]; rfl
        have hr1 : -9223372036854775808 ≤ r.1 ∧ r.1 ≤ 9223372036854775807 := by have := err_kind o1.1; omega
        have hbd' : ∀ x ∈ rs ++ [r], (-9223372036854775808 ≤ x.1 ∧ x.1 ≤ 9223372036854775807) ∧ (-9223372036854775808 ≤ x.2.1 ∧ x.2.1 ≤ 9223372036854775807) := by
          intro x hx
          rcases List.mem_append.1 hx with h | h
          · exact hbd x h
          · simp at h; subst h; exact ⟨hr1, o1.2⟩
        have HPP := Lib.hid hp2
        have HBD := Lib.hid hbd'
        have HG := Lib.hid hget
        clear hp hp2 hm hf hget hbd' o1 o2 o3 o4 hlen hr1 hbd
        obtain ⟨r1, r2, r3⟩ := r
        go_wp2_with (first | (go_at_call 79; refine (HG.out _).mono ?_; rintro e w2 ⟨rfl, b2⟩; have hb2 := on_below hb b2; have hs2 := hsl3.on b2) | (at_builtin; go_loud (refine wpList_append_sl _ rfl (.tmp 25) (.tmp 27) 49 49 rfl 57 i0 _ 32 Tryz.underlying49 hi hz0 hz1 hz2 rfl rfl ((hs2.alloc _).alloc _) _ 1 _ rfl (src_recN Tryz.underlying49 _ (r1, r2, r3) _ _ (by simp)) (by unfold maxLen; omega) (by omega) (by have := hb2.size; simp; omega) ?_; intro v1 w3 k1 k2 k3)))
        have e1 : (rs ++ [(r1, r2, r3)]).length = rs.length + 1 := by simp
        have e2 : rv (rs ++ [(r1, r2, r3)]) = rv rs ++ rcells (r1, r2, r3) := by rw [rv_append]; show _ ++ (_ ++ []) = _; rw [List.append_nil]
        have hb3 := ((hb2.alloc hb2.size (.cells (rcells (r1, r2, r3)).toArray 57)).alloc (by have := hb2.size; simp; omega) (.cells (rcells (r1, r2, r3)).toArray 57)).upd k2 (by have := hb2.size; simp; omega) (fun i _ h => (hs2.lt i h).1)
        refine ⟨⟨rs ++ [(r1, r2, r3)], k + n, hkn, by go_num, ?_, HBD.out, by rw [e1]; omega, hb3, HPP.out⟩, by simp [intOf]; omega⟩
        rw [e1, e2]
        exact k1
      · have hbad := parse_bad hne (by rw [he]; simp; omega)
        rw [he] at hget hbad
        have HG := Lib.hid hget
        have he0 : ((er : Int) == 0) = false := by simp; omega
        have hp := HP.out
        rw [hbad] at hp
        simp only [List.append_nil, Nat.add_zero] at hp
        have HPP := Lib.hid hp
        obtain ⟨_, a, c, hv, _⟩ := RowR.of_sl hsl3 hbd
        subst hv
        clear hget hbad he hp
        go_wp2_with (first | (go_at_call 79; refine (HG.out _).mono ?_; rintro e w2 ⟨rfl, b2⟩))
        go_ret3
        rw [HPP.out]
        obtain ⟨_, a', c', hv', hrow⟩ := RowR.of_sl (hsl3.on b2) hbd
        cases hv'
        have hba := on_below hb b2
        exact ⟨a, c, rfl, hrow.on ((Below.refl _ _).alloc (Nat.le_refl _) _), hba.alloc hba.size _, hsl3.cap.1, hsl3.cap.2, fun q hq => (hsl3.lt q.block (by rw [hq]; rfl)).1⟩
    · obtain rfl : k = s.size := by omega
      have hp := HP.out
      rw [List.drop_eq_nil_of_le (by omega), parse_nil] at hp
      simp only [List.append_nil, Nat.add_zero] at hp
      have HPP := Lib.hid hp
      obtain ⟨_, a, c, hv, hrow⟩ := RowR.of_sl hsl3 hbd
      subst hv
      clear hp
      go_wp2
      go_ret3
      rw [HPP.out]
      exact ⟨a, c, rfl, hrow, hb, hsl3.cap.1, hsl3.cap.2, fun q hq => (hsl3.lt q.block (by rw [hq]; rfl)).1⟩
theorem log_parse (s : ByteArray) (w : World) (hs : s.size ≤ 100000) :
    Calls Tryz.prog 65 #[.string s] w (ParsePost w (parse s.data.toList)) :=
  (log_parse2 s w hs).mono fun e w' ⟨a, c, h1, h2, h3, _⟩ => ⟨a, c, h1, h2, h3⟩
end Go.Proofs.YtmimfkhkilijcaaGreat

/- The document's own answers on rows of records: read. -/
namespace Go.Proofs.YtmimfkhkilijcaaGreat
set_option maxRecDepth 4000
open Go.ChangeShapes Go.WideShapes Go.ChangeAt Go.RowKit
open PVar PCrc PFrame
set_option linter.unusedVariables false
set_option linter.unusedSimpArgs false

/-- What the document's Parse answers. -/
def GotPost (w : World) (p : List R × Nat × Nat) (e : Ending) (w' : World) : Prop :=
  ∃ a c, e = .returned (.agg #[.slice a p.1.length c, .int .i64 p.2.1, .int .i64 p.2.2]) ∧ RowR w' a p.1 ∧ Below w.heap.size w w' ∧ ∀ q, a = some q → w.heap.size ≤ q.block

/-- The same, and its room. -/
def GotPost2 (w : World) (p : List R × Nat × Nat) (e : Ending) (w' : World) : Prop :=
  ∃ a c, e = .returned (.agg #[.slice a p.1.length c, .int .i64 p.2.1, .int .i64 p.2.2]) ∧ RowR w' a p.1 ∧ Below w.heap.size w w' ∧ (∀ q, a = some q → w.heap.size ≤ q.block) ∧ p.1.length ≤ c ∧ c ≤ maxLen

/-- The loop's relation: what has come. -/
def GotAt (w : World) (s : ByteArray) (m : Nat) (wr : World) : Prop :=
  ∃ (rs : List R) (k : Nat) (a : Option Addr) (c : Nat), m + k = s.size ∧ Sl (w.heap.size + 2) wr 3 (.slice a rs.length c) rs.length (rv rs) ∧ (∀ r ∈ rs, (-9223372036854775808 ≤ r.1 ∧ r.1 ≤ 9223372036854775807) ∧ (-9223372036854775808 ≤ r.2.1 ∧ r.2.1 ≤ 9223372036854775807)) ∧ rs.length ≤ k ∧
    Below w.heap.size w wr ∧ w.heap.size + 2 ≤ wr.heap.size ∧ At wr w.heap.size [.slice none 0 0, .int .i64 0, .int .i64 0] ∧ At wr (w.heap.size + 1) [.slice a rs.length c, .int .i64 k, .int .i64 0] ∧
    parse s.data.toList = (rs ++ (parse (s.data.toList.drop k)).1, k + (parse (s.data.toList.drop k)).2.1, (parse (s.data.toList.drop k)).2.2)

theorem row_of_sl {B : Nat} {w : World} {a : Option Addr} {n c : Nat} {rs : List R} (h : Sl B w 3 (.slice a n c) n (rv rs)) (hn : n = rs.length) (ht : ∀ r ∈ rs, (-9223372036854775808 ≤ r.1 ∧ r.1 ≤ 9223372036854775807) ∧ (-9223372036854775808 ≤ r.2.1 ∧ r.2.1 ≤ 9223372036854775807)) : RowR w a rs := by
  obtain ⟨_, a', c', hv, hr⟩ := RowR.of_sl h ht
  cases hv
  exact hr

set_option maxRecDepth 100000 in
set_option maxHeartbeats 4000000 in
theorem ref_parse2 (s : ByteArray) (w : World) (hs : s.size ≤ 4000) :
    Calls Tryz.prog 21 #[.string s] w (GotPost2 w (parse s.data.toList)) := by
  have hsl : s.data.toList.length = s.size := by simp
  obtain ⟨i0, hi, hz0, hz1, hz2⟩ := info_parts info_rec
  go_enter Tryz.func21, Tryz.ntmps21
  go_wp2
  go_loopg [] s.size (fun m wr => GotAt w s m wr)
  case atStart =>
    have h1 := At.alloc w [.slice none 0 0, .int .i64 0, .int .i64 0] 51
    have h2 := At.alloc (w.alloc (.cells #[.slice none 0 0, .int .i64 0, .int .i64 0] 51)) [.slice none 0 0, .int .i64 0, .int .i64 0] 51
    simp only [World.size_alloc] at h2
    refine ⟨[], 0, none, 0, by omega, Sl.nil _ _ _, by simp, Nat.le_refl _, ((Below.refl _ w).alloc (Nat.le_refl _) _).alloc (by simp) _, by simp, h1.on ((Below.refl _ _).alloc (Nat.le_refl _) _), h2, by simp⟩
  case round =>
    obtain ⟨rs, k, a, c, hmk, hsl3, hbd, hrk, hb, hb2, hat1, hat2, hp⟩ := hrel
    obtain ⟨hl1, p0, f0, p1, f1, p2, f2⟩ := hat1.three
    obtain ⟨hl2, q0, g0, q1, g1, q2, g2⟩ := hat2.three
    have HP := Lib.hid hp
    clear hp
    by_cases hlt : k < s.size
    · have hfrom := fun w => from_run (P := Tryz.prog) w 9 s k k rfl Tryz.underlying9 (by omega)
      have hget := fun w => ref_fget (bstr (s.data.toList.drop k)) w (by rw [drop_size]; omega)
      rw [show (bstr (s.data.toList.drop k)).data.toList = s.data.toList.drop k from rfl] at hget
      have hne : s.data.toList.drop k ≠ [] := by
        intro h
        have := congrArg List.length h
        rw [List.length_drop] at this
        simp at this
        omega
      rcases fget_err (s.data.toList.drop k) with he | ⟨er, he, h1, h5⟩
      · obtain ⟨r, n, e0, hf⟩ : ∃ r n e, fget (s.data.toList.drop k) = (r, n, e) := ⟨_, _, _, rfl⟩
        rw [hf] at he
        simp only at he
        subst he
        obtain ⟨o1, o2, o3, o4⟩ := fget_ok hf
        have hlen : (s.data.toList.drop k).length = s.size - k := by rw [List.length_drop]; omega
        have hn0 := encR_pos r
        rw [← o3] at hn0
        have hkn : k + n ≤ s.size := by omega
        have hm := parse_more hf
        rw [hf] at hget
        have hp := HP.out
        rw [hm, List.drop_drop] at hp
        have hp2 : parse s.data.toList = ((rs ++ [r]) ++ (parse (s.data.toList.drop (k + n))).1, (k + n) + (parse (s.data.toList.drop (k + n))).2.1, (parse (s.data.toList.drop (k + n))).2.2) := by
          rw [hp, List.append_assoc, Nat.add_assoc]; rfl
        have hr1 : -9223372036854775808 ≤ r.1 ∧ r.1 ≤ 9223372036854775807 := by have := err_kind o1.1; omega
        have hbd' : ∀ x ∈ rs ++ [r], (-9223372036854775808 ≤ x.1 ∧ x.1 ≤ 9223372036854775807) ∧ (-9223372036854775808 ≤ x.2.1 ∧ x.2.1 ≤ 9223372036854775807) := by
          intro x hx
          rcases List.mem_append.1 hx with h | h
          · exact hbd x h
          · simp at h; subst h; exact ⟨hr1, o1.2⟩
        have HPP := Lib.hid hp2
        have HBD := Lib.hid hbd'
        have HG := Lib.hid hget
        clear hp hp2 hm hf hget hbd' o1 o2 o3 o4 hlen hr1 hbd
        obtain ⟨r1, r2, r3⟩ := r
        go_wp2_with (first | (go_at_call 53; refine (HG.out _).mono ?_; rintro e w2 ⟨rfl, b2⟩; have hb3 := on_below hb b2; have hatA := hat1.on b2; have hatB := hat2.on b2; have hsl4 := hsl3.on b2; obtain ⟨hm1, p0', f0', p1', f1', p2', f2'⟩ := hatA.three; obtain ⟨hm2, q0', g0', q1', g1', q2', g2'⟩ := hatB.three) | (at_builtin; refine wpList_append_sl _ rfl (.tmp 24) (.tmp 27) 49 49 rfl 57 i0 _ 32 Tryz.underlying49 hi hz0 hz1 hz2 rfl rfl ((hsl4.alloc _).alloc _) _ 1 _ rfl (src_recN Tryz.underlying49 _ (r1, r2, r3) _ _ (by simp)) (by unfold maxLen; omega) (by omega) (by have := hb3.size; simp; omega) ?_; intro v1 w3 k1 k2 k3; obtain ⟨a1, c1, hv1⟩ := k1.shape; subst hv1; have hatA3 := ((hatA.on ((Below.refl _ w2).alloc (Nat.le_refl _) _)).on ((Below.refl _ _).alloc (Nat.le_refl _) _)).upd k2 (fun e => by have := (hsl4.lt _ e).1; omega); have hatB3 := ((hatB.on ((Below.refl _ w2).alloc (Nat.le_refl _) _)).on ((Below.refl _ _).alloc (Nat.le_refl _) _)).upd k2 (fun e => by have := (hsl4.lt _ e).1; omega); have hatG3 := ((At.alloc w2 [.int .i64 r1, .int .i64 r2, .string (bstr r3), .int .i64 n, .int .i64 0] 120).on ((Below.refl _ _).alloc (Nat.le_refl _) _)).upd k2 (fun e => by have := (hsl4.lt _ e).2; omega); obtain ⟨hx2, x0, y0, x1, y1, x2, y2⟩ := hatB3.three; obtain ⟨hz2', z0, _, z1, _, z2, _, z3, _, z4, _⟩ := hatG3.five))
        have e1 : (rs ++ [(r1, r2, r3)]).length = rs.length + 1 := by simp
        have e2 : rv (rs ++ [(r1, r2, r3)]) = rv rs ++ rcells (r1, r2, r3) := by rw [rv_append]; show _ ++ (_ ++ []) = _; rw [List.append_nil]
        have hbx := ((hb3.alloc hb3.size (.cells #[.int .i64 r1, .int .i64 r2, .string (bstr r3), .int .i64 n, .int .i64 0] 120)).alloc (by have := hb3.size; simp; omega) (.cells (rcells (r1, r2, r3)).toArray 57)).upd k2 (by have := hb3.size; simp; omega) (fun i _ h => by have := (hsl4.lt i h).1; omega)
        have hby := (hbx.setCell (p := ⟨w.heap.size + 1, 0, none⟩) (by simp) (.slice a1 (rs.length + 1) c1)).setCell (p := ⟨w.heap.size + 1, 1, none⟩) (by simp) (.int .i64 ((k : Int) + n))
        have hAt1 := (hatA3.set_other (p := ⟨w.heap.size + 1, 0, none⟩) (by simp) (.slice a1 (rs.length + 1) c1)).set_other (p := ⟨w.heap.size + 1, 1, none⟩) (by simp) (.int .i64 ((k : Int) + n))
        have hAt2 := (hatB3.set 0 (by simp) (.slice a1 (rs.length + 1) c1)).set 1 (by simp) (.int .i64 ((k : Int) + n))
        have hSl := (k1.set_other (p := ⟨w.heap.size + 1, 0, none⟩) (by simp) (.slice a1 (rs.length + 1) c1)).set_other (p := ⟨w.heap.size + 1, 1, none⟩) (by simp) (.int .i64 ((k : Int) + n))
        go_roundg (gk - n)
        case measure => omega
        case rel =>
          refine ⟨rs ++ [(r1, r2, r3)], k + n, a1, c1, by omega, ?_, HBD.out, by rw [e1]; omega, hby, by have := hAt2.1; omega, hAt1, ?_, HPP.out⟩
          · rw [e1, e2]
            exact hSl
          · rw [e1]
            exact hAt2
      · have hbad := parse_bad hne (by rw [he]; simp; omega)
        rw [he] at hget hbad
        have HG := Lib.hid hget
        have he0 : ((er : Int) == 0) = false := by simp; omega
        have he1 : ((er : Int) != 0) = true := by simp; omega
        have hp := HP.out
        rw [hbad] at hp
        simp only [List.append_nil, Nat.add_zero] at hp
        have HPP := Lib.hid hp
        clear hget hbad he hp
        go_wp2_with (first | (go_at_call 53; refine (HG.out _).mono ?_; rintro e w2 ⟨rfl, b2⟩; have hb3 := on_below hb b2; have hatA := hat1.on b2; have hatB := hat2.on b2; have hsl4 := hsl3.on b2; obtain ⟨hm1, p0', f0', p1', f1', p2', f2'⟩ := hatA.three; obtain ⟨hm2, q0', g0', q1', g1', q2', g2'⟩ := hatB.three; have hpp2 : ∀ x, (w2.setCell ⟨w.heap.size + 1, 2, none⟩ x).cell? ⟨w.heap.size + 1, 2, none⟩ = some x := fun x => ((hatB.set 2 (by simp) x).2 2 (by simp)).1))
        obtain ⟨P0, P1, P2⟩ := (hatA.set_other (p := ⟨w.heap.size + 1, 2, none⟩) (by simp) (.int .i64 er)).put3
        refine bodyPost_ret (v := .agg #[.slice a rs.length c, .int .i64 k, .int .i64 er]) (by simp [results, Tryz.results21, go_sem, P0, P1, P2, hm1]) rfl ?_
        rw [HPP.out]
        have hbl := (((hb3.setCell (p := ⟨w.heap.size + 1, 2, none⟩) (by simp) (.int .i64 er)).setCell (p := ⟨w.heap.size, 0, none⟩) (Nat.le_refl _) (.slice a rs.length c)).setCell (p := ⟨w.heap.size, 1, none⟩) (Nat.le_refl _) (.int .i64 k)).setCell (p := ⟨w.heap.size, 2, none⟩) (Nat.le_refl _) (.int .i64 er)
        exact ⟨a, c, rfl, row_of_sl (((((hsl4.set_other (by simp) _).set_other (by simp) _).set_other (by simp) _).set_other (by simp) _).alloc _) rfl hbd, hbl.alloc hbl.size _, fun q e => by subst e; have := (hsl4.lt _ rfl).1; omega, hsl4.cap⟩
    · obtain rfl : k = s.size := by omega
      have hp := HP.out
      rw [List.drop_eq_nil_of_le (by omega), parse_nil] at hp
      simp only [List.append_nil, Nat.add_zero] at hp
      have HPP := Lib.hid hp
      obtain ⟨P0, P1, P2⟩ := hat1.put3
      clear hp
      go_wp2
      refine bodyPost_ret (v := .agg #[.slice a rs.length c, .int .i64 s.size, .int .i64 0]) (by simp [results, Tryz.results21, go_sem, P0, P1, P2]) rfl ?_
      rw [HPP.out]
      exact ⟨a, c, rfl, row_of_sl (((hsl3.set_other (by simp) _).set_other (by simp) _).set_other (by simp) _) rfl hbd, ((hb.setCell (Nat.le_refl _) _).setCell (Nat.le_refl _) _).setCell (Nat.le_refl _) _, fun q e => by subst e; have := (hsl3.lt _ rfl).1; omega, hsl3.cap⟩
theorem ref_parse (s : ByteArray) (w : World) (hs : s.size ≤ 4000) :
    Calls Tryz.prog 21 #[.string s] w (GotPost w (parse s.data.toList)) :=
  (ref_parse2 s w hs).mono fun e w' ⟨a, c, h1, h2, h3, h4, _⟩ => ⟨a, c, h1, h2, h3, h4⟩
end Go.Proofs.YtmimfkhkilijcaaGreat
