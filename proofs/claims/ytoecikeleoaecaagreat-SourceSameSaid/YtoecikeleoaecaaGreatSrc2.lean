/- Contracts of source's calls: what came out; an event more. -/
import Derived.Test.YtoecikeleoaecaaGreatSrc1
import Derived.Test.YtoecikeleoaecaaGreatClones
import Derived.Test.YtoecikeleoaecaaGreatKRing
namespace Go.Proofs.YtoecikeleoaecaaGreat
set_option maxRecDepth 4000
open Go.ChangeShapes Go.WideShapes Go.ChangeAt Go.RowKit
open PHist PRing PSat PClamp PBound PFrame PVar PCrc PSign PTree PEv
set_option linter.unusedVariables false
set_option linter.unusedSimpArgs false

section
variable {P : Program}
/-- A slice from place i on; none is where there was none. -/
theorem sl_from_n {B : Nat} {w : World} {size : Nat} {v : Value} {n : Nat} {xs : List Value} (h : Sl B w size v n xs) {t e : TypeId} (ht : P.underlying t = some (.slice e)) (hz : ∀ w, (Go.sizeOf e).run P w = .ok size w) (i : Nat) (zi : Int) (hzi : zi = i) (hi : i ≤ n) (h1 : ∀ u ∈ xs, u.oneCell' = true) :
    ∃ a m c, m = n - i ∧ (∀ w', (Instr.slice t v (some (.int .i64 zi)) none none).run P w' = .ok (.slice a m c) w') ∧ (∀ w', Sl B w' size v n xs → Src P size t (.slice a m c) m (xs.drop (i * size)) w') ∧ (a = none → m = 0) := by
  subst hzi
  have ht' : P.underlying t = some (.slice (P.elem t)) := by simp [Program.elem, ht]
  have he : P.elem t = e := by simp [Program.elem, ht]
  obtain ⟨a, c, rfl⟩ := h.shape
  refine ⟨if n = i ∧ c = i then a else if c = i then a else a.map (·.add (i * size)), n - i, c - i, rfl, fun w' => ?_, fun w' h' => ?_, fun e => ?_⟩
  · rw [run_slice_l w' t a n c ht' .i64 (i : Int) (by omega) (by omega), he, hz]
    simp only [Result.andThen, sliced, Int.toNat_natCast]
    by_cases hc : c = i <;> simp [hc]
  · rcases h'.2 with ⟨h0, h00⟩ | ⟨g, off, cap, e0, hb, hg, hn, hm, h3, h4⟩
    · cases h0
      have : i = 0 := by omega
      subst this
      have hx : xs = [] := List.eq_nil_of_length_eq_zero (by have := h.1; omega)
      subst hx
      simp
      exact Src.ofNil w' ht _
    · cases e0
      have hl := h.1
      by_cases hc : c = i
      · have hni : n = i := by omega
        subst hni
        rw [hc]
        simp only [Nat.sub_self, and_self, if_true]
        rw [List.drop_of_length_le (by omega)]
        exact Src.ofSlice w' ht _ _ _ [] (by simp) (fun j u hu => by simp at hu) (fun u hu => by cases hu)
      · rw [if_neg (by omega), if_neg hc]
        show Src P size t (.slice (some ((Addr.mk g off none).add (i * size))) (n - i) (c - i)) (n - i) _ w'
        refine Src.ofSlice w' ht _ _ _ _ (by rw [List.length_drop, hl, Nat.sub_mul]) (fun j u hu => ?_) (fun u hu => h1 u (List.mem_of_mem_drop hu))
        rw [List.getElem?_drop] at hu
        have hj := (List.getElem?_eq_some_iff.1 hu).1
        rw [Addr.add_lit, Addr.add_lit, ← hu, Nat.add_assoc]
        exact h3 _ (by omega)
  · rcases h.2 with ⟨h0, h00⟩ | ⟨g, off, cap, e0, hb, hg, hn, hm, h3, h4⟩
    · omega
    · cases e0
      exfalso
      revert e
      split
      · intro e; cases e
      · split
        · intro e; cases e
        · intro e; cases e
theorem sl_nil_n {B : Nat} {w : World} {size : Nat} {a : Option Addr} {n c m : Nat} {xs : List Value} (h : Sl B w size (.slice a n c) m xs) (ha : a = none) : m = 0 := by
  rcases h.2 with ⟨h0, h00⟩ | ⟨g, off, cap, e0, hb, hg, hn, hm, h3, h4⟩
  · exact h00
  · subst ha; cases e0
theorem sl_cap_n {B : Nat} {w : World} {size : Nat} {a : Option Addr} {n c m : Nat} {xs : List Value} (h : Sl B w size (.slice a n c) m xs) : m ≤ c ∧ c ≤ maxLen := by
  rcases h.2 with ⟨h0, h00⟩ | ⟨g, off, cap, e0, hb, hg, hn, hm, h3, h4⟩
  · cases h0; exact ⟨by omega, Nat.zero_le _⟩
  · cases e0; exact ⟨hn, hm⟩
/-- A whole row of one's own, as what is appended. -/
theorem src_sl {B : Nat} {w : World} {size : Nat} {a : Option Addr} {n c m : Nat} {xs : List Value} (h : Sl B w size (.slice a n c) m xs) {t e : TypeId} (ht : P.underlying t = some (.slice e)) (h1 : ∀ u ∈ xs, u.oneCell' = true) : Src P size t (.slice a n c) m xs w := by
  rcases h.2 with ⟨h0, h00⟩ | ⟨g, off, cap, e0, hb, hg, hn, hm, h3, h4⟩
  · cases h0
    have hx : xs = [] := List.eq_nil_of_length_eq_zero (by have := h.1; rw [h00] at this; omega)
    subst hx; subst h00
    exact Src.ofNil w ht _
  · cases e0
    refine Src.ofSlice w ht _ _ _ _ h.1 (fun j u hu => ?_) h1
    have hj := (List.getElem?_eq_some_iff.1 hu).1
    rw [Addr.add_lit, ← hu]
    exact h3 _ (by have := h.1; omega)
end
theorem evv_one (l : List Ev) : ∀ u ∈ l.map evv, u.oneCell' = true := by
  intro u hu
  obtain ⟨v, _, rfl⟩ := List.mem_map.1 hu
  cases v <;> rfl

set_option maxHeartbeats 1000000 in
theorem so_events (tag : Nat → Nat) (W : Nat → Nat → Prop) (ev : Value) (V : SrcV) (g : Nat) (x : Lo) (w : World) (h : SrcC w tag W ev V g x) (hb : x.evs.length ≤ 100000) :
    Calls Tryz.prog 24 #[.pointer (some ⟨g, 0, none⟩)] w (ClPost 1 x.evs.length (x.evs.map evv) w) := by
  obtain ⟨hg, c0, z0, c1, z1, c2, z2, c3, z3, c4, z4, c5, z5⟩ := h.blk.cells6
  obtain ⟨a, c, rfl⟩ := h.evr.shape
  have HC := Lib.hid (cl_ev a x.evs.length c (x.evs.map evv) w (fun w' hw => src_sl (h.evr.onW hw) Tryz.underlying41 (evv_one _)) (fun e => by have := sl_nil_n h.evr e; exact ⟨this, by rw [List.eq_nil_of_length_eq_zero this]; rfl⟩) hb)
  clear h
  generalize x.evs.length = n at *
  generalize x.evs.map evv = xs at *
  go_enter Tryz.func24, Tryz.ntmps24
  go_wp2_with (first | (go_at_call 58; (with_reducible refine HC.out.mono ?_); rintro e w1 ⟨v, rfl, q1, q2⟩))
  go_ret
  exact ⟨v, rfl, q1, q2⟩
set_option maxHeartbeats 1000000 in
theorem so_begin (tag : Nat → Nat) (W : Nat → Nat → Prop) (ev : Value) (V : SrcV) (g : Nat) (x : Lo) (w : World) (h : SrcC w tag W ev V g x) (hb : x.evs.length ≤ 100000) (hk : x.beg ≤ x.evs.length) :
    Calls Tryz.prog 19 #[.pointer (some ⟨g, 0, none⟩)] w (ClPost 1 x.beg ((x.evs.take x.beg).map evv) w) := by
  obtain ⟨hg, c0, z0, c1, z1, c2, z2, c3, z3, c4, z4, c5, z5⟩ := h.blk.cells6
  obtain ⟨a, m, c, rfl, hrun, hsrc⟩ := sl_to h.evr (P := Tryz.prog) Tryz.underlying41 (by intro w; kernel_rfl) x.beg x.beg rfl hk (evv_one _)
  have hnil : a = none → x.beg = 0 := by
    intro e
    obtain ⟨a', c', rfl⟩ := h.evr.shape
    have h1 := part_to (P := Tryz.prog) (a := a') (n := x.evs.length) (c := c') (m := 1) (t := 41) (e := 67) (sl_cap_n h.evr).2 Tryz.underlying41 (by intro w; kernel_rfl) x.beg x.beg rfl (by have := (sl_cap_n h.evr).1; omega) w
    rw [hrun w] at h1
    cases h1
    have := sl_nil_n h.evr e
    omega
  have HC := fun w1 (hw : Below w.heap.size w w1) => Lib.hid (cl_ev a x.beg c ((x.evs.map evv).take (x.beg * 1)) w1 (fun w' hw' => hsrc w' (h.evr.onW (on_below hw hw'))) (fun e => by have := hnil e; exact ⟨this, by rw [this]; simp⟩) (by omega))
  have HX := Lib.hid (show (x.evs.map evv).take (x.beg * 1) = (x.evs.take x.beg).map evv by rw [Nat.mul_one, List.map_take])
  clear hsrc hnil hb hk h
  rw [← HX.out]
  generalize (x.evs.map evv).take (x.beg * 1) = xs at *
  clear HX
  generalize x.beg = n at *
  go_enter Tryz.func19, Tryz.ntmps19
  go_wp2
  go_region_with (first | (go_at_call 58; refine (HC _ (Below.refl _ _).drew).out.mono ?_; rintro e w1 ⟨v, rfl, q1, q2⟩))
  all_goals (go_wp2; go_ret; exact ⟨v, rfl, q1, on_below (Below.refl _ _).drew q2⟩)
set_option maxHeartbeats 1000000 in
theorem so_late (tag : Nat → Nat) (W : Nat → Nat → Prop) (ev : Value) (V : SrcV) (g : Nat) (x : Lo) (r : R) (o : Bool) (w : World) (h : SrcC w tag W ev V g x) (ho : lateOf x.now r = o) :
    Calls Tryz.prog 113 #[.pointer (some ⟨g, 0, none⟩), .agg #[.int .i64 r.1, .int .i64 r.2.1, .string (bstr r.2.2)]] w fun e w' => e = .returned (.bool o) ∧ Below w.heap.size w w' := by
  have hb0 : Below w.heap.size w (w.alloc (.cells #[.int .i64 r.1, .int .i64 r.2.1, .string (bstr r.2.2)] 117)) := (Below.refl _ _).alloc (Nat.le_refl _) _
  have HN := fun q => Lib.hid (so_now tag W ev V g x _ ((h.on hb0).drewN q))
  have hA := At.alloc w [.int .i64 r.1, .int .i64 r.2.1, .string (bstr r.2.2)] 117
  unfold lateOf at ho
  obtain ⟨rk, rt, rx⟩ := r
  simp only at *
  have HB := Lib.hid hb0
  clear h hb0
  generalize x.now = now at *
  by_cases h0 : now = -9223372036854775808
  · rw [decide_eq_false (by omega)] at ho
    subst ho
    subst h0
    go_enter Tryz.func113, Tryz.ntmps113
    go_wp2
    generalize w.alloc (.cells #[.int .i64 rk, .int .i64 rt, .string (bstr rx)] 117) = w0 at *
    obtain ⟨hg, c0, z0, c1, z1, c2, z2⟩ := hA.three
    go_quiet (first | (go_at_call 22; (with_reducible refine (HN _).out.mono ?_); rintro e wq ⟨rfl, rfl⟩; exact ⟨rfl, _, rfl⟩))
    go_wp2
    go_ret
    exact ⟨rfl, below_drewN HB.out _⟩
  · have h0c : (now != -9223372036854775808) = true := by rw [bne_iff_ne]; exact h0
    by_cases h1 : rt ≤ now
    · rw [decide_eq_true ⟨h0, h1⟩] at ho
      subst ho
      clear h0
      go_enter Tryz.func113, Tryz.ntmps113
      go_wp2
      generalize w.alloc (.cells #[.int .i64 rk, .int .i64 rt, .string (bstr rx)] 117) = w0 at *
      obtain ⟨hg, c0, z0, c1, z1, c2, z2⟩ := hA.three
      go_quiet (first | (go_at_call 22; (with_reducible refine (HN _).out.mono ?_); rintro e wq ⟨rfl, rfl⟩; exact ⟨rfl, _, rfl⟩))
      go_wp2
      go_ret
      exact ⟨rfl, below_drewN HB.out _⟩
    · rw [decide_eq_false (by omega)] at ho
      subst ho
      clear h0
      have h1' : now < rt := by omega
      clear h1
      go_enter Tryz.func113, Tryz.ntmps113
      go_wp2
      generalize w.alloc (.cells #[.int .i64 rk, .int .i64 rt, .string (bstr rx)] 117) = w0 at *
      obtain ⟨hg, c0, z0, c1, z1, c2, z2⟩ := hA.three
      go_quiet (first | (go_at_call 22; (with_reducible refine (HN _).out.mono ?_); rintro e wq ⟨rfl, rfl⟩; exact ⟨rfl, _, rfl⟩))
      go_wp2
      go_ret
      exact ⟨ret_bool (by simp <;> omega), below_drewN HB.out _⟩
set_option maxHeartbeats 1000000 in
theorem so_tell (tag : Nat → Nat) (W : Nat → Nat → Prop) (ev : Value) (V : SrcV) (g : Nat) (x : Lo) (v : Ev) (u : Value) (hv : evv v = u) (w : World) (h : SrcC w tag W ev V g x) (hb : x.evs.length ≤ 100000) :
    Calls Tryz.prog 102 #[.pointer (some ⟨g, 0, none⟩), u] w fun e w' => e = .returned (.tuple #[]) ∧ SrPost tag V g { x with evs := x.evs ++ [v] } w w' := by
  obtain ⟨hg, c0, z0, c1, z1, c2, z2, c3, z3, c4, z4, c5, z5⟩ := h.blk.cells6
  obtain ⟨a, c, rfl⟩ := h.evr.shape
  obtain ⟨i0, hi0, hz0, hz1, hz2⟩ := info_parts info_cl_ev
  obtain ⟨t, y, hy⟩ := evv_ifc v
  rw [hv] at hy
  subst hy
  have HV := Lib.hid hv
  have HH := Lib.hid h
  have hs := h.evr.alloc (.cells #[.iface t y] 67)
  have hm1 : x.evs.length + 1 ≤ maxLen := by unfold maxLen; omega
  have HX := Lib.hid (rfl : x.evs.map evv = x.evs.map evv)
  clear h hv
  have hnb : x.evs.length = x.evs.length := rfl
  go_enter Tryz.func102, Tryz.ntmps102
  go_wp2_with (at_builtin; refine wpList_append_sl _ rfl (.tmp 8) (.tmp 10) 41 41 rfl 67 i0 .nilIface 16 Tryz.underlying41 hi0 hz0 hz1 hz2 rfl rfl hs _ 1 [.iface t y] rfl (src_oneN Tryz.underlying41 _ (.iface t y) _ _ rfl rfl) hm1 (by omega) (by omega) ?_; intro v1 w1 k1 k2 k3; obtain ⟨a1, c1', rfl⟩ := k1.shape; have hcg := HH.out.k1 (t := 5) ((Upd.refl _ _).alloc (.cells #[.iface t y] 67) |>.trans k2 (fun _ _ h => h)) (fun b _ e => HH.out.t5 b e) (by omega); obtain ⟨hg', d0, y0, d1, y1, d2, y2, d3, y3, d4, y4, d5, y5⟩ := hcg.cells6)
  go_end0
  have hu2 : Upd (fun b => (Value.slice a x.evs.length c).ownBlock = some b) w w1 := ((Upd.refl _ _).alloc (.cells #[.iface t y] 67)).trans k2 (fun _ _ h => h)
  have r := HH.out.toEv v (N := (w.alloc (.cells #[.iface t y] 67)).heap.size) (by simp) (by rw [HV.out]; exact k1) hu2 k3
  refine ⟨rfl, _, _, _, r, ?_, fun b hb => ?_⟩
  · exact (hu2.mono (fun b _ e => by have := HH.out.t5 b e; omega)).setCell (p := ⟨g, 4, none⟩) (fun _ => by have := HH.out.t1; show tag g ≠ 0; omega) _
  · unfold retag at hb
    split at hb
    · exact .inl hb
    · right; omega
end Go.Proofs.YtoecikeleoaecaaGreat
