/- ring, of numbers: contracts of its calls. -/
import Derived.Test.YthlhbkcbemgkeaaRingBase
import Derived.Test.YthlhbkcbemgkeaaSub
import Derived.BigRegion
import Derived.Test.YthlhbkcbemgkeaaInts
namespace Go.Proofs.Ythlhbkcbemgkeaa
open Go.ChangeShapes Go.WideShapes Go.ChangeAt Go.RowKit
open PRing
set_option linter.unusedVariables false
set_option linter.unusedSimpArgs false

set_option maxHeartbeats 400000 in
theorem ri_new (n : Int) (r : Nat) (hr : (r : Int) = max n 1) (h2 : r ≤ 1000) (w : World) :
    Calls Try.prog 9 #[.int .i64 n] w fun e w' => e = .returned (.pointer (some ⟨w.heap.size, 0, none⟩)) ∧ RNew w.heap.size r w w' := by
  go_enter Try.func9, Try.ntmps9
  go_wp2
  case inr | inl =>
    go_ret
    exact ⟨rfl, ring_made w r _ (by omega) (by omega) _⟩

set_option maxHeartbeats 400000 in
theorem ri_place (F : Nat → Prop) (g r : Nat) (v : Value) (e : Nat) (xs : List Value) (z : Int) (i : Nat) (hzi : z = i) (w : World) (h : RingC w F g r v e xs) (hi : i ≤ 1000) (hx : 0 < xs.length) (h2 : r ≤ 1000) :
    Calls Try.prog 30 #[.pointer (some ⟨g, 0, none⟩), .int .i64 z] w fun z w' => z = .returned (.int .i64 ((e + i) % xs.length : Nat)) ∧ ∃ n, w' = w.drewN n := by
  subst hzi
  obtain ⟨hat, hsl, hF, hr1, hr2, hr3, hr4⟩ := h
  obtain ⟨hg, c0, z0, c1, z1, c2, z2⟩ := hat.three
  go_enter Try.func30, Try.ntmps30
  have hl := hsl.len
  have he : e ≤ 1000 := by omega
  obtain ⟨a, c, rfl⟩ := hsl.shape
  go_wp2
  go_quiet (fail)
  go_wp2
  go_ret
  exact ⟨ret_int (by simp), _, rfl⟩

theorem RingC.cell {w : World} {F : Nat → Prop} {g r : Nat} {a : Option Addr} {n c : Nat} {e : Nat} {xs : List Value} (h : RingC w F g r (.slice a n c) e xs) (k : Nat) (hk : k < xs.length) : n = xs.length ∧ ∃ b off, a = some ⟨b, off, none⟩ ∧ w.cell? ⟨b, off + k, none⟩ = xs[k]? ∧ w.frozen? ⟨b, off + k, none⟩ = false ∧ F b ∧ b ≠ g ∧ b < w.heap.size := by
  obtain ⟨h1, h2⟩ := h.sl
  rcases h2 with ⟨_, h0⟩ | ⟨b, off, cap, e0, _, hb, hn, _, h3, h4⟩
  · omega
  · cases e0
    obtain ⟨hf, hne⟩ := h.own.2.2 b rfl
    exact ⟨rfl, b, off, rfl, h3 k (by omega), (h4 k (by omega)).2, hf, hne, hb⟩

set_option maxHeartbeats 400000 in
theorem ri_at (F : Nat → Prop) (g r : Nat) (l : List Value) (i : Nat) (x : Value) (w : World) (h : Ring w F g r l) (hi : i < l.length) (hx : l[i]? = some x) (h2 : r ≤ 1000) :
    Calls Try.prog 15 #[.pointer (some ⟨g, 0, none⟩), .int .i64 i] w fun z w' => z = .returned (.tuple #[x, .bool true]) ∧ ∃ n, w' = w.drewN n := by
  obtain ⟨v, e, xs, h, rfl⟩ := h
  have HP := fun n => Lib.hid (ri_place F g r v e xs i i rfl (w.drewN n) (h.drewN n) (by have := h.room; rw [view_len] at hi; omega) (by rw [view_len] at hi; omega) h2)
  rw [view_len] at hi
  obtain ⟨a, c, rfl⟩ := h.sl.shape
  have hxs : 0 < xs.length := by omega
  have hm : (e + i) % xs.length < xs.length := Nat.mod_lt _ hxs
  obtain ⟨_, b, off, rfl, cb, zb, hf, hne, hb⟩ := h.cell _ hm
  rw [view_get e xs (by have := h.eld; omega) i hi] at hx
  rw [hx] at cb
  clear hx
  generalize hq : (e + i) % xs.length = q at *
  have HQ := Lib.hid hq
  clear hq
  have hl := h.sl.len
  have hr2 := h.room
  obtain ⟨hg, c0, z0, c1, z1, c2, z2⟩ := h.at_.three
  clear h
  go_enter Try.func15, Try.ntmps15
  go_wp2
  go_quiet ((go_at_call 30; exact Calls.quiet_of (HP _).out))
  go_wp2
  go_ret2
  exact ⟨rfl, _, rfl⟩

set_option maxHeartbeats 400000 in
theorem ri_at_none (F : Nat → Prop) (g r : Nat) (l : List Value) (i : Int) (w : World) (h : Ring w F g r l) (hi : i < 0 ∨ (l.length : Int) ≤ i) (h1 : -9223372036854775808 ≤ i) (h3 : i ≤ 9223372036854775807) (h2 : r ≤ 1000) :
    Calls Try.prog 15 #[.pointer (some ⟨g, 0, none⟩), .int .i64 i] w fun z w' => z = .returned (.tuple #[.int .i64 0, .bool false]) ∧ w' = w := by
  obtain ⟨v, e, xs, h, rfl⟩ := h
  rw [view_len] at hi
  obtain ⟨a, c, rfl⟩ := h.sl.shape
  have hl := h.sl.len
  obtain ⟨hg, c0, z0, c1, z1, c2, z2⟩ := h.at_.three
  clear h
  go_enter Try.func15, Try.ntmps15
  go_wp2
  all_goals (go_ret2; exact ⟨rfl, rfl⟩)

set_option maxHeartbeats 400000 in
theorem ri_len (F : Nat → Prop) (g r : Nat) (l : List Value) (w : World) (h : Ring w F g r l) : Calls Try.prog 11 #[.pointer (some ⟨g, 0, none⟩)] w fun z w' => z = .returned (.int .i64 l.length) ∧ w = w' := by
  obtain ⟨v, e, xs, h, rfl⟩ := h
  obtain ⟨a, c, rfl⟩ := h.sl.shape
  obtain ⟨hg, c0, z0, c1, z1, c2, z2⟩ := h.at_.three
  rw [view_len]
  go_enter Try.func11, Try.ntmps11
  go_wp2
  go_ret
  exact ⟨rfl, rfl⟩

set_option maxHeartbeats 400000 in
theorem ri_room (F : Nat → Prop) (g r : Nat) (l : List Value) (w : World) (h : Ring w F g r l) : Calls Try.prog 12 #[.pointer (some ⟨g, 0, none⟩)] w fun z w' => z = .returned (.int .i64 r) ∧ w = w' := by
  obtain ⟨v, e, xs, h, rfl⟩ := h
  obtain ⟨hg, c0, z0, c1, z1, c2, z2⟩ := h.at_.three
  go_enter Try.func12, Try.ntmps12
  go_wp2
  go_ret
  exact ⟨rfl, rfl⟩

set_option maxHeartbeats 800000 in
/-- There is room: one more. -/
theorem ri_push_room (F : Nat → Prop) (g r : Nat) (l : List Value) (x : Int) (w : World) (h : Ring w F g r l) (hl : l.length < r) (h2 : r ≤ 1000) :
    Calls Try.prog 10 #[.pointer (some ⟨g, 0, none⟩), .int .i64 x] w fun z w' => z = .returned (.tuple #[.int .i64 0, .bool false]) ∧ RPush F g r (l ++ [.int .i64 x]) w w' := by
  obtain ⟨v, e, xs, h, rfl⟩ := h
  rw [view_len] at hl
  obtain ⟨a, c, rfl⟩ := h.sl.shape
  have hm := h.sl.len
  have he := h.first hl
  subst he
  obtain ⟨hg, c0, z0, c1, z1, c2, z2⟩ := h.at_.three
  obtain ⟨i0, hi0, hz0, hz1, hz2⟩ := info_parts info_int
  go_enter Try.func10, Try.ntmps10
  go_wp2
  go_quiet (fail)
  have hs := h.sl
  go_wp2_with (at_builtin; refine wpList_append_sl _ rfl (.tmp 20) (.tmp 22) 22 22 rfl 3 i0 (.int .i64 0) 8 Try.underlying22 hi0 hz0 hz1 hz2 rfl rfl ((hs.drewN _).alloc _) _ 1 [.int .i64 x] rfl (src_oneN Try.underlying22 _ (.int .i64 x) _ _ (by simp) rfl) (by unfold maxLen; omega) (by omega) (by simp) ?_; intro v1 w1 k1 k2 k3; have hu := ((Upd.refl (fun _ => False) w).drewN nq).alloc (.cells #[.int .i64 x] 3); obtain ⟨hg1, d0, y0, d1, y1, d2, y2⟩ := (ring_put h hu k2).three; obtain ⟨av, cv, rfl⟩ := k1.shape)
  go_wp2
  go_ret2
  exact ⟨rfl, ring_push_room h hl hu k1 k2 k3⟩

set_option maxHeartbeats 800000 in
/-- There is none: the eldest goes. -/
theorem ri_push_full (F : Nat → Prop) (g r : Nat) (l : List Value) (x : Int) (y : Value) (w : World) (h : Ring w F g r l) (hl : l.length = r) (hy : l[0]? = some y) (h2 : r ≤ 1000) :
    Calls Try.prog 10 #[.pointer (some ⟨g, 0, none⟩), .int .i64 x] w fun z w' => z = .returned (.tuple #[y, .bool true]) ∧ RPush F g r (l.drop 1 ++ [.int .i64 x]) w w' := by
  obtain ⟨v, e, xs, h, rfl⟩ := h
  rw [view_len] at hl
  subst hl
  obtain ⟨a, c, rfl⟩ := h.sl.shape
  have hm := h.sl.len
  have hr1 := h.one
  have hxs : 0 < xs.length := by omega
  have he : e < xs.length := by have := h.eld; omega
  obtain ⟨_, b, off, rfl, cb, zb, hf, hne, hb⟩ := h.cell e he
  rw [view_head e xs he] at hy
  rw [hy] at cb
  obtain ⟨hg, c0, z0, c1, z1, c2, z2⟩ := h.at_.three
  go_enter Try.func10, Try.ntmps10
  go_wp2
  go_quiet (fail)
  obtain ⟨n1, e1⟩ : ∃ n, n = nq := ⟨nq, rfl⟩
  subst e1
  go_wp2
  go_quiet (fail)
  go_wp2
  have hC := (h.drewN n1).drewN nq
  have cb' : ((w.drewN n1).drewN nq).cell? ⟨b, off + e, none⟩ = some y := cb
  have hu0 : Upd (fun _ => False) w ((w.drewN n1).drewN nq) := ((Upd.refl _ w).drewN _).drewN _
  clear c0 c1 c2 z0 z1 z2 cb zb hg
  generalize (w.drewN n1).drewN nq = w2 at *
  obtain ⟨hg, c0, z0, c1, z1, c2, z2⟩ := hC.at_.three
  obtain ⟨_, b', off', hb', cb, zb, _⟩ := hC.cell e he
  cases hb'
  have HS := hC.at_
  go_region
  obtain ⟨hC3, hu3⟩ := ring_over hC hu0 he (.int .i64 x)
  have hC3 := hC3.drewN 1
  have hu3 := hu3.drew
  change RingC (w2.setCell ⟨b, off + e, none⟩ (.int .i64 x)).drew F g xs.length _ e _ at hC3
  generalize (w2.setCell ⟨b, off + e, none⟩ (.int .i64 x)).drew = w3 at *
  have HP := Lib.hid (ri_place F g xs.length _ e _ 1 1 rfl w3 hC3 (by omega) (by simp; omega) h2)
  go_wp2_with (go_at_call 30; go_loud (refine HP.out.mono ?_); rintro z w4 ⟨rfl, n4, rfl⟩; have hC4 := hC3.drewN n4; obtain ⟨hg4, d0, y0, d1, y1, d2, y2⟩ := hC4.at_.three)
  go_wp2
  go_ret2
  exact ⟨rfl, ring_push_full hC4 (hu3.drewN n4) h hxs _ (by simp)⟩
set_option maxHeartbeats 800000 in
/-- All of them, the eldest first: a row of its own. -/
theorem ri_all (F : Nat → Prop) (g r : Nat) (l : List Value) (w : World) (h : Ring w F g r l) (hone : ∀ u ∈ l, u.oneCell' = true) (h2 : r ≤ 1000) :
    Calls Try.prog 14 #[.pointer (some ⟨g, 0, none⟩)] w fun z w' => ∃ v, z = .returned v ∧ Sl w.heap.size w' 1 v l.length l ∧ Below w.heap.size w w' := by
  obtain ⟨v, e, xs, h, rfl⟩ := h
  rw [view_len]
  obtain ⟨a, c, rfl⟩ := h.sl.shape
  have hm := h.sl.len
  have hr := h.room
  obtain ⟨hg, c0, z0, c1, z1, c2, z2⟩ := h.at_.three
  have km := make_ints xs.length (by omega)
  obtain ⟨i0, hi0, hz0, hz1, hz2⟩ := info_parts info_int
  have hsz : ∀ w, (Go.sizeOf 3).run Try.prog w = .ok 1 w := fun w => by kernel_rfl
  have hel : e ≤ xs.length := by have := h.eld; omega
  have hone' : ∀ u ∈ xs, u.oneCell' = true := fun u hu => hone u ((view_mem e xs u).2 hu)
  obtain ⟨a1, m1, c1', hm1, kf, hsf⟩ := sl_from h.sl Try.underlying22 hsz e e rfl hel hone'
  obtain ⟨a2, m2, c2', hm2, kt, hst⟩ := sl_to h.sl Try.underlying22 hsz e e rfl hel hone'
  have hm2' := hm2.symm
  subst hm1 hm2'
  go_enter Try.func14, Try.ntmps14
  go_wp2
  obtain ⟨W1, hW1⟩ : ∃ W1, W1 = w.alloc (Obj.cells (madeCells #[Value.int IntKind.i64 0] xs.length) 3) := ⟨_, rfl⟩
  have hu1 : Upd (fun _ => False) w W1 := by rw [hW1]; exact (Upd.refl _ w).alloc _
  have hs0 : Sl w.heap.size W1 1 (.slice (some ⟨w.heap.size, 0, none⟩) 0 xs.length) 0 [] := by
    rw [hW1]
    have := Sl.made (B := w.heap.size) w (madeCells #[Value.int IntKind.i64 0] xs.length) 3 1 0 xs.length (Nat.le_refl _) (Nat.zero_le _) hm (by simp [madeCells])
    simpa using this
  have h1 := h.upd hu1 (fun _ _ h => h)
  rw [← hW1]
  clear hW1 c0 z0 c1 z1 c2 z2 hg
  obtain ⟨hg, c0, z0, c1, z1, c2, z2⟩ := h1.at_.three
  obtain ⟨v2, W2, hr2, hs2, hu2, ho2⟩ := run_append_sl W1.drew 22 22 22 3 i0 (.int .i64 0) 8 Try.underlying22 hi0 hz0 hz1 hz2 rfl (hs0.drewN 1) _ _ _ (hsf W1.drew (h1.drewN 1).sl) (by unfold maxLen at *; omega) (by omega) (by have := hu1.size; exact this)
  obtain ⟨av, cv, rfl⟩ := hs2.shape
  go_region_law (refine step_append_run rfl _ _ 22 22 rfl _ _ (by simp [Act.eval, Act.put]) (by simp [Act.eval, Act.put]) hr2 ?_)
  all_goals (
    go_wp2
    simp [Act.put]
    have hu12 : Upd (fun k => w.heap.size ≤ k) w W2 := hu1.drew.cat hu2 (fun _ _ h => h.elim) (fun k _ hk => by simp [Value.ownBlock] at hk; omega)
    have hh2 := h.upd hu12 (fun k hk hn => by have := h.own.2.1 k hk; omega)
    clear c0 z0 c1 z1 c2 z2 hg
    obtain ⟨hg, c0, z0, c1, z1, c2, z2⟩ := hh2.at_.three
    have hb2 : w.heap.size ≤ W2.heap.size := hu12.size
    obtain ⟨v3, W3, hr3, hs3, hu3, ho3⟩ := run_append_sl W2.drew 22 22 22 3 i0 (.int .i64 0) 8 Try.underlying22 hi0 hz0 hz1 hz2 rfl (hs2.drewN 1) _ _ _ (hst W2.drew (hh2.drewN 1).sl) (by unfold maxLen at *; omega) (by omega) hb2
    obtain ⟨aw, cw, rfl⟩ := hs3.shape
    go_region_law (refine step_append_run rfl _ _ 22 22 rfl _ _ (by simp [Act.eval, Act.put]) (by simp [Act.eval, Act.put]) hr3 ?_)
    all_goals go_wp2
    all_goals simp [Act.put]
    all_goals (
      go_ret
      refine ⟨_, rfl, ?_, ?_⟩
      · have e1 : [] ++ xs.drop (e * 1) ++ xs.take (e * 1) = view e xs := by rw [Nat.mul_one]; rfl
        have e2 : 0 + (xs.length - e) + e = xs.length := by omega
        rw [e1, e2] at hs3
        exact hs3
      · exact (Upd.cat (S := fun k => w.heap.size ≤ k) hu12.drew hu3 (fun _ _ h => h) (fun k hk hv => by have := (hs2.lt k hv).1; exact this)).below (Nat.le_refl _) (fun _ _ h => h)))
end Go.Proofs.Ythlhbkcbemgkeaa
