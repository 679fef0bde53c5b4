/- ring, of numbers: contracts of its calls. -/
import Derived.Test.YthpnkjnieljdiaaRingBase
import Derived.Test.YthpnkjnieljdiaaSub
import Derived.BigRegion
import Derived.Test.YthpnkjnieljdiaaInts
namespace Go.Proofs.Ythpnkjnieljdiaa
open Go.ChangeShapes Go.WideShapes Go.ChangeAt Go.RowKit
open PRing
set_option linter.unusedVariables false
set_option linter.unusedSimpArgs false

set_option maxHeartbeats 400000 in
theorem ri_new (n : Int) (r : Nat) (hr : (r : Int) = max n 1) (h2 : r ≤ 1000) (w : World) :
    Calls Try.prog 26 #[.int .i64 n] w fun e w' => e = .returned (.pointer (some ⟨w.heap.size, 0, none⟩)) ∧ RNew w.heap.size r w w' := by
  go_enter Try.func26, Try.ntmps26
  go_wp2
  case inr | inl =>
    go_ret
    exact ⟨rfl, ring_made w r _ (by omega) (by omega) _⟩

set_option maxHeartbeats 400000 in
theorem ri_place (F : Nat → Prop) (g r : Nat) (v : Value) (e : Nat) (xs : List Value) (z : Int) (i : Nat) (hzi : z = i) (w : World) (h : RingC w F g r v e xs) (hi : i ≤ 1000) (hx : 0 < xs.length) (h2 : r ≤ 1000) :
    Calls Try.prog 45 #[.pointer (some ⟨g, 0, none⟩), .int .i64 z] w fun z w' => z = .returned (.int .i64 ((e + i) % xs.length : Nat)) ∧ ∃ n, w' = w.drewN n := by
  subst hzi
  obtain ⟨hat, hsl, hF, hr1, hr2, hr3, hr4⟩ := h
  obtain ⟨hg, c0, z0, c1, z1, c2, z2⟩ := hat.three
  go_enter Try.func45, Try.ntmps45
  have hl := hsl.len
  have he : e ≤ 1000 := by omega
  obtain ⟨a, c, rfl⟩ := hsl.shape
  go_wp2
  go_quiet (fail)
  go_wp2
  go_ret
  exact ⟨ret_int (by simp), _, rfl⟩

theorem RingC.cell {w : World} {F : Nat → Prop} {g r : Nat} {a : Option Addr} {n c : Nat} {e : Nat} {xs : List Value} (h : RingC w F g r (.slice a n c) e xs) (k : Nat) (hk : k < xs.length) : n = xs.length ∧ ∃ b off, a = some ⟨b, off, none⟩ ∧ w.cell? ⟨b, off + k, none⟩ = xs[k]? ∧ w.frozen? ⟨b, off + k, none⟩ = false ∧ F b ∧ b ≠ g ∧ b < w.heap.size := by
  obtain ⟨h1, h2⟩ := h.sl
  rcases h2 with ⟨_, h0⟩ | ⟨b, off, cap, e0, _, hb, hn, _, h3, h4⟩
  · omega
  · cases e0
    obtain ⟨hf, hne⟩ := h.own.2.2 b rfl
    exact ⟨rfl, b, off, rfl, h3 k (by omega), (h4 k (by omega)).2, hf, hne, hb⟩

set_option maxHeartbeats 800000 in
/-- There is room: one more. -/
theorem ri_push_room (F : Nat → Prop) (g r : Nat) (l : List Value) (x : Int) (w : World) (h : Ring w F g r l) (hl : l.length < r) (h2 : r ≤ 1000) :
    Calls Try.prog 36 #[.pointer (some ⟨g, 0, none⟩), .int .i64 x] w fun z w' => z = .returned (.tuple #[.int .i64 0, .bool false]) ∧ RPush F g r (l ++ [.int .i64 x]) w w' := by
  obtain ⟨v, e, xs, h, rfl⟩ := h
  rw [view_len] at hl
  obtain ⟨a, c, rfl⟩ := h.sl.shape
  have hm := h.sl.len
  have he := h.first hl
  subst he
  obtain ⟨hg, c0, z0, c1, z1, c2, z2⟩ := h.at_.three
  obtain ⟨i0, hi0, hz0, hz1, hz2⟩ := info_parts info_int
  go_enter Try.func36, Try.ntmps36
  go_wp2
  go_quiet (fail)
  have hs := h.sl
  go_wp2_with (at_builtin; refine wpList_append_sl _ rfl (.tmp 20) (.tmp 22) 37 37 rfl 3 i0 (.int .i64 0) 8 Try.underlying37 hi0 hz0 hz1 hz2 rfl rfl ((hs.drewN _).alloc _) _ 1 [.int .i64 x] rfl (src_oneN Try.underlying37 _ (.int .i64 x) _ _ (by simp) rfl) (by unfold maxLen; omega) (by omega) (by simp) ?_; intro v1 w1 k1 k2 k3; have hu := ((Upd.refl (fun _ => False) w).drewN nq).alloc (.cells #[.int .i64 x] 3); obtain ⟨hg1, d0, y0, d1, y1, d2, y2⟩ := (ring_put h hu k2).three; obtain ⟨av, cv, rfl⟩ := k1.shape)
  go_wp2
  go_ret2
  exact ⟨rfl, ring_push_room h hl hu k1 k2 k3⟩

set_option maxHeartbeats 800000 in
/-- There is none: the eldest goes. -/
theorem ri_push_full (F : Nat → Prop) (g r : Nat) (l : List Value) (x : Int) (y : Value) (w : World) (h : Ring w F g r l) (hl : l.length = r) (hy : l[0]? = some y) (h2 : r ≤ 1000) :
    Calls Try.prog 36 #[.pointer (some ⟨g, 0, none⟩), .int .i64 x] w fun z w' => z = .returned (.tuple #[y, .bool true]) ∧ RPush F g r (l.drop 1 ++ [.int .i64 x]) w w' := by
  obtain ⟨v, e, xs, h, rfl⟩ := h
  rw [view_len] at hl
  subst hl
  obtain ⟨a, c, rfl⟩ := h.sl.shape
  have hm := h.sl.len
  have hr1 := h.one
  have hxs : 0 < xs.length := by omega
  have he : e < xs.length := by have := h.eld; omega
  obtain ⟨_, b, off, rfl, cb, zb, hf, hne, hb⟩ := h.cell e he
  rw [view_head e xs he] at hy
  rw [hy] at cb
  obtain ⟨hg, c0, z0, c1, z1, c2, z2⟩ := h.at_.three
  go_enter Try.func36, Try.ntmps36
  go_wp2
  go_quiet (fail)
  obtain ⟨n1, e1⟩ : ∃ n, n = nq := ⟨nq, rfl⟩
  subst e1
  go_wp2
  go_quiet (fail)
  go_wp2
  have hC := (h.drewN n1).drewN nq
  have cb' : ((w.drewN n1).drewN nq).cell? ⟨b, off + e, none⟩ = some y := cb
  have hu0 : Upd (fun _ => False) w ((w.drewN n1).drewN nq) := ((Upd.refl _ w).drewN _).drewN _
  clear c0 c1 c2 z0 z1 z2 cb zb hg
  generalize (w.drewN n1).drewN nq = w2 at *
  obtain ⟨hg, c0, z0, c1, z1, c2, z2⟩ := hC.at_.three
  obtain ⟨_, b', off', hb', cb, zb, _⟩ := hC.cell e he
  cases hb'
  have HS := hC.at_
  go_region
  obtain ⟨hC3, hu3⟩ := ring_over hC hu0 he (.int .i64 x)
  have hC3 := hC3.drewN 1
  have hu3 := hu3.drew
  change RingC (w2.setCell ⟨b, off + e, none⟩ (.int .i64 x)).drew F g xs.length _ e _ at hC3
  generalize (w2.setCell ⟨b, off + e, none⟩ (.int .i64 x)).drew = w3 at *
  have HP := Lib.hid (ri_place F g xs.length _ e _ 1 1 rfl w3 hC3 (by omega) (by simp; omega) h2)
  go_wp2_with (go_at_call 45; go_loud (refine HP.out.mono ?_); rintro z w4 ⟨rfl, n4, rfl⟩; have hC4 := hC3.drewN n4; obtain ⟨hg4, d0, y0, d1, y1, d2, y2⟩ := hC4.at_.three)
  go_wp2
  go_ret2
  exact ⟨rfl, ring_push_full hC4 (hu3.drewN n4) h hxs _ (by simp)⟩
end Go.Proofs.Ythpnkjnieljdiaa
