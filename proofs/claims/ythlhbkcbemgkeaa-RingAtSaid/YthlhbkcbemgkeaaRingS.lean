/- ring, of texts: contracts of its calls. -/
import Derived.Test.YthlhbkcbemgkeaaRingBase
import Derived.Test.YthlhbkcbemgkeaaSub
import Derived.BigRegion
import Derived.Test.YthlhbkcbemgkeaaInts
namespace Go.Proofs.Ythlhbkcbemgkeaa
open Go.ChangeShapes Go.WideShapes Go.ChangeAt Go.RowKit
open PRing
theorem info_str : (Try.prog.info? 9).map (fun i => (i.zero, i.size, i.bytes)) = some (some (.string ⟨#[]⟩), 1, 16) := by kernel_rfl
set_option linter.unusedVariables false
set_option linter.unusedSimpArgs false

set_option maxHeartbeats 400000 in
theorem rs_new (n : Int) (r : Nat) (hr : (r : Int) = max n 1) (h2 : r ≤ 1000) (w : World) :
    Calls Try.prog 16 #[.int .i64 n] w fun e w' => e = .returned (.pointer (some ⟨w.heap.size, 0, none⟩)) ∧ RNew w.heap.size r w w' := by
  go_enter Try.func16, Try.ntmps16
  go_wp2
  case inr | inl =>
    go_ret
    exact ⟨rfl, ring_made w r _ (by omega) (by omega) _⟩

set_option maxHeartbeats 400000 in
theorem rs_place (F : Nat → Prop) (g r : Nat) (v : Value) (e : Nat) (xs : List Value) (z : Int) (i : Nat) (hzi : z = i) (w : World) (h : RingC w F g r v e xs) (hi : i ≤ 1000) (hx : 0 < xs.length) (h2 : r ≤ 1000) :
    Calls Try.prog 31 #[.pointer (some ⟨g, 0, none⟩), .int .i64 z] w fun z w' => z = .returned (.int .i64 ((e + i) % xs.length : Nat)) ∧ ∃ n, w' = w.drewN n := by
  subst hzi
  obtain ⟨hat, hsl, hF, hr1, hr2, hr3, hr4⟩ := h
  obtain ⟨hg, c0, z0, c1, z1, c2, z2⟩ := hat.three
  go_enter Try.func31, Try.ntmps31
  have hl := hsl.len
  have he : e ≤ 1000 := by omega
  obtain ⟨a, c, rfl⟩ := hsl.shape
  go_wp2
  go_quiet (fail)
  go_wp2
  go_ret
  exact ⟨ret_int (by simp), _, rfl⟩

theorem RingC.cell {w : World} {F : Nat → Prop} {g r : Nat} {a : Option Addr} {n c : Nat} {e : Nat} {xs : List Value} (h : RingC w F g r (.slice a n c) e xs) (k : Nat) (hk : k < xs.length) : n = xs.length ∧ ∃ b off, a = some ⟨b, off, none⟩ ∧ w.cell? ⟨b, off + k, none⟩ = xs[k]? ∧ w.frozen? ⟨b, off + k, none⟩ = false ∧ F b ∧ b ≠ g ∧ b < w.heap.size := by
  obtain ⟨h1, h2⟩ := h.sl
  rcases h2 with ⟨_, h0⟩ | ⟨b, off, cap, e0, _, hb, hn, _, h3, h4⟩
  · omega
  · cases e0
    obtain ⟨hf, hne⟩ := h.own.2.2 b rfl
    exact ⟨rfl, b, off, rfl, h3 k (by omega), (h4 k (by omega)).2, hf, hne, hb⟩

set_option maxHeartbeats 400000 in
theorem rs_at (F : Nat → Prop) (g r : Nat) (l : List Value) (i : Nat) (x : Value) (w : World) (h : Ring w F g r l) (hi : i < l.length) (hx : l[i]? = some x) (h2 : r ≤ 1000) :
    Calls Try.prog 18 #[.pointer (some ⟨g, 0, none⟩), .int .i64 i] w fun z w' => z = .returned (.tuple #[x, .bool true]) ∧ ∃ n, w' = w.drewN n := by
  obtain ⟨v, e, xs, h, rfl⟩ := h
  have HP := fun n => Lib.hid (rs_place F g r v e xs i i rfl (w.drewN n) (h.drewN n) (by have := h.room; rw [view_len] at hi; omega) (by rw [view_len] at hi; omega) h2)
  rw [view_len] at hi
  obtain ⟨a, c, rfl⟩ := h.sl.shape
  have hxs : 0 < xs.length := by omega
  have hm : (e + i) % xs.length < xs.length := Nat.mod_lt _ hxs
  obtain ⟨_, b, off, rfl, cb, zb, hf, hne, hb⟩ := h.cell _ hm
  rw [view_get e xs (by have := h.eld; omega) i hi] at hx
  rw [hx] at cb
  clear hx
  generalize hq : (e + i) % xs.length = q at *
  have HQ := Lib.hid hq
  clear hq
  have hl := h.sl.len
  have hr2 := h.room
  obtain ⟨hg, c0, z0, c1, z1, c2, z2⟩ := h.at_.three
  clear h
  go_enter Try.func18, Try.ntmps18
  go_wp2
  go_quiet ((go_at_call 31; exact Calls.quiet_of (HP _).out))
  go_wp2
  go_ret2
  exact ⟨rfl, _, rfl⟩

set_option maxHeartbeats 400000 in
theorem rs_at_none (F : Nat → Prop) (g r : Nat) (l : List Value) (i : Int) (w : World) (h : Ring w F g r l) (hi : i < 0 ∨ (l.length : Int) ≤ i) (h1 : -9223372036854775808 ≤ i) (h3 : i ≤ 9223372036854775807) (h2 : r ≤ 1000) :
    Calls Try.prog 18 #[.pointer (some ⟨g, 0, none⟩), .int .i64 i] w fun z w' => z = .returned (.tuple #[.string ⟨#[]⟩, .bool false]) ∧ w' = w := by
  obtain ⟨v, e, xs, h, rfl⟩ := h
  rw [view_len] at hi
  obtain ⟨a, c, rfl⟩ := h.sl.shape
  have hl := h.sl.len
  obtain ⟨hg, c0, z0, c1, z1, c2, z2⟩ := h.at_.three
  clear h
  go_enter Try.func18, Try.ntmps18
  go_wp2
  all_goals (go_ret2; exact ⟨rfl, rfl⟩)

set_option maxHeartbeats 400000 in
theorem rs_len (F : Nat → Prop) (g r : Nat) (l : List Value) (w : World) (h : Ring w F g r l) : Calls Try.prog 19 #[.pointer (some ⟨g, 0, none⟩)] w fun z w' => z = .returned (.int .i64 l.length) ∧ w = w' := by
  obtain ⟨v, e, xs, h, rfl⟩ := h
  obtain ⟨a, c, rfl⟩ := h.sl.shape
  obtain ⟨hg, c0, z0, c1, z1, c2, z2⟩ := h.at_.three
  rw [view_len]
  go_enter Try.func19, Try.ntmps19
  go_wp2
  go_ret
  exact ⟨rfl, rfl⟩

set_option maxHeartbeats 800000 in
/-- There is room: one more. -/
theorem rs_push_room (F : Nat → Prop) (g r : Nat) (l : List Value) (x : ByteArray) (w : World) (h : Ring w F g r l) (hl : l.length < r) (h2 : r ≤ 1000) :
    Calls Try.prog 17 #[.pointer (some ⟨g, 0, none⟩), .string x] w fun z w' => z = .returned (.tuple #[.string ⟨#[]⟩, .bool false]) ∧ RPush F g r (l ++ [.string x]) w w' := by
  obtain ⟨v, e, xs, h, rfl⟩ := h
  rw [view_len] at hl
  obtain ⟨a, c, rfl⟩ := h.sl.shape
  have hm := h.sl.len
  have he := h.first hl
  subst he
  obtain ⟨hg, c0, z0, c1, z1, c2, z2⟩ := h.at_.three
  obtain ⟨i0, hi0, hz0, hz1, hz2⟩ := info_parts info_str
  go_enter Try.func17, Try.ntmps17
  go_wp2
  go_quiet (fail)
  have hs := h.sl
  go_wp2_with (at_builtin; refine wpList_append_sl _ rfl (.tmp 20) (.tmp 22) 32 32 rfl 9 i0 (.string ⟨#[]⟩) 16 Try.underlying32 hi0 hz0 hz1 hz2 rfl rfl ((hs.drewN _).alloc _) _ 1 [.string x] rfl (src_oneN Try.underlying32 _ (.string x) _ _ (by simp) rfl) (by unfold maxLen; omega) (by omega) (by simp) ?_; intro v1 w1 k1 k2 k3; have hu := ((Upd.refl (fun _ => False) w).drewN nq).alloc (.cells #[.string x] 9); obtain ⟨hg1, d0, y0, d1, y1, d2, y2⟩ := (ring_put h hu k2).three; obtain ⟨av, cv, rfl⟩ := k1.shape)
  go_wp2
  go_ret2
  exact ⟨rfl, ring_push_room h hl hu k1 k2 k3⟩

set_option maxHeartbeats 800000 in
/-- There is none: the eldest goes. -/
theorem rs_push_full (F : Nat → Prop) (g r : Nat) (l : List Value) (x : ByteArray) (y : Value) (w : World) (h : Ring w F g r l) (hl : l.length = r) (hy : l[0]? = some y) (h2 : r ≤ 1000) :
    Calls Try.prog 17 #[.pointer (some ⟨g, 0, none⟩), .string x] w fun z w' => z = .returned (.tuple #[y, .bool true]) ∧ RPush F g r (l.drop 1 ++ [.string x]) w w' := by
  obtain ⟨v, e, xs, h, rfl⟩ := h
  rw [view_len] at hl
  subst hl
  obtain ⟨a, c, rfl⟩ := h.sl.shape
  have hm := h.sl.len
  have hr1 := h.one
  have hxs : 0 < xs.length := by omega
  have he : e < xs.length := by have := h.eld; omega
  obtain ⟨_, b, off, rfl, cb, zb, hf, hne, hb⟩ := h.cell e he
  rw [view_head e xs he] at hy
  rw [hy] at cb
  obtain ⟨hg, c0, z0, c1, z1, c2, z2⟩ := h.at_.three
  go_enter Try.func17, Try.ntmps17
  go_wp2
  go_quiet (fail)
  obtain ⟨n1, e1⟩ : ∃ n, n = nq := ⟨nq, rfl⟩
  subst e1
  go_wp2
  go_quiet (fail)
  go_wp2
  have hC := (h.drewN n1).drewN nq
  have cb' : ((w.drewN n1).drewN nq).cell? ⟨b, off + e, none⟩ = some y := cb
  have hu0 : Upd (fun _ => False) w ((w.drewN n1).drewN nq) := ((Upd.refl _ w).drewN _).drewN _
  clear c0 c1 c2 z0 z1 z2 cb zb hg
  generalize (w.drewN n1).drewN nq = w2 at *
  obtain ⟨hg, c0, z0, c1, z1, c2, z2⟩ := hC.at_.three
  obtain ⟨_, b', off', hb', cb, zb, _⟩ := hC.cell e he
  cases hb'
  have HS := hC.at_
  go_region
  obtain ⟨hC3, hu3⟩ := ring_over hC hu0 he (.string x)
  have hC3 := hC3.drewN 1
  have hu3 := hu3.drew
  change RingC (w2.setCell ⟨b, off + e, none⟩ (.string x)).drew F g xs.length _ e _ at hC3
  generalize (w2.setCell ⟨b, off + e, none⟩ (.string x)).drew = w3 at *
  have HP := Lib.hid (rs_place F g xs.length _ e _ 1 1 rfl w3 hC3 (by omega) (by simp; omega) h2)
  go_wp2_with (go_at_call 31; go_loud (refine HP.out.mono ?_); rintro z w4 ⟨rfl, n4, rfl⟩; have hC4 := hC3.drewN n4; obtain ⟨hg4, d0, y0, d1, y1, d2, y2⟩ := hC4.at_.three)
  go_wp2
  go_ret2
  exact ⟨rfl, ring_push_full hC4 (hu3.drewN n4) h hxs _ (by simp)⟩
end Go.Proofs.Ythlhbkcbemgkeaa
