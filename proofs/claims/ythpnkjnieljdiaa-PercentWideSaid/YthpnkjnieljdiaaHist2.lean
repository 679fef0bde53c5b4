/- hist: a number more, a number less, how many, the k-th. -/
import Derived.Test.YthpnkjnieljdiaaDelete
import Derived.Test.YthpnkjnieljdiaaHist
import Derived.Test.YthpnkjnieljdiaaHistPlain
namespace Go.Proofs.Ythpnkjnieljdiaa
open Go.ChangeShapes Go.WideShapes Go.ChangeAt Go.RowKit
set_option linter.unusedVariables false
set_option linter.unusedSimpArgs false

theorem hi_insert (v : Value) (rs : List NR) (i : Nat) (n : Int) (vb : Nat) (w : World) (h : Sl 0 w 2 v rs.length (hv rs)) (hvb : At w vb [.int .i64 n, .int .i64 0]) (hne : v.ownBlock ≠ some vb) (hi : i ≤ rs.length) (hm : rs.length ≤ 1000)
    (hheap : w.heap[vb]? = some (.cells #[.int .i64 n, .int .i64 0] 76 (0, 0))) :
    Calls Try.prog 48 #[v, .int .i64 i, .slice (some ⟨vb, 0, none⟩) 1 1] w fun e w' => ∃ v', e = .returned v' ∧ InsPost v (rs.take i ++ (n, 0) :: rs.drop i) w v' w' := by
  by_cases he : i = rs.length
  · subst he
    rw [List.take_length, List.drop_length]
    exact ins_end v rs n vb w h hvb hm
  · rcases h.2 with ⟨rfl, h0⟩ | ⟨g, off, cap, rfl, hb, hg, hn, _⟩
    · omega
    · by_cases hr : rs.length + 1 ≤ cap
      · exact ins_room g off cap rs i n vb w h hvb (fun e => hne (by rw [e]; rfl)) (by omega) hr hm hheap
      · exact ins_grow g off cap rs i n vb w h hvb (by omega) (by omega) hm

/-- A row's times and the many written over. -/
theorem hist_tick {w : World} {F : Nat → Prop} {g b off n c m : Nat} {rs : List NR} (h : HistC w F g (.slice (some ⟨b, off, none⟩) n c) m rs) (hn : n = rs.length) (i : Nat) (hi : i < rs.length) (t' m' : Nat) (zt zm : Int) (hzt : zt = t') (hzm : zm = m') :
    HistC ((w.setCell ⟨b, off + i * 2 + 1, none⟩ (.int .i64 zt)).setCell ⟨g, 1, none⟩ (.int .i64 zm)) F g (.slice (some ⟨b, off, none⟩) n c) m' (rs.set i (rs[i].1, t')) ∧ Upd F w ((w.setCell ⟨b, off + i * 2 + 1, none⟩ (.int .i64 zt)).setCell ⟨g, 1, none⟩ (.int .i64 zm)) := by
  subst hzt hzm hn
  obtain ⟨hf, hne⟩ := h.own.2.2 b rfl
  have hs := h.sl.put (i * 2 + 1) (.int .i64 (t' : Int)) (by omega)
  rw [hv_set rs i hi, ← Nat.add_assoc] at hs
  have hu1 : Upd (fun k => k = b) w (w.setCell ⟨b, off + i * 2 + 1, none⟩ (.int .i64 t')) := (Upd.refl (fun k => k = b) w).setCell (p := ⟨b, off + i * 2 + 1, none⟩) (fun _ => rfl) _
  have hat := (h.at_.upd hu1 (fun e => hne e.symm))
  have hat2 := hat.set 1 (by simp) (.int .i64 (m' : Int))
  have hu2 : Upd (fun k => k = g) (w.setCell ⟨b, off + i * 2 + 1, none⟩ (.int .i64 t')) ((w.setCell ⟨b, off + i * 2 + 1, none⟩ (.int .i64 t')).setCell ⟨g, 1, none⟩ (.int .i64 m')) := (Upd.refl (fun k => k = g) _).setCell (p := ⟨g, 1, none⟩) (fun _ => rfl) _
  have hu := hu1.cat (S := F) hu2 (fun k _ hk => by subst hk; exact hf) (fun k _ hk => by subst hk; exact h.own.1)
  refine ⟨⟨by simpa using hat2, ?_, ⟨h.own.1, fun k hk => Nat.lt_of_lt_of_le (h.own.2.1 k hk) hu.size, h.own.2.2⟩⟩, hu⟩
  rw [List.length_set]
  exact hs.upd hu2 (fun k hk e => by
    have : b = k := by simpa [Value.ownBlock] using hk
    omega)

/-- A row put in place of the row. -/
theorem hist_row {w w0 w1 : World} {F : Nat → Prop} {g m : Nat} {v v' : Value} {rs rs' : List NR} (h : HistC w F g v m rs) (hu : Upd (fun k => w.heap.size ≤ k) w w0) (hp : InsPost v rs' w0 v' w1) :
    HistC (w1.setCell ⟨g, 0, none⟩ v') (fun k => k = g ∨ v'.ownBlock = some k) g v' m rs' ∧ Upd F w (w1.setCell ⟨g, 0, none⟩ v') ∧ (∀ k, (k = g ∨ v'.ownBlock = some k) → F k ∨ w.heap.size ≤ k) ∧ At w1 g [v, .int .i64 m] := by
  obtain ⟨p1, p2, p3⟩ := hp
  have hg := h.at_.1
  have hat : At w1 g [v, .int .i64 m] := (h.at_.upd hu (by omega)).upd p2 (fun hk => (h.own.2.2 g hk).2 rfl)
  have hne : ∀ k, v'.ownBlock = some k → k ≠ g := fun k hk => by
    rcases p3 k hk with h1 | h1
    · exact (h.own.2.2 k h1).2
    · have := hu.size; omega
  have hset : Upd (fun k => k = g) w1 (w1.setCell ⟨g, 0, none⟩ v') := (Upd.refl (fun k => k = g) w1).setCell (p := ⟨g, 0, none⟩) (fun _ => rfl) v'
  have hsz := hset.size
  have hg1 := hat.1
  refine ⟨⟨by simpa using hat.set 0 (by simp) v', p1.upd hset (fun k hk => hne k hk), ⟨.inl rfl, fun k hk => ?_, fun k hk => ⟨.inr hk, hne k hk⟩⟩⟩, ?_, fun k hk => ?_, hat⟩
  · rcases hk with rfl | hk
    · omega
    · have := (p1.lt k hk).2; omega
  · exact (hu.cat (S := F) (p2.cat (S := F) hset (fun k _ hk => (h.own.2.2 k hk).1) (fun k _ hk => by subst hk; exact h.own.1)) (fun k hk hk' => by omega) (fun _ _ h => h))
  · rcases hk with rfl | hk
    · exact .inl h.own.1
    · rcases p3 k hk with h1 | h1
      · exact .inl (h.own.2.2 k h1).1
      · have := hu.size; exact .inr (by omega)

def HPost (F : Nat → Prop) (g m : Nat) (rs : List NR) (w w' : World) : Prop := ∃ F' v', HistC w' F' g v' m rs ∧ Upd F w w' ∧ ∀ k, F' k → F k ∨ w.heap.size ≤ k

set_option maxHeartbeats 1000000 in
/-- It is there: once more. -/
theorem hi_add_hit (F : Nat → Prop) (g : Nat) (v : Value) (m : Nat) (rs : List NR) (n : Int) (i : Nat) (w : World) (h : HistC w F g v m rs) (hp : Place rs n i) (hi : i < rs.length) (hn : rs[i].1 = n) (hm : rs.length ≤ 1000) (hm2 : m ≤ 1000) (ht : rs[i].2 ≤ 1000) :
    Calls Try.prog 38 #[.pointer (some ⟨g, 0, none⟩), .int .i64 n] w fun e w' => e = .returned (.tuple #[]) ∧ HPost F g (m + 1) (rs.set i (n, rs[i].2 + 1)) w w' := by
  have HP := Lib.hid (hi_place_hit F g v m rs n i w h hp hi hn hm)
  have hii : (i : Int) < (rs.length : Int) := by omega
  go_enter Try.func38, Try.ntmps38
  go_wp2_with (go_at_call 46; refine HP.out.mono ?_; rintro e w1 ⟨rfl, b1⟩; have h1 := h.below b1; obtain ⟨a, c, rfl⟩ := h.sl.shape; obtain ⟨_, b, off, rfl, c0, c1, z0, z1, hf, hne, hbb⟩ := h1.cell i hi; obtain ⟨hg, p0, q0, p1, q1⟩ := h1.at_.two; have hne2 := Ne.symm hne)
  go_end0
  have hT := hist_tick h1 rfl i hi (rs[i].2 + 1) (m + 1) _ _ rfl rfl
  rw [hn] at hT
  exact ⟨rfl, F, _, by simpa using hT.1, by simpa using (Upd.of_below b1 (S := F) (fun k hk hk' => by omega)).cat hT.2 (fun _ _ h => h) (fun _ _ h => h), fun k hk => .inl hk⟩

/-- The new row's cells, read before the row is put in place. -/
theorem ins_cells {w1 u : World} {F : Nat → Prop} {g m N c : Nat} {a : Option Addr} {rs : List NR} (i : Nat) (n : Int) (hi : i ≤ rs.length) (h : Sl 0 w1 2 (.slice a N c) (rs.take i ++ (n, 0) :: rs.drop i).length (hv (rs.take i ++ (n, 0) :: rs.drop i))) (hC : HistC u F g (.slice a N c) m (rs.take i ++ (n, 0) :: rs.drop i)) :
    (rs.take i ++ (n, 0) :: rs.drop i).length = rs.length + 1 ∧ ∃ b off, a = some ⟨b, off, none⟩ ∧ w1.cell? ⟨b, off + i * 2, none⟩ = some (.int .i64 n) ∧ w1.cell? ⟨b, off + i * 2 + 1, none⟩ = some (.int .i64 0) ∧ w1.frozen? ⟨b, off + i * 2, none⟩ = false ∧ w1.frozen? ⟨b, off + i * 2 + 1, none⟩ = false ∧ F b ∧ b ≠ g ∧ b < w1.heap.size := by
  have hl : (rs.take i ++ (n, 0) :: rs.drop i).length = rs.length + 1 := by simp; omega
  have hlt : (rs.take i).length = i := by rw [List.length_take]; omega
  have hget : (rs.take i ++ (n, 0) :: rs.drop i)[i]'(by omega) = (n, 0) := by
    rw [List.getElem_append_right (by omega)]
    simp [hlt]
  refine ⟨hl, ?_⟩
  obtain ⟨h1, h2⟩ := h
  rcases h2 with ⟨_, h0⟩ | ⟨b, off, cap, e0, _, hb, hn, _, h3, h4⟩
  · omega
  · cases e0
    obtain ⟨hf, hne⟩ := hC.own.2.2 b rfl
    obtain ⟨x1, x2⟩ := hv_at _ i (show i < (rs.take i ++ (n, 0) :: rs.drop i).length by omega)
    rw [hget] at x1 x2
    refine ⟨b, off, rfl, (h3 (i * 2) (by omega)).trans x1, ?_, (h4 (i * 2) (by omega)).2, ?_, hf, hne, hb⟩
    · rw [Nat.add_assoc]; exact (h3 (i * 2 + 1) (by omega)).trans x2
    · rw [Nat.add_assoc]; exact (h4 (i * 2 + 1) (by omega)).2

theorem ins_set (rs : List NR) (i : Nat) (n : Int) (hi : i ≤ rs.length) {h : i < (rs.take i ++ (n, 0) :: rs.drop i).length} : (rs.take i ++ (n, 0) :: rs.drop i).set i (((rs.take i ++ (n, 0) :: rs.drop i)[i]).1, 1) = rs.take i ++ (n, 1) :: rs.drop i := by
  have hlt : (rs.take i).length = i := by rw [List.length_take]; omega
  have hget : (rs.take i ++ (n, 0) :: rs.drop i)[i] = (n, 0) := by
    rw [List.getElem_append_right (by omega)]
    simp [hlt]
  rw [hget, List.set_append_right _ _ (by omega)]
  simp [hlt]

set_option maxHeartbeats 2000000 in
/-- It isn't: a row more. -/
theorem hi_add_miss (F : Nat → Prop) (g : Nat) (v : Value) (m : Nat) (rs : List NR) (n : Int) (i : Nat) (w : World) (h : HistC w F g v m rs) (hp : Place rs n i) (hn : ∀ hi : i < rs.length, rs[i].1 ≠ n) (hm : rs.length ≤ 900) (hm2 : m ≤ 1000) :
    Calls Try.prog 38 #[.pointer (some ⟨g, 0, none⟩), .int .i64 n] w fun e w' => e = .returned (.tuple #[]) ∧ HPost F g (m + 1) (rs.take i ++ (n, 1) :: rs.drop i) w w' := by
  have HP := Lib.hid (hi_place_miss F g v m rs n i w h hp hn (by omega))
  have hin := hp.1
  go_enter Try.func38, Try.ntmps38
  go_wp2_with (first | (go_at_call 46; refine HP.out.mono ?_; rintro e w1 ⟨rfl, b1⟩; have h1 := h.below b1; obtain ⟨a, c, rfl⟩ := h.sl.shape; obtain ⟨hg, p0, q0, p1, q1⟩ := h1.at_.two) | (go_at_call 48; refine (hi_insert _ rs i n w1.heap.size _ (h1.sl.alloc (.cells #[.int .i64 n, .int .i64 0] 76)) (At.alloc w1 [.int .i64 n, .int .i64 0] 76) (fun hk => by have := (h1.sl.lt _ hk).2; omega) hin (by omega) (heap_alloc_new w1 _)).mono ?_; rintro e w3 ⟨v', rfl, hins⟩; obtain ⟨av, cv, rfl⟩ := hins.1.shape; obtain ⟨hC, hU, hF', hat3⟩ := hist_row h1 ((Upd.refl (fun k => w1.heap.size ≤ k) w1).alloc (.cells #[.int .i64 n, .int .i64 0] 76)) hins; obtain ⟨hg3, d0, y0, d1, y1⟩ := hat3.two; obtain ⟨hlen3, b3, o3, rfl, x0, x1, z0, z1, hf3, hne3, hb3⟩ := ins_cells i n hin hins.1 hC; have hne4 := Ne.symm hne3))
  go_end0
  have hT := hist_tick hC rfl i (by omega) 1 (m + 1) _ _ rfl rfl
  rw [ins_set rs i n hin] at hT
  have hbw := b1.size
  refine ⟨rfl, (fun k => k = g ∨ (Value.slice (some ⟨b3, o3, none⟩) (rs.length + 1) cv).ownBlock = some k), .slice (some ⟨b3, o3, none⟩) (rs.length + 1) cv, by have := hT.1; rw [hlen3] at this; simpa using this, ?_, fun k hk => (hF' k hk).imp id (fun h => by omega)⟩
  have := ((Upd.of_below b1 (S := F) (fun k hk hk' => by omega)).cat hU (fun _ _ h => h) (fun _ _ h => h)).cat (S := F) hT.2 (fun _ _ h => h) (fun k hk hk' => (hF' k hk').elim id (fun h => by omega))
  rw [hlen3] at this
  simpa using this

set_option maxHeartbeats 1000000 in
/-- Once less: it is still there. -/
theorem hi_rem_more (F : Nat → Prop) (g : Nat) (v : Value) (m : Nat) (rs : List NR) (n : Int) (i : Nat) (w : World) (h : HistC w F g v m rs) (hp : Place rs n i) (hi : i < rs.length) (hn : rs[i].1 = n) (hm : rs.length ≤ 1000) (hm1 : 1 ≤ m) (hm2 : m ≤ 1000) (ht : rs[i].2 ≤ 1000) (ht2 : 2 ≤ rs[i].2) :
    Calls Try.prog 37 #[.pointer (some ⟨g, 0, none⟩), .int .i64 n] w fun e w' => e = .returned (.bool true) ∧ HPost F g (m - 1) (rs.set i (n, rs[i].2 - 1)) w w' := by
  have HP := Lib.hid (hi_place_hit F g v m rs n i w h hp hi hn hm)
  have hii : (i : Int) < (rs.length : Int) := by omega
  go_enter Try.func37, Try.ntmps37
  go_wp2_with (go_at_call 46; refine HP.out.mono ?_; rintro e w1 ⟨rfl, b1⟩; have h1 := h.below b1; obtain ⟨a, c, rfl⟩ := h.sl.shape; obtain ⟨_, b, off, rfl, c0, c1, z0, z1, hf, hne, hbb⟩ := h1.cell i hi; obtain ⟨hg, p0, q0, p1, q1⟩ := h1.at_.two; have hne2 := Ne.symm hne)
  go_ret
  have hT := hist_tick h1 rfl i hi (rs[i].2 - 1) (m - 1) _ _ (show (rs[i].2 : Int) - 1 = _ by omega) (show (m : Int) - 1 = _ by omega)
  rw [hn] at hT
  exact ⟨rfl, F, _, by simpa using hT.1, by simpa using (Upd.of_below b1 (S := F) (fun k hk hk' => by omega)).cat hT.2 (fun _ _ h => h) (fun _ _ h => h), fun k hk => .inl hk⟩

set_option maxHeartbeats 1000000 in
theorem hi_rem_none (F : Nat → Prop) (g : Nat) (v : Value) (m : Nat) (rs : List NR) (n : Int) (i : Nat) (w : World) (h : HistC w F g v m rs) (hp : Place rs n i) (hn : ∀ hi : i < rs.length, rs[i].1 ≠ n) (hm : rs.length ≤ 1000) :
    Calls Try.prog 37 #[.pointer (some ⟨g, 0, none⟩), .int .i64 n] w fun e w' => e = .returned (.bool false) ∧ Below w.heap.size w w' := by
  have HP := Lib.hid (hi_place_miss F g v m rs n i w h hp hn hm)
  go_enter Try.func37, Try.ntmps37
  go_wp2_with (go_at_call 46; refine HP.out.mono ?_; rintro e w1 ⟨rfl, b1⟩)
  go_ret
  exact ⟨rfl, b1⟩

theorem del_set (rs : List NR) (i : Nat) (hi : i < rs.length) (y : NR) : (rs.set i y).take i ++ (rs.set i y).drop (i + 1) = rs.take i ++ rs.drop (i + 1) := by
  have hlt : (rs.take i).length = i := by rw [List.length_take]; omega
  rw [List.set_eq_take_append_cons_drop, if_pos hi, List.take_left' hlt, List.drop_append, List.drop_of_length_le (by omega), hlt]
  simp
theorem hi_deleteN (g off c : Nat) (rs : List NR) (N : Nat) (hN : N = rs.length) (i : Nat) (w : World) (h : Sl 0 w 2 (.slice (some ⟨g, off, none⟩) N c) N (hv rs)) (hi : i < N) (hm : N ≤ 1000) :
    Calls Try.prog 47 #[.slice (some ⟨g, off, none⟩) N c, .int .i64 i, .int .i64 ((i : Int) + 1)] w fun e w' => ∃ v', e = .returned v' ∧ InsPost (.slice (some ⟨g, off, none⟩) N c) (rs.take i ++ rs.drop (i + 1)) w v' w' := by
  subst hN
  exact hi_delete g off c rs i w h hi hm

set_option maxHeartbeats 2000000 in
/-- Once less: its row goes. -/
theorem hi_rem_last (F : Nat → Prop) (g : Nat) (v : Value) (m : Nat) (rs : List NR) (n : Int) (i : Nat) (w : World) (h : HistC w F g v m rs) (hp : Place rs n i) (hi : i < rs.length) (hn : rs[i].1 = n) (hm : rs.length ≤ 1000) (hm1 : 1 ≤ m) (hm2 : m ≤ 1000) (ht : rs[i].2 = 1) :
    Calls Try.prog 37 #[.pointer (some ⟨g, 0, none⟩), .int .i64 n] w fun e w' => e = .returned (.bool true) ∧ HPost F g (m - 1) (rs.take i ++ rs.drop (i + 1)) w w' := by
  have HP := Lib.hid (hi_place_hit F g v m rs n i w h hp hi hn hm)
  have hii : (i : Int) < (rs.length : Int) := by omega
  go_enter Try.func37, Try.ntmps37
  go_wp2_with (first | (go_at_call 46; refine HP.out.mono ?_; rintro e w1 ⟨rfl, b1⟩; have h1 := h.below b1; obtain ⟨a, c, rfl⟩ := h.sl.shape; obtain ⟨_, b, off, rfl, c0, c1, z0, z1, hf, hne, hbb⟩ := h1.cell i hi; rw [ht] at c1; obtain ⟨hg, p0, q0, p1, q1⟩ := h1.at_.two; have hne2 := Ne.symm hne; have hT := hist_tick h1 rfl i hi 0 (m - 1) 0 ((m : Int) - 1) rfl (by omega); have hTs := hT.1.sl; rw [List.length_set] at hTs) | (go_at_call 47; refine (hi_deleteN b off c (rs.set i (rs[i].1, 0)) rs.length (by simp) i _ hTs hi hm).mono ?_; rintro e w3 ⟨v', rfl, hdel⟩; rw [del_set rs i hi] at hdel; obtain ⟨hC, hU, hF', hat3⟩ := hist_row hT.1 (Upd.refl (fun k => _ ≤ k) _) hdel; obtain ⟨hg3, d0, y0, d1, y1⟩ := hat3.two; obtain ⟨av, N, cv, rfl⟩ : ∃ a N c, v' = Value.slice a N c := (by obtain ⟨a, c, h⟩ := hdel.1.shape; exact ⟨a, _, c, h⟩)))
  go_ret
  have hbw := b1.size
  have hsz := hT.2.size
  refine ⟨rfl, _, _, hC, ?_, fun k hk => (hF' k hk).imp id (fun h => by omega)⟩
  exact ((Upd.of_below b1 (S := F) (fun k hk hk' => by omega)).cat hT.2 (fun _ _ h => h) (fun _ _ h => h)).cat (S := F) hU (fun _ _ h => h) (fun _ _ h => h)

/-- The number at a rank. -/
def rk : List NR → Nat → Option Int
  | [], _ => none
  | r :: rs, k => if k ≤ r.2 then some r.1 else rk rs (k - r.2)

set_option maxHeartbeats 1000000 in
theorem hi_rank_low (F : Nat → Prop) (g : Nat) (v : Value) (m : Nat) (rs : List NR) (k : Int) (w : World) (h : HistC w F g v m rs) (hk : k < 1) : Calls Try.prog 39 #[.pointer (some ⟨g, 0, none⟩), .int .i64 k] w fun e w' => e = .returned (.tuple #[.int .i64 0, .bool false]) ∧ Below w.heap.size w w' := by
  go_enter Try.func39, Try.ntmps39
  go_wp2
  go_ret2
  exact ⟨rfl, Below.refl _ _⟩

set_option maxHeartbeats 1000000 in
theorem hi_rank (F : Nat → Prop) (g : Nat) (v : Value) (m : Nat) (rs : List NR) (k : Nat) (o : Option Int) (z : Int) (kz : Int) (hkz : kz = k) (w : World) (h : HistC w F g v m rs) (hk : 1 ≤ k) (hk2 : k ≤ 9223372036854775807) (ho : rk rs k = o) (hz : z = o.getD 0) : Calls Try.prog 39 #[.pointer (some ⟨g, 0, none⟩), .int .i64 kz] w fun e w' => e = .returned (.tuple #[.int .i64 z, .bool o.isSome]) ∧ Below w.heap.size w w' := by
  subst hkz
  obtain ⟨a, c, rfl⟩ := h.sl.shape
  have HO := Lib.hid ho
  have HZ := Lib.hid hz
  clear ho hz
  obtain ⟨hg, p0, q0, p1, q1⟩ := h.at_.two
  have hlen := h.sl.len
  unfold maxLen at hlen
  go_enter Try.func39, Try.ntmps39
  go_wp2
  go_loopw [1, 15] (fun kx i wr => ∃ j k' : Nat, j ≤ rs.length ∧ i = .int .i64 j ∧ kx = .int .i64 k' ∧ 1 ≤ k' ∧ k' ≤ 9223372036854775807 ∧ Hid (rk rs k = rk (rs.drop j) k') ∧ Below w.heap.size w wr) (fun _ i _ => rs.length - (intOf i).toNat)
  case atStart => exact ⟨0, k, Nat.zero_le _, rfl, rfl, hk, hk2, Lib.hid rfl, Below.refl _ _⟩
  case round =>
    obtain ⟨j, k', hj, rfl, rfl, hk1', hk2', hrk, hbw⟩ := hrel
    by_cases hlt : j < rs.length
    · have h1 := h.below hbw
      obtain ⟨_, b, off, rfl, c0, c1, z0, z1, hf, hne, hbb⟩ := h1.cell j hlt
      have hstep : rk (rs.drop j) k' = if k' ≤ rs[j].2 then some rs[j].1 else rk (rs.drop (j + 1)) (k' - rs[j].2) := by rw [List.drop_eq_getElem_cons hlt]; rfl
      have HST := Lib.hid hstep
      clear hstep h h1
      generalize rs[j] = r at *
      obtain ⟨n, t⟩ := r
      simp only at c0 c1
      by_cases hkt : k' ≤ t
      · have ho : o = some n := by rw [← HO.out, hrk.out, HST.out, if_pos hkt]
        subst ho
        go_wp2
        go_ret2
        refine ⟨?_, hbw.alloc hbw.size _⟩
        rw [HZ.out]
        rfl
      · have HD := Lib.hid (show rk rs k = rk (rs.drop (j + 1)) (k' - t) by rw [hrk.out, HST.out, if_neg hkt])
        go_wp2
        exact ⟨⟨j + 1, k' - t, by omega, by go_num, by rw [show (k' : Int) - (t : Int) = ((k' - t : Nat) : Int) by omega], by omega, by omega, HD, hbw.alloc hbw.size _⟩, by simp [intOf]; omega⟩
    · have ho : o = none := by rw [← HO.out, hrk.out, List.drop_of_length_le (by omega)]; rfl
      subst ho
      go_wp2
      go_ret2
      refine ⟨?_, hbw⟩
      rw [HZ.out]
      rfl

set_option maxHeartbeats 1000000 in
theorem hi_percent (F : Nat → Prop) (g : Nat) (v : Value) (m : Nat) (rs : List NR) (p : Nat) (pz : Int) (hpz : pz = p) (o : Option Int) (z : Int) (w : World) (h : HistC w F g v m rs) (hp : p ≤ 100) (hm : m ≤ 1000) (ho : rk rs (PHist.prank m p) = o) (hz : z = o.getD 0) : Calls Try.prog 30 #[.pointer (some ⟨g, 0, none⟩), .int .i64 pz] w fun e w' => e = .returned (.tuple #[.int .i64 z, .bool o.isSome]) ∧ Below w.heap.size w w' := by
  subst hpz
  have hpm : p * m ≤ 100 * 1000 := Nat.mul_le_mul hp hm
  have hpm2 : (p : Int) * (m : Int) = ((p * m : Nat) : Int) := by simp
  unfold PHist.prank at ho
  obtain ⟨q, hq⟩ : ∃ q, p * m = q := ⟨_, rfl⟩
  rw [hq] at hpm hpm2 ho
  clear hq
  have HR := fun kz hkz => Lib.hid (hi_rank F g v m rs (max 1 ((q + 99) / 100)) o z kz hkz w h (by omega) (by omega) ho hz)
  obtain ⟨hg, p0, q0, p1, q1⟩ := h.at_.two
  clear ho hz
  by_cases h1 : 1 ≤ ((q : Int) + 99) / 100
  · go_enter Try.func30, Try.ntmps30
    go_wp2_with (go_at_call 39; refine (HR _ (by omega)).out.mono ?_; rintro e w1 ⟨rfl, b1⟩)
    all_goals (go_ret2; exact ⟨rfl, b1⟩)
  · go_enter Try.func30, Try.ntmps30
    go_wp2_with (go_at_call 39; refine (HR _ (by omega)).out.mono ?_; rintro e w1 ⟨rfl, b1⟩)
    all_goals (go_ret2; exact ⟨rfl, b1⟩)
end Go.Proofs.Ythpnkjnieljdiaa
