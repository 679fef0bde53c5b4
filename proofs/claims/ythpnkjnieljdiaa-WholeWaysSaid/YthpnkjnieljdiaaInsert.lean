/- slices.Insert of one row, at rows of two cells. -/
import Derived.Test.YthpnkjnieljdiaaRows2
import Derived.Test.YthpnkjnieljdiaaHistBase
namespace Go.Proofs.Ythpnkjnieljdiaa
open Go.ChangeShapes Go.WideShapes Go.ChangeAt Go.RowKit
set_option linter.unusedVariables false
set_option linter.unusedSimpArgs false

theorem info_row : (Try.prog.info? 76).map (fun i => (i.zero, i.size, i.bytes)) = some (some (.agg #[.int .i64 0, .int .i64 0]), 2, 16) := by kernel_rfl
theorem row_size : (Try.prog.info? 76).map (·.size) = some 2 := by kernel_rfl
theorem row_sizeOf (w : World) : (Go.sizeOf 76).run Try.prog w = .ok 2 w := by kernel_rfl

theorem cells_in (rs : List NR) (i : Nat) (n : Int) (Z : List Value) (hZ1 : Z.length = (rs.length + 1) * 2) (hZ2 : Z.take (i * 2) = hv (rs.take i)) (hi : i ≤ rs.length) :
    ((Z.take (i * 2) ++ [Value.int .i64 n, Value.int .i64 0] ++ Z.drop (i * 2 + 2)).take ((i + 1) * 2) ++ (hv rs).drop (i * 2) ++ (Z.take (i * 2) ++ [Value.int .i64 n, Value.int .i64 0] ++ Z.drop (i * 2 + 2)).drop ((i + 1) * 2 + (rs.length - i) * 2)) = hv (rs.take i ++ (n, 0) :: rs.drop i) := by
  have hlt : (hv (rs.take i) ++ [Value.int .i64 n, Value.int .i64 0]).length = (i + 1) * 2 := by rw [List.length_append, hv_len, List.length_take]; simp only [List.length_cons, List.length_nil]; omega
  have hd : (hv (rs.take i) ++ [Value.int .i64 n, Value.int .i64 0] ++ Z.drop (i * 2 + 2)).drop ((i + 1) * 2 + (rs.length - i) * 2) = [] := List.drop_of_length_le (by rw [List.length_append, hlt, List.length_drop, hZ1]; omega)
  rw [hZ2, hd, List.take_left' hlt, List.append_nil, hv_append, hv_drop, List.append_assoc]
  rfl
/-- .. in two steps the other way round. -/
theorem cells_in2 (rs : List NR) (i : Nat) (n : Int) (ys : List Value) (hy : ys.length = 2) (hi : i ≤ rs.length) :
    (((hv rs ++ ys).take ((i + 1) * 2) ++ (hv rs).drop (i * 2) ++ (hv rs ++ ys).drop ((i + 1) * 2 + (rs.length - i) * 2)).take (i * 2) ++ [Value.int .i64 n, Value.int .i64 0] ++ ((hv rs ++ ys).take ((i + 1) * 2) ++ (hv rs).drop (i * 2) ++ (hv rs ++ ys).drop ((i + 1) * 2 + (rs.length - i) * 2)).drop (i * 2 + 2)) = hv (rs.take i ++ (n, 0) :: rs.drop i) := by
  have hl := hv_len rs
  have h0 : (hv rs ++ ys).length = rs.length * 2 + 2 := by rw [List.length_append, hl, hy]
  have h1 : ((hv rs ++ ys).take ((i + 1) * 2)).length = i * 2 + 2 := by rw [List.length_take, h0]; omega
  rw [List.drop_of_length_le (show (hv rs ++ ys).length ≤ (i + 1) * 2 + (rs.length - i) * 2 by rw [h0]; omega), List.append_nil, List.drop_left' h1, List.take_append_of_le_length (by rw [h1]; omega), List.take_take, Nat.min_eq_left (by omega), List.take_append_of_le_length (by omega), hv_take, hv_drop, hv_append, List.append_assoc]
  rfl

def InsPost (v : Value) (rs : List NR) (w : World) (v' : Value) (w' : World) : Prop := Sl 0 w' 2 v' rs.length (hv rs) ∧ Upd (fun k => v.ownBlock = some k) w w' ∧ ∀ k, v'.ownBlock = some k → v.ownBlock = some k ∨ w.heap.size ≤ k

theorem src_row (n : Int) (vb : Nat) (w : World) (hvb : At w vb [.int .i64 n, .int .i64 0]) : Src Try.prog 2 42 (.slice (some ⟨vb, 0, none⟩) 1 1) 1 [.int .i64 n, .int .i64 0] w := by
  obtain ⟨_, c0, _, c1, _⟩ := hvb.two
  refine Src.ofSlice w Try.underlying42 ⟨vb, 0, none⟩ 1 1 _ rfl (fun j u hu => ?_) (fun u hu => ?_)
  · match j, hu with
    | 0, hu => simp at hu; subst hu; exact c0
    | 1, hu => simp at hu; subst hu; exact c1
  · simp at hu
    rcases hu with rfl | rfl <;> rfl

set_option maxHeartbeats 1000000 in
/-- At the end: an append. -/
theorem ins_end (v : Value) (rs : List NR) (n : Int) (vb : Nat) (w : World) (h : Sl 0 w 2 v rs.length (hv rs)) (hvb : At w vb [.int .i64 n, .int .i64 0]) (hm : rs.length ≤ 1000) :
    Calls Try.prog 48 #[v, .int .i64 rs.length, .slice (some ⟨vb, 0, none⟩) 1 1] w fun e w' => ∃ v', e = .returned v' ∧ InsPost v (rs ++ [(n, 0)]) w v' w' := by
  obtain ⟨a, c, rfl⟩ := h.shape
  obtain ⟨i0, hi0, hz0, hz1, hz2⟩ := info_parts info_row
  have hs := src_row n vb w hvb
  have hlen := h.len
  rcases Decidable.em (c = rs.length) with rfl | hcn
  all_goals (
    go_enter Try.func48, Try.ntmps48
    go_wp2_with (at_builtin; refine wpList_append_sl (v := .slice a rs.length _) _ rfl (.tmp 23) (.tmp 24) 42 42 rfl 76 i0 _ 16 Try.underlying42 hi0 hz0 hz1 hz2 rfl rfl h _ 1 _ rfl hs (by unfold maxLen; omega) (by omega) (by omega) ?_; intro v1 w1 k1 k2 k3)
    go_ret
    exact ⟨_, rfl, by rw [hv_append, List.length_append]; exact k1, k2, k3⟩)

set_option maxHeartbeats 1000000 in
/-- There is room: in place. -/
theorem ins_room (g off c : Nat) (rs : List NR) (i : Nat) (n : Int) (vb : Nat) (w : World) (h : Sl 0 w 2 (.slice (some ⟨g, off, none⟩) rs.length c) rs.length (hv rs)) (hvb : At w vb [.int .i64 n, .int .i64 0]) (hne : vb ≠ g) (hi : i < rs.length) (hroom : rs.length + 1 ≤ c) (hm : rs.length ≤ 1000)
    (hheap : w.heap[vb]? = some (.cells #[.int .i64 n, .int .i64 0] 76 (0, 0))) :
    Calls Try.prog 48 #[.slice (some ⟨g, off, none⟩) rs.length c, .int .i64 i, .slice (some ⟨vb, 0, none⟩) 1 1] w fun e w' => ∃ v', e = .returned v' ∧ InsPost (.slice (some ⟨g, off, none⟩) rs.length c) (rs.take i ++ (n, 0) :: rs.drop i) w v' w' := by
  have hsa : w.shape? vb = some (76, 2) := by simp [World.shape?, hheap]
  obtain ⟨tB, kB, hsb, hkB⟩ : ∃ tB kB, w.shape? g = some (tB, kB) ∧ kB ≠ 0 := by
    obtain ⟨u, hu⟩ : ∃ u, w.cell? ⟨g, off, none⟩ = some u := ⟨_, h.reads 0 off rfl 0 _ (List.getElem?_eq_getElem (by simp [hv_len]; omega))⟩
    unfold World.cell? at hu
    simp only [World.shape?]
    split at hu
    · rename_i cs e fz hg
      rw [hg]
      refine ⟨_, _, rfl, ?_⟩
      intro h0
      simp [Array.getElem?_eq_none (show cs.size ≤ off by omega)] at hu
    · cases hu
  have hfa : w.frozen? ⟨vb, 0, none⟩ = false := by simp [World.frozen?, hheap]
  have hfe : w.frozen? ⟨vb, 2, none⟩ = false := by simp [World.frozen?, hheap]
  have hov : ∀ o lb cb, (callFunc 53 #[.slice (some ⟨vb, 0, none⟩) 1 1, .slice (some ⟨g, o, none⟩) lb cb]).run Try.prog w = .ok (.value (.bool false)) w := fun o lb cb => by
    rw [run_callFunc_extern Try.func53 (by kernel_rfl) (by kernel_rfl) (by kernel_rfl) (e := Extern.SlicesOverlaps.overlaps #[42, 42] #[4]) (by kernel_rfl),
      Lib.run_overlaps_apart w 42 4 76 Try.underlying42 2 row_sizeOf ⟨vb, 0, none⟩ ⟨g, o, none⟩ 1 1 lb cb hne _ tB 2 kB hsa hsb hkB hfa hfe]
    rfl
  have h1 : (i : Int) ≤ (rs.length : Int) := by omega
  have h2 : ¬ ((i : Int) = (rs.length : Int)) := by omega
  obtain ⟨ys, hys, hw⟩ := (h.drewN 1).wide 1 hroom
  have hl := hv_len rs
  have hdl : ((hv rs).drop (i * 2)).length = (rs.length - i) * 2 := by rw [List.length_drop, hl]; omega
  obtain ⟨W1, hW1⟩ : ∃ W1, W1 = (w.drewN 1).setCells g (off + (i + 1) * 2) ((hv rs).drop (i * 2)) := ⟨_, rfl⟩
  have cp1 : ∀ ty dc sc, (Builtin.copy_ #[42, 42] ty #[.slice (some ⟨g, off + (i + 1) * 2, none⟩) (rs.length - i) dc, .slice (some ⟨g, off + i * 2, none⟩) (rs.length + 1 - i) sc]).run Try.prog w.drew = .ok (goInt ((rs.length - i : Nat) : Int)) W1 := fun ty dc sc => by
    rw [hW1]
    exact run_copy_over hw _ _ ty 76 _ (rs.length - i) dc ((i + 1) * 2) (rs.length - i) _ (rs.length + 1 - i) sc _ Try.underlying42 row_size rfl (by simp only [Nat.min_def]; split <;> omega) hdl (by omega) (fun j v hj => (h.drewN 1).reads (i * 2) _ rfl j v hj) (fun u hu => hv_one rs u (List.mem_of_mem_drop hu))
  have hs1 := hw.over ((i + 1) * 2) ((hv rs).drop (i * 2)) (by rw [hdl]; omega)
  rw [← hW1] at hs1
  have hu1 : Upd (fun k => k = g) w W1 := by rw [hW1]; exact ((upd_drewN w 1).cat (S := fun k => k = g) (upd_setCells _ _ _ _) (fun _ _ h => h.elim) (fun _ _ h => h))
  have hvb1 := hvb.upd hu1 (by exact hne)
  obtain ⟨W2, hW2⟩ : ∃ W2, W2 = W1.setCells g (off + i * 2) [.int .i64 n, .int .i64 0] := ⟨_, rfl⟩
  have cp2 : ∀ ty dc, (Builtin.copy_ #[42, 42] ty #[.slice (some ⟨g, off + i * 2, none⟩) (rs.length + 1 - i) dc, .slice (some ⟨vb, 0, none⟩) 1 1]).run Try.prog W1 = .ok (goInt 1) W2 := fun ty dc => by
    rw [hW2]
    obtain ⟨_, d0, _, d1, _⟩ := hvb1.two
    exact run_copy_over hs1 _ _ ty 76 _ (rs.length + 1 - i) dc (i * 2) 1 _ 1 1 _ Try.underlying42 row_size rfl (by simp only [Nat.min_def]; split <;> omega) rfl (by simp; omega) (fun j v hj => by
      match j, hj with
      | 0, hj => simp at hj; subst hj; exact d0
      | 1, hj => simp at hj; subst hj; exact d1) (fun u hu => by simp at hu; rcases hu with rfl | rfl <;> rfl)
  have hs2 := hs1.over (i * 2) [.int .i64 n, .int .i64 0] (by simp; omega)
  rw [← hW2] at hs2
  have hu2 : Upd (fun k => k = g) W1 W2 := by rw [hW2]; exact upd_setCells _ _ _ _
  have hfin : InsPost (.slice (some ⟨g, off, none⟩) rs.length c) (rs.take i ++ (n, 0) :: rs.drop i) w (.slice (some ⟨g, off, none⟩) (rs.length + 1) c) W2 := by
    refine ⟨?_, ?_, fun k hk => .inl hk⟩
    · rw [hdl] at hs2
      simp only [List.length_cons, List.length_nil] at hs2
      rw [cells_in2 rs i n ys hys (by omega)] at hs2
      rw [show (rs.take i ++ (n, 0) :: rs.drop i).length = rs.length + 1 by simp; omega]
      exact hs2
    · exact hu1.cat hu2 (fun k _ hk => by subst hk; rfl) (fun k _ hk => by subst hk; rfl)
  have HF := Lib.hid hfin
  have hb1 : (0 : Int) ≤ (i : Int) + 1 := by omega
  have hwr : IntKind.i64.wrap ((i : Int) + 1) = (i : Int) + 1 := by rw [IntKind.wrap_i64]; omega
  have hin : i ≤ rs.length := by omega
  have htn : ((i : Int) + 1).toNat = i + 1 := by omega
  have hb3 : (i : Int) ≤ (rs.length : Int) + 1 := by omega
  have hci : ¬ (c = i) := by omega
  have hci1 : ¬ (c = i + 1) := by omega
  clear hfin hs2 hu2 hW2 hvb1 hu1 hs1 hW1 hdl hl hw hys
  go_enter Try.func48, Try.ntmps48
  go_wp2_with (simp only [hov])
  go_region_law (refine step_copy_run rfl _ _ 42 42 rfl _ _ (by simp [Act.eval, Act.put]) (by simp [Act.eval, Act.put]) (cp1 _ _ _) ?_)
  all_goals (go_wp2_with (at_builtin; refine wpList_copy_run _ rfl (.tmp 80) (.tmp 81) 42 42 rfl _ _ rfl rfl (cp2 _ _) ?_))
  all_goals (go_ret; exact ⟨_, rfl, HF.out⟩)

set_option maxHeartbeats 1000000 in
/-- There is none: a row of its own. -/
theorem ins_grow (g off c : Nat) (rs : List NR) (i : Nat) (n : Int) (vb : Nat) (w : World) (h : Sl 0 w 2 (.slice (some ⟨g, off, none⟩) rs.length c) rs.length (hv rs)) (hvb : At w vb [.int .i64 n, .int .i64 0]) (hi : i < rs.length) (hroom : c < rs.length + 1) (hm : rs.length ≤ 1000) :
    Calls Try.prog 48 #[.slice (some ⟨g, off, none⟩) rs.length c, .int .i64 i, .slice (some ⟨vb, 0, none⟩) 1 1] w fun e w' => ∃ v', e = .returned v' ∧ InsPost (.slice (some ⟨g, off, none⟩) rs.length c) (rs.take i ++ (n, 0) :: rs.drop i) w v' w' := by
  have h1 : (i : Int) ≤ (rs.length : Int) := by omega
  have h2 : ¬ ((i : Int) = (rs.length : Int)) := by omega
  have hnc : rs.length ≤ c := by
    rcases h.2 with ⟨h0, _⟩ | ⟨g', off', cap', e0, hb, hg, hn, hm', h3, h4⟩
    · cases h0
    · cases e0; exact hn
  obtain ⟨i0, hi0, hz0, hz1, hz2⟩ := info_parts info_row
  have hkk : (rs.length : Int) + 1 - (i : Int) = ((rs.length + 1 - i : Nat) : Int) := by omega
  have hik : i + (rs.length + 1 - i) = rs.length + 1 := by omega
  have hold : (Builtin.firstCells i0.size i (.slice (some ⟨g, off, none⟩) i c)).run Try.prog w.drew = .ok (hv (rs.take i)).toArray w.drew := by
    rw [hz1]
    have hh := (h.head i (by omega)).drewN 1
    rw [hv_take] at hh
    refine run_firstCells_some w.drew 2 i ⟨g, off, none⟩ i c (hv (rs.take i)) (by rw [hv_len, List.length_take]; omega) (fun j v hj => ?_)
    exact hh.reads 0 off rfl j v hj
  have hrz : ∀ ty, (Builtin.append_ #[42, 3] ty #[.slice (some ⟨g, off, none⟩) i c, .int .i64 ((rs.length : Int) + 1 - (i : Int))]).run Try.prog w =
      .ok (.slice (some ⟨w.heap.size, 0, none⟩) (rs.length + 1) (grownCap w (rs.length + 1) c 76)) (w.drew.alloc (.cells ((hv (rs.take i)).toArray ++ Builtin.zeroCells (Value.agg #[.int .i64 0, .int .i64 0]).cells (rs.length + 1 - i) ++ Builtin.zeroCells (Value.agg #[.int .i64 0, .int .i64 0]).cells (grownCap w (rs.length + 1) c 76 - (rs.length + 1))) 76)) := fun ty => by
    have hh := Lib.run_append_grow_zeros w 42 3 ty 76 i0 _ .i64 .i64 Try.underlying42 Try.underlying3 hi0 hz0 (some ⟨g, off, none⟩) i c (hv (rs.take i)) hold (rs.length + 1 - i) (by omega) (by omega) (by omega) (by omega) (by rw [hz2]; omega) (by rw [hz2, hik]; exact growslice_fits hroom (by omega))
    rw [hik] at hh
    rw [hkk]
    exact hh
  obtain ⟨G, hG⟩ : ∃ G, G = grownCap w (rs.length + 1) c 76 := ⟨_, rfl⟩
  obtain ⟨ROW, hROW⟩ : ∃ ROW : Array Value, ROW = (hv (rs.take i)).toArray ++ Builtin.zeroCells (Value.agg #[.int .i64 0, .int .i64 0]).cells (rs.length + 1 - i) ++ Builtin.zeroCells (Value.agg #[.int .i64 0, .int .i64 0]).cells (G - (rs.length + 1)) := ⟨_, rfl⟩
  rw [← hG] at hrz
  rw [← hROW] at hrz
  obtain ⟨W1, hW1⟩ : ∃ W1, W1 = w.drew.alloc (.cells ROW 76) := ⟨_, rfl⟩
  rw [← hW1] at hrz
  have hl := hv_len rs
  have hG1 : rs.length + 1 ≤ G := by rw [hG]; exact grownCap_ge w _ _ _
  have hG2 : G ≤ maxLen := by rw [hG]; exact grownCap_le_maxLen w _ _ _ (by unfold maxLen; omega)
  have hu1 : Upd (fun _ => False) w W1 := by rw [hW1]; exact ((Upd.refl _ w).drew).alloc _
  have hzs : (Value.agg #[.int .i64 0, .int .i64 0]).cells.size = 2 := rfl
  have hs1 : ∃ Z, Z.length = (rs.length + 1) * 2 ∧ Z.take (i * 2) = hv (rs.take i) ∧ Sl w.heap.size W1 2 (.slice (some ⟨w.heap.size, 0, none⟩) (rs.length + 1) G) (rs.length + 1) Z := by
    have hRs : G * 2 ≤ ROW.size := by rw [hROW]; simp only [Array.size_append, List.size_toArray, size_zeroCells, hzs, hv_len, List.length_take]; omega
    have := Sl.made (B := w.heap.size) w.drew ROW 76 2 (rs.length + 1) G (Nat.le_refl _) hG1 hG2 hRs
    refine ⟨_, this.1, ?_, by rw [hW1]; exact this⟩
    rw [List.take_take, Nat.min_eq_left (by omega), hROW, Array.toList_append, Array.toList_append, List.append_assoc]
    exact List.take_left' (by rw [hv_len, List.length_take]; omega)
  obtain ⟨Z, hZ1, hZ2, hs1⟩ := hs1
  have hsv := src_row n vb W1 (hvb.upd hu1 id)
  have hvb1 := hvb.upd hu1 id
  obtain ⟨W2, hW2⟩ : ∃ W2, W2 = W1.setCells w.heap.size (0 + i * 2) [.int .i64 n, .int .i64 0] := ⟨_, rfl⟩
  have cpA : ∀ ty dc, (Builtin.copy_ #[42, 42] ty #[.slice (some ⟨w.heap.size, i * 2, none⟩) (rs.length + 1 - i) dc, .slice (some ⟨vb, 0, none⟩) 1 1]).run Try.prog W1 = .ok (goInt 1) W2 := fun ty dc => by
    rw [hW2, Nat.zero_add]
    obtain ⟨_, d0, _, d1, _⟩ := hvb1.two
    exact run_copy_over hs1 _ _ ty 76 _ (rs.length + 1 - i) dc (i * 2) 1 _ 1 1 _ Try.underlying42 row_size (by omega) (by simp only [Nat.min_def]; split <;> omega) rfl (by simp; omega) (fun j v hj => by
      match j, hj with
      | 0, hj => simp at hj; subst hj; exact d0
      | 1, hj => simp at hj; subst hj; exact d1) (fun u hu => by simp at hu; rcases hu with rfl | rfl <;> rfl)
  have hs2 := hs1.over (i * 2) [.int .i64 n, .int .i64 0] (by simp; omega)
  rw [← hW2] at hs2
  have hu2 : Upd (fun k => k = w.heap.size) W1 W2 := by rw [hW2]; exact upd_setCells _ _ _ _
  have hgl : g < w.heap.size := (h.lt g rfl).2
  have hd2 : Sl 0 W2 2 (.slice (some ⟨g, off, none⟩) rs.length c) rs.length (hv rs) := (h.upd hu1 (fun _ _ h => h)).upd hu2 (fun k hk e => by
    have : g = k := by simpa [Value.ownBlock] using hk
    omega)
  have hdl : ((hv rs).drop (i * 2)).length = (rs.length - i) * 2 := by rw [List.length_drop, hl]; omega
  obtain ⟨W4, hW4⟩ : ∃ W4, W4 = W2.drew.setCells w.heap.size (0 + (i + 1) * 2) ((hv rs).drop (i * 2)) := ⟨_, rfl⟩
  have cpB : ∀ ty dc sc, (Builtin.copy_ #[42, 42] ty #[.slice (some ⟨w.heap.size, (i + 1) * 2, none⟩) (rs.length - i) dc, .slice (some ⟨g, off + i * 2, none⟩) (rs.length - i) sc]).run Try.prog W2.drew = .ok (goInt ((rs.length - i : Nat) : Int)) W4 := fun ty dc sc => by
    rw [hW4, Nat.zero_add]
    exact run_copy_over (hs2.drewN 1) _ _ ty 76 _ (rs.length - i) dc ((i + 1) * 2) (rs.length - i) _ (rs.length - i) sc _ Try.underlying42 row_size (by omega) (by simp) hdl (by omega) (fun j v hj => (hd2.drewN 1).reads (i * 2) _ rfl j v hj) (fun u hu => hv_one rs u (List.mem_of_mem_drop hu))
  have hs4 := (hs2.drewN 1).over ((i + 1) * 2) ((hv rs).drop (i * 2)) (by rw [hdl]; omega)
  have hu4 : Upd (fun k => k = w.heap.size) W2.drew W4 := by rw [hW4]; exact upd_setCells _ _ _ _
  change Sl _ (W2.drew.setCells _ _ _) _ _ _ _ at hs4
  rw [← hW4] at hs4
  have hcells : ((Z.take (i * 2) ++ [Value.int .i64 n, Value.int .i64 0] ++ Z.drop (i * 2 + 2)).take ((i + 1) * 2) ++ (hv rs).drop (i * 2) ++ (Z.take (i * 2) ++ [Value.int .i64 n, Value.int .i64 0] ++ Z.drop (i * 2 + 2)).drop ((i + 1) * 2 + ((hv rs).drop (i * 2)).length)) = hv (rs.take i ++ (n, 0) :: rs.drop i) := by
    rw [hdl]
    exact cells_in rs i n Z hZ1 hZ2 (by omega)
  have hfin : InsPost (.slice (some ⟨g, off, none⟩) rs.length c) (rs.take i ++ (n, 0) :: rs.drop i) w (.slice (some ⟨w.heap.size, 0, none⟩) (rs.length + 1) G) W4 := by
    refine ⟨?_, ?_, fun k hk => .inr ?_⟩
    · have := hs4.base (Nat.zero_le _)
      simp only [List.length_cons, List.length_nil] at this
      rw [hcells] at this
      rw [show (rs.take i ++ (n, 0) :: rs.drop i).length = rs.length + 1 by simp; omega]
      exact this
    · exact (((hu1.cat (S := fun k => w.heap.size ≤ k) hu2 (fun _ _ h => h.elim) (fun k hk hk' => by omega)).drew).cat (S := fun k => w.heap.size ≤ k) hu4 (fun _ _ h => h) (fun k hk hk' => by omega)).mono (fun k hk hk' => by omega)
    · have : w.heap.size = k := by simpa [Value.ownBlock] using hk
      omega
  have HF := Lib.hid hfin
  have hb1 : (0 : Int) ≤ (i : Int) + 1 := by omega
  have hwr : IntKind.i64.wrap ((i : Int) + 1) = (i : Int) + 1 := by rw [IntKind.wrap_i64]; omega
  have hin : i ≤ rs.length := by omega
  have htn : ((i : Int) + 1).toNat = i + 1 := by omega
  have hGi : ¬ (G = i) := by omega
  have hGi1 : ¬ (G = i + 1) := by omega
  have hci : ¬ (c = i) := by omega
  clear hfin hcells hs4 hu4 hW4 hd2 hu2 hs2 hW2 hvb1 hsv hs1 hZ2 hZ1 hu1 hG hROW hW1 hold hkk hdl hl
  go_enter Try.func48, Try.ntmps48
  go_wp2_with (first | (at_builtin; refine wpList_append_run _ rfl (.tmp 34) (.tmp 39) 42 3 rfl _ _ rfl rfl (hrz _) ?_) | (at_builtin; go_loud (refine wpList_copy_run _ rfl (.tmp 43) (.tmp 44) 42 42 rfl _ _ rfl rfl (cpA _ _) ?_)))
  all_goals (go_region_law (refine step_copy_run rfl _ _ 42 42 rfl _ _ (by simp [Act.eval, Act.put]) (by simp [Act.eval, Act.put]) (cpB _ _ _) ?_))
  all_goals go_wp2
  all_goals (go_ret; exact ⟨_, rfl, HF.out⟩)
end Go.Proofs.Ythpnkjnieljdiaa
