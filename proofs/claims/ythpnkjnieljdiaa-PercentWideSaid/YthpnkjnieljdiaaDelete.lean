/- slices.Delete of one row, at rows of two cells. -/
import Derived.Test.YthpnkjnieljdiaaInsert
namespace Go.Proofs.Ythpnkjnieljdiaa
open Go.ChangeShapes Go.WideShapes Go.ChangeAt Go.RowKit
set_option linter.unusedVariables false
set_option linter.unusedSimpArgs false

section
variable {P : Program}
/-- 'clear' of one element of two cells. -/
theorem run_clear_two (w : World) (t e ty : TypeId) (z x y : Value) (ht : P.underlying t = some (.slice e)) (hv : ∀ w, (zeroValue e).run P w = .ok z w) (hz : z.cells = #[x, y]) (h1 : x.oneCell' = true) (h2 : y.oneCell' = true) (b o c : Nat)
    (hc : ∀ j, j < 2 → (w.cell? ⟨b, o + j, none⟩).isSome = true) (hf : ∀ j, j < 2 → w.frozen? ⟨b, o + j, none⟩ = false) :
    (Builtin.clear_ #[t] ty #[.slice (some ⟨b, o, none⟩) 1 c]).run P w = .ok (.tuple #[]) (w.setCells b o [x, y]) := by
  have hzc : (Builtin.zeroCells z.cells 1).toList = [x, y] := by
    rw [hz]
    simp [Builtin.zeroCells]
    rfl
  have hst := run_storeCells_cells (P := P) b o [x, y] 0 w (by simpa using hc) (by simpa using hf) (by intro v hv'; simp at hv'; rcases hv' with rfl | rfl <;> assumption)
  simp only [Nat.add_zero] at hst
  simp [Builtin.clear_, run_underlying ht, hv, hzc, hst]
theorem wpList_clear_run (w : World) {ops : Array Oper} {rest : List Oper} {o : Oper} {a : Act} {Q : Exit → Act → World → Prop} (hgd : o.guard = none) (s : Operand) (t : TypeId)
    (ho : o.op = .call { callee := .builtin .clear, args := #[s], argTypes := #[t] }) (v : Value) (hv : a.eval s = v) {v' : Value} {w' : World}
    (hr : (Builtin.clear_ #[t] o.type #[v]).run P w = .ok v' w') (hK : wpList P ops Q rest (a.put o.dst v') w') : wpList P ops Q (o :: rest) a w := by
  refine wpList_plain hgd fun K hK' => ?_
  unfold Oper.wp
  simp [execOp, ho, resolve, invoke, builtin, hv, hr, Result.andThen]
  exact hK' _ _ hK
end

theorem cells_out (rs : List NR) (i : Nat) (hi : i < rs.length) :
    (((hv rs).take (i * 2) ++ (hv rs).drop ((i + 1) * 2) ++ (hv rs).drop (i * 2 + (rs.length - 1 - i) * 2)).take ((rs.length - 1) * 2) ++ [Value.int .i64 0, Value.int .i64 0] ++ ((hv rs).take (i * 2) ++ (hv rs).drop ((i + 1) * 2) ++ (hv rs).drop (i * 2 + (rs.length - 1 - i) * 2)).drop ((rs.length - 1) * 2 + 2)).take ((rs.length - 1) * 2) = hv (rs.take i ++ rs.drop (i + 1)) := by
  have hl := hv_len rs
  have h1 : ((hv rs).take (i * 2) ++ (hv rs).drop ((i + 1) * 2)).length = (rs.length - 1) * 2 := by rw [List.length_append, List.length_take, List.length_drop, hl]; omega
  rw [List.take_left' h1, List.append_assoc, List.take_left' h1, hv_take, hv_drop, hv_append]

def DelPost (v : Value) (rs : List NR) (w : World) (v' : Value) (w' : World) : Prop := InsPost v rs w v' w'

set_option maxHeartbeats 1000000 in
theorem hi_delete (g off c : Nat) (rs : List NR) (i : Nat) (w : World) (h : Sl 0 w 2 (.slice (some ⟨g, off, none⟩) rs.length c) rs.length (hv rs)) (hi : i < rs.length) (hm : rs.length ≤ 1000) :
    Calls Try.prog 47 #[.slice (some ⟨g, off, none⟩) rs.length c, .int .i64 i, .int .i64 ((i : Int) + 1)] w fun e w' => ∃ v', e = .returned v' ∧ InsPost (.slice (some ⟨g, off, none⟩) rs.length c) (rs.take i ++ rs.drop (i + 1)) w v' w' := by
  have hnc : rs.length ≤ c ∧ c ≤ maxLen := by
    rcases h.2 with ⟨h0, _⟩ | ⟨g', off', cap', e0, hb, hg, hn, hm', h3, h4⟩
    · cases h0
    · cases e0; exact ⟨hn, hm'⟩
  obtain ⟨hnc, hcm⟩ := hnc
  have hl := hv_len rs
  obtain ⟨i0, hi0, hz0, hz1, hz2⟩ := info_parts info_row
  have hd := h.drewN 1
  have hdl : ((hv rs).drop ((i + 1) * 2)).length = (rs.length - 1 - i) * 2 := by rw [List.length_drop, hl]; omega
  obtain ⟨W1, hW1⟩ : ∃ W1, W1 = (w.drewN 1).setCells g (off + i * 2) ((hv rs).drop ((i + 1) * 2)) := ⟨_, rfl⟩
  have hu1 : Upd (fun k => k = g) w W1 := by rw [hW1]; exact ((upd_drewN w 1).cat (S := fun k => k = g) (upd_setCells _ _ _ _) (fun _ _ h => h.elim) (fun _ _ h => h))
  have hs1 := hd.over (i * 2) ((hv rs).drop ((i + 1) * 2)) (by rw [hdl]; omega)
  rw [← hW1, hdl] at hs1
  have hap : ∀ A, (A = some (⟨g, off + (i + 1) * 2, none⟩ : Addr) ∨ (A = some ⟨g, off, none⟩ ∧ c = i + 1)) → ∀ ty c', (Builtin.append_ #[42, 42] ty #[.slice (some ⟨g, off, none⟩) i c, .slice A (rs.length - (i + 1)) c']).run Try.prog w.drew = .ok (.slice (some ⟨g, off, none⟩) (rs.length - 1) c) W1 := by
    intro A hA ty c'
    have hsrc : Src Try.prog 2 42 (.slice A (rs.length - (i + 1)) c') (rs.length - (i + 1)) ((hv rs).drop ((i + 1) * 2)) (w.drewN 1) := by
      rcases hA with rfl | ⟨rfl, hc⟩
      · exact Src.ofSlice _ Try.underlying42 _ _ _ _ (by rw [hdl]; omega) (hd.reads ((i + 1) * 2) _ rfl) (fun u hu => hv_one rs u (List.mem_of_mem_drop hu))
      · have h0 : (hv rs).drop ((i + 1) * 2) = [] := List.drop_of_length_le (by rw [hl]; omega)
        rw [h0]
        exact Src.ofSlice _ Try.underlying42 _ _ _ [] (by simp; omega) (fun j u hu => by simp at hu) (fun u hu => by cases hu)
    rcases hd.2 with ⟨h0, _⟩ | ⟨g', off', cap', e0, hb, hg, hn, hm', h3, h4⟩
    · cases h0
    · cases e0
      have := run_append_room_src (P := Try.prog) (w.drewN 1) 42 42 ty 76 i0 Try.underlying42 hi0 g off i c _ _ _ (by rw [hz1]; exact hsrc) (by omega) (fun j hj => by rw [hz1, Nat.add_assoc]; exact (h4 _ (by omega)).1) (fun j hj => by rw [hz1, Nat.add_assoc]; exact (h4 _ (by omega)).2)
      rw [hz1, show i + (rs.length - (i + 1)) = rs.length - 1 by omega] at this
      rw [hW1]
      exact this
  obtain ⟨W2, hW2⟩ : ∃ W2, W2 = W1.setCells g (off + (rs.length - 1) * 2) [.int .i64 0, .int .i64 0] := ⟨_, rfl⟩
  have hcl : ∀ ty c', (Builtin.clear_ #[42] ty #[.slice (some ⟨g, off + (rs.length - 1) * 2, none⟩) 1 c']).run Try.prog W1 = .ok (.tuple #[]) W2 := fun ty c' => by
    rw [hW2]
    rcases hs1.2 with ⟨h0, _⟩ | ⟨g', off', cap', e0, hb, hg, hn, hm', h3, h4⟩
    · cases h0
    · cases e0
      exact run_clear_two W1 _ 76 ty (.agg #[.int .i64 0, .int .i64 0]) _ _ Try.underlying42 (fun w => by kernel_rfl) rfl rfl rfl g _ c' (fun j hj => by rw [Nat.add_assoc]; exact (h4 _ (by omega)).1) (fun j hj => by rw [Nat.add_assoc]; exact (h4 _ (by omega)).2)
  have hs2 := (hs1.over ((rs.length - 1) * 2) [.int .i64 0, .int .i64 0] (by simp; omega)).head (rs.length - 1) (by omega)
  rw [← hW2] at hs2
  have hu2 : Upd (fun k => k = g) W1 W2 := by rw [hW2]; exact upd_setCells _ _ _ _
  have hfin : InsPost (.slice (some ⟨g, off, none⟩) rs.length c) (rs.take i ++ rs.drop (i + 1)) w (.slice (some ⟨g, off, none⟩) (rs.length - 1) c) W2 := by
    refine ⟨?_, ?_, fun k hk => .inl hk⟩
    · simp only [List.length_cons, List.length_nil] at hs2
      rw [cells_out rs i hi] at hs2
      rw [show (rs.take i ++ rs.drop (i + 1)).length = rs.length - 1 by simp; omega]
      exact hs2
    · exact hu1.cat hu2 (fun k _ hk => by subst hk; rfl) (fun k _ hk => by subst hk; rfl)
  have HF := Lib.hid hfin
  have hb1 : (0 : Int) ≤ (i : Int) + 1 := by omega
  have hin : i ≤ rs.length := by omega
  have hin1 : (i : Int) + 1 ≤ (rs.length : Int) := by omega
  have htn : ((i : Int) + 1).toNat = i + 1 := by omega
  have hc1 : ¬ (c = rs.length - 1) := by omega
  have hone : rs.length - (rs.length - 1) = 1 := by omega
  have hic : i ≤ c := by omega
  have hic2 : (i : Int) ≤ (c : Int) := by omega
  have hwr : IntKind.i64.wrap ((i : Int) + 1) = (i : Int) + 1 := by rw [IntKind.wrap_i64]; omega
  have hni : ¬ ((i : Int) = (i : Int) + 1) := by omega
  rcases Decidable.em (c = i + 1) with hci | hci
  · have hA := fun ty => hap _ (.inr ⟨rfl, hci⟩) ty 0
    have hic3 : (i : Int) ≤ (i : Int) + 1 := by omega
    have hri : rs.length - (i + 1) = 0 := by omega
    rw [hri] at hA
    subst hci
    clear hfin hs2 hu2 hW2 hu1 hs1 hW1 hdl hl hd hap h
    go_enter Try.func47, Try.ntmps47
    go_wp2
    go_region_law (refine step_append_run rfl _ _ 42 42 rfl _ _ (by simp [Act.eval, Act.put]) (by simp [Act.eval, Act.put]) (hA _) ?_)
    all_goals (go_wp2_with (at_builtin; refine wpList_clear_run _ rfl (.tmp 31) 42 rfl _ rfl (hcl _ _) ?_))
    all_goals (go_ret; exact ⟨_, rfl, HF.out⟩)
  · have hA := fun ty => hap _ (.inl rfl) ty (c - (i + 1))
    clear hfin hs2 hu2 hW2 hu1 hs1 hW1 hdl hl hd hap h
    go_enter Try.func47, Try.ntmps47
    go_wp2
    go_region_law (refine step_append_run rfl _ _ 42 42 rfl _ _ (by simp [Act.eval, Act.put]) (by simp [Act.eval, Act.put]) (hA _) ?_)
    all_goals (go_wp2_with (at_builtin; refine wpList_clear_run _ rfl (.tmp 31) 42 rfl _ rfl (hcl _ _) ?_))
    all_goals (go_ret; exact ⟨_, rfl, HF.out⟩)
end Go.Proofs.Ythpnkjnieljdiaa
