/- The walk of TreeDoes. -/
import Derived.Test.YtiahiadipmmgcaaTrI
import Derived.Test.YtiahiadipmmgcaaRowG
import Derived.BigQuiet
import Derived.Deep.LoopGhost
namespace Go.Proofs.Ytiahiadipmmgcaa
set_option maxRecDepth 4000
open Go.ChangeShapes Go.WideShapes Go.ChangeAt Go.RowKit
open PTree
set_option linter.unusedVariables false
set_option linter.unusedSimpArgs false

/-- The cells of one act. -/
def actT (x : Bool × Bool × Int × Int × Unit) : List Value := [.bool x.1, .bool x.2.1, .int .i64 x.2.2.1, .int .i64 x.2.2.2.1]
def actTq (x : Bool × Bool × Int × Int × Unit) : Prop := (-9223372036854775808 ≤ x.2.2.1 ∧ x.2.2.1 ≤ 9223372036854775807) ∧ (-9223372036854775808 ≤ x.2.2.2.1 ∧ x.2.2.2.1 ≤ 9223372036854775807)
theorem Rd.actT {w : World} {cs : List Value} {d : Bool × Bool × Int × Int × Unit} (h : Rd w (.pair .bool (.pair .bool (.pair (.int .i64) (.pair (.int .i64) .unit)))) cs d) : cs = actT d ∧ actTq d := by
  obtain ⟨a, b, i, n, u⟩ := d
  obtain ⟨c1, d1, rfl, rfl, c2, d2, rfl, rfl, c3, d3, rfl, ⟨rfl, h3⟩, c4, d4, rfl, ⟨rfl, h4⟩, h5⟩ := h
  have h5' : d4 = [] := h5
  subst h5'
  exact ⟨rfl, bounds_i64 h3, bounds_i64 h4⟩

/-- A tree, and two rows of the call's own that hold what it should. -/
structure Td (w0 w : World) (F : Nat → Prop) (g ga gb n : Nat) (K : Nat → Int) (out : Nat → Bool) : Prop where
  tr : TreeI w F g n K out
  ks : Own w ga 0 n (fun j => .int .i64 (K j))
  os : Own w gb 0 n (fun j => .bool (out j))
  fa : ¬ F ga
  fb : ¬ F gb
  ab : ga ≠ gb
  f0 : ∀ b, F b → w0.heap.size ≤ b
  a0 : w0.heap.size ≤ ga
  b0 : w0.heap.size ≤ gb
  new : Below w0.heap.size w0 w
section
variable {w0 w w' : World} {F : Nat → Prop} {g ga gb n : Nat} {K K' : Nat → Int} {out out' : Nat → Bool}
theorem Td.upd {S : Nat → Prop} (h : Td w0 w F g ga gb n K out) (hu : Upd S w w') (hF : ∀ b, F b → ¬ S b) (hA : ¬ S ga) (hB : ¬ S gb) (hn : ∀ b, b < w.heap.size → S b → w0.heap.size ≤ b) : Td w0 w' F g ga gb n K out :=
  ⟨h.tr.upd hu hF, h.ks.upd hu hA, h.os.upd hu hB, h.fa, h.fb, h.ab, h.f0, h.a0, h.b0, h.new.upd hu h.new.size hn⟩
theorem Td.on (h : Td w0 w F g ga gb n K out) (hb : Below w.heap.size w w') : Td w0 w' F g ga gb n K out :=
  h.upd (S := fun k => w.heap.size ≤ k) (Upd.of_below hb (fun _ _ h => h)) (fun b hb h2 => by have := h.tr.lt b hb; omega) (by have := h.ks.lt; omega) (by have := h.os.lt; omega) (fun b h1 h2 => by omega)
theorem Td.alloc (h : Td w0 w F g ga gb n K out) (o : Obj) : Td w0 (w.alloc o) F g ga gb n K out := h.on ((Below.refl _ _).alloc (Nat.le_refl _) o)
theorem Td.drewN (h : Td w0 w F g ga gb n K out) (m : Nat) : Td w0 (w.drewN m) F g ga gb n K out := h.upd (S := fun _ => False) ((Upd.refl _ _).drewN m) (fun _ _ => id) id id (fun _ _ h => h.elim)
theorem Td.key (h : Td w0 w F g ga gb n K out) (j : Nat) (hj : j < n) : w.cell? ⟨ga, j, none⟩ = some (.int .i64 (K j)) ∧ w.frozen? ⟨ga, j, none⟩ = false := by
  have h1 := h.ks.cell j hj
  have h2 := h.ks.free j hj
  rw [Nat.zero_add] at h1 h2
  exact ⟨h1, h2⟩
theorem Td.out_ (h : Td w0 w F g ga gb n K out) (j : Nat) (hj : j < n) : w.cell? ⟨gb, j, none⟩ = some (.bool (out j)) ∧ w.frozen? ⟨gb, j, none⟩ = false := by
  have h1 := h.os.cell j hj
  have h2 := h.os.free j hj
  rw [Nat.zero_add] at h1 h2
  exact ⟨h1, h2⟩
theorem own_putb {w : World} {b n : Nat} {f : Nat → Bool} (h : Own w b 0 n (fun j => .bool (f j))) (j : Nat) (hj : j < n) (x : Bool) : Own (w.setCell ⟨b, j, none⟩ (.bool x)) b 0 n (fun i => .bool (put f j x i)) := by
  have h1 := h.set j hj (.bool x)
  rw [Nat.zero_add] at h1
  exact h1.congr (fun i hi => by unfold put; by_cases e : i = j <;> simp [e])
/-- A number is set in the tree, then in the row. -/
theorem Td.set (h : Td w0 w F g ga gb n K out) (i : Nat) (hi : i < n) (x : Int) (k : TIPost F g n (put K i x) out w w') : Td w0 (w'.setCell ⟨ga, i, none⟩ (.int .i64 x)) F g ga gb n (put K i x) out :=
  have hu : Upd (fun k => k = ga) w' (w'.setCell ⟨ga, i, none⟩ (.int .i64 x)) := (Upd.refl (fun k => k = ga) w').setCell (p := ⟨ga, i, none⟩) (fun _ => rfl) _
  have hb : Below w0.heap.size w0 w' := h.new.upd k.2 h.new.size (fun b _ hb => h.f0 b hb)
  ⟨k.1.upd hu (fun b hb e => h.fa (e ▸ hb)), own_put (h.ks.upd k.2 h.fa) i hi x, (h.os.upd k.2 h.fb).upd hu (fun e => h.ab e.symm), h.fa, h.fb, h.ab, h.f0, h.a0, h.b0, hb.upd hu hb.size (fun b _ e => by have := h.a0; omega)⟩
theorem Td.leave (h : Td w0 w F g ga gb n K out) (i : Nat) (hi : i < n) (x : Bool) (k : TIPost F g n K (put out i x) w w') : Td w0 (w'.setCell ⟨gb, i, none⟩ (.bool x)) F g ga gb n K (put out i x) :=
  have hu : Upd (fun k => k = gb) w' (w'.setCell ⟨gb, i, none⟩ (.bool x)) := (Upd.refl (fun k => k = gb) w').setCell (p := ⟨gb, i, none⟩) (fun _ => rfl) _
  have hb : Below w0.heap.size w0 w' := h.new.upd k.2 h.new.size (fun b _ hb => h.f0 b hb)
  ⟨k.1.upd hu (fun b hb e => h.fb (e ▸ hb)), (h.ks.upd k.2 h.fa).upd hu h.ab, own_putb (h.os.upd k.2 h.fb) i hi x, h.fa, h.fb, h.ab, h.f0, h.a0, h.b0, hb.upd hu hb.size (fun b _ e => by have := h.b0; omega)⟩
end

set_option maxRecDepth 100000 in
set_option maxHeartbeats 4000000 in
theorem walk_TreeDoes (w : World) (a0 : Int) (w0 : (Lit.int .i64 a0).wf = true) (a1 : Option Addr) (n1 c1 : Nat) (l1 : List (Bool × Bool × Int × Int × Unit)) (w1 : Rd w (.sl (.pair .bool (.pair .bool (.pair (.int .i64) (.pair (.int .i64) .unit))))) [.slice a1 n1 c1] l1) :
    Calls Try.prog 5 #[.int .i64 a0, .slice a1 n1 c1] w fun e w' => e = .returned (.bool true) ∧ Below w.heap.size w w' := by
  have hR : n1 = l1.length ∧ n1 ≤ c1 ∧ c1 ≤ maxLen ∧ RowG w 4 actT a1 l1 ∧ ∀ x ∈ l1, actTq x := Rd.rowG (s := .pair .bool (.pair .bool (.pair (.int .i64) (.pair (.int .i64) .unit)))) 4 rfl (by decide) actT actTq (fun w cs d h => Rd.actT h) w1
  obtain ⟨rfl, -, -, hl, hq'⟩ := hR
  have HQ := Lib.hid hq'
  have h0 := bounds_i64 w0
  clear w0 w1 hq'
  by_cases hbig0 : 300 < a0
  · go_enter Try.func5, Try.ntmps5
    go_wp2_with (go_at_call 18; refine (speaks16 _).mono ?_; rintro e w1 ⟨rfl, hb1⟩)
    go_ret
    exact ⟨rfl, hb1⟩
  have hsm0 : a0 ≤ 300 := by omega
  clear hbig0
  by_cases hbig : 100 < l1.length
  · go_enter Try.func5, Try.ntmps5
    go_wp2_with (go_at_call 18; refine (speaks16 _).mono ?_; rintro e w1 ⟨rfl, hb1⟩)
    go_ret
    exact ⟨rfl, hb1⟩
  have hsm : l1.length ≤ 100 := by omega
  clear hbig
  obtain ⟨n, hn⟩ : ∃ n : Nat, max a0 0 = (n : Int) := ⟨(max a0 0).toNat, by omega⟩
  have hn3 : n ≤ 300 := by omega
  have hif : (if a0 < 0 then (0 : Int) else a0) = (n : Int) := by split <;> omega
  have hmk := run_make_row' (P := Try.prog) 42 3 (.int .i64 0) 8 Try.underlying42 (by kernel_rfl) rfl .i64 .i64 n (by omega) (by omega)
  have hmk2 := run_make_row' (P := Try.prog) 43 4 (.bool false) 1 Try.underlying43 (by kernel_rfl) rfl .i64 .i64 n (by omega) (by omega)
  have HN := fun w' => Lib.hid (ti_new a0 n w' hn (by omega))
  clear hn
  go_enter Try.func5, Try.ntmps5
  go_wp2_with (go_at_call 18; refine (speaks16 _).mono ?_; rintro e w1 ⟨rfl, hb1⟩)
  go_wp2_with (go_at_call 19; refine (HN _).out.mono ?_; intro e w2 h1; obtain ⟨F, g, rfl, i1⟩ := TrI.made hb1 h1)
  clear HN
  go_cut [6, 7] (fun v u wx => ∃ ga gb, v = .slice (some ⟨ga, 0, none⟩) n n ∧ u = .slice (some ⟨gb, 0, none⟩) n n ∧ Td w wx F g ga gb n (fun _ => 0) (fun _ => false))
  case first =>
    go_region
    all_goals go_wp2
    all_goals go_meet
    · have hk := own_row w2 (.int .i64 0) n 3
      have ho := own_row (w2.alloc (.cells (madeCells #[.int .i64 0] n) 3)) (.bool false) n 4
      rw [show (w2.alloc (.cells (madeCells #[.int .i64 0] n) 3)).heap.size = w2.heap.size + 1 by simp] at ho
      have hsz := i1.new.size
      exact ⟨_, _, rfl, rfl, ((i1.alloc _).alloc _).tr.drew, (hk.alloc _).drew, ho.drew, fun hf => by have := i1.tr.lt _ hf; omega, fun hf => by have := i1.tr.lt _ hf; omega, by omega, i1.own, by omega, by omega, ((i1.alloc _).alloc _).new.upd (S := fun _ => False) ((Upd.refl _ _).drew) (by simp; omega) (fun _ _ h => h.elim)⟩
    · have ho := own_row w2 (.bool false) n 4
      have hk := own_row (w2.alloc (.cells (madeCells #[.bool false] n) 4)) (.int .i64 0) n 3
      rw [show (w2.alloc (.cells (madeCells #[.bool false] n) 4)).heap.size = w2.heap.size + 1 by simp] at hk
      have hsz := i1.new.size
      exact ⟨_, _, rfl, rfl, ((i1.alloc _).alloc _).tr.drew, hk.drew, (ho.alloc _).drew, fun hf => by have := i1.tr.lt _ hf; omega, fun hf => by have := i1.tr.lt _ hf; omega, by omega, i1.own, by omega, by omega, ((i1.alloc _).alloc _).new.upd (S := fun _ => False) ((Upd.refl _ _).drew) (by simp; omega) (fun _ _ h => h.elim)⟩
  case rest =>
    obtain ⟨ga, gb, rfl, rfl, hT⟩ := hcut
    clear hmk hmk2 hif i1
    go_wp2
    go_loopg [8] (l1.length + 1) (fun m kz wr => ∃ (z : Int) (K : Nat → Int) (out : Nat → Bool), kz = .int .i64 z ∧ -1 ≤ z ∧ z ≤ l1.length ∧ m = (l1.length - z).toNat ∧ Td w wr F g ga gb n K out)
    case atStart => exact ⟨-1, _, _, rfl, by omega, by omega, by omega, hT⟩
    case round =>
      obtain ⟨z, K, out, rfl, hz0, hz1, hm, hT⟩ := hrel
      have HMM := Lib.hid hm
      clear hm
      by_cases hz : z < l1.length
      · go_upto_if 43 with fail
        go_cut [] (fun wx => ∃ K out, Td w wx F g ga gb n K out)
        case first =>
          by_cases hzn : z < 0
          · go_wp2
            go_meet
            exact ⟨K, out, hT⟩
          · obtain ⟨d, rfl⟩ : ∃ d : Nat, z = d := ⟨z.toNat, by omega⟩
            have hlt : d < l1.length := by omega
            obtain ⟨b, off, rfl, hb', hc⟩ := (hl.below hT.new).at_ d hlt
            generalize l1[d] = x at *
            obtain ⟨L, O, I, N, u⟩ := x
            have p0 := hc 0 (by decide)
            have p1 := hc 1 (by decide)
            have p2 := hc 2 (by decide)
            have p3 := hc 3 (by decide)
            simp [actT] at p0 p1 p2 p3
            have hT1 := hT.alloc (.cells #[.bool L, .bool O, .int .i64 I, .int .i64 N] 45)
            have hA := At.alloc wr [.bool L, .bool O, .int .i64 I, .int .i64 N] 45
            have HA := Lib.hid hA
            have HFA : Hid (¬ F wr.heap.size) := Lib.hid (fun hf => by have := hT.tr.lt _ hf; omega)
            have HNEga : Hid (ga ≠ wr.heap.size) := Lib.hid (by have := hT.ks.lt; omega)
            have HNEgb : Hid (gb ≠ wr.heap.size) := Lib.hid (by have := hT.os.lt; omega)
            have r0 := (hA.2 0 (by simp)).1
            have r1 := (hA.2 1 (by simp)).1
            have r2 := (hA.2 2 (by simp)).1
            have r3 := (hA.2 3 (by simp)).1
            simp only [List.getElem_cons_zero, List.getElem_cons_succ] at r0 r1 r2 r3
            clear hc hA hT
            by_cases hin : 0 ≤ I ∧ I < (n : Int)
            · obtain ⟨i, rfl⟩ : ∃ i : Nat, I = i := ⟨I.toNat, by omega⟩
              have hin : i < n := by omega
              cases L
              · have HC := Lib.hid (ti_set F g n K out i N _ hT1.tr hin)
                have HT1 := Lib.hid hT1
                clear hT1
                go_wp2_with (go_at_call 21; (with_reducible refine HC.out.mono ?_); rintro e w4 ⟨rfl, h4⟩; have hT5 := HT1.out.set i hin N h4; have hA4 := HA.out.upd h4.2 HFA.out; have hA5 := hA4.set_other (p := ⟨ga, i, none⟩) HNEga.out (.int .i64 N); have q0 := (hA4.2 0 (by simp)).1; have q1 := (hA4.2 1 (by simp)).1; have q2 := (hA4.2 2 (by simp)).1; have q3 := (hA4.2 3 (by simp)).1; have hg4 := hA4.1; have hlt4 : ga < w4.heap.size := Nat.lt_of_lt_of_le HT1.out.ks.lt h4.2.size; have hc4 := HT1.out.key i hin; have hc5 := (h4.2.cell (p := ⟨ga, i, none⟩) HT1.out.ks.lt HT1.out.fa).trans hc4.1; have hz5 := (h4.2.frozen (p := ⟨ga, i, none⟩) HT1.out.ks.lt HT1.out.fa).trans hc4.2; simp only [List.getElem_cons_zero, List.getElem_cons_succ] at q0 q1 q2 q3; clear hc4)
                have s2 := (hA5.2 2 (by simp)).1
                simp only [List.getElem_cons_zero, List.getElem_cons_succ] at s2
                have s3 := (hT5.key i hin).1
                have HKE := fun q => Lib.hid (ti_key F g n (put K i N) out i _ (hT5.drewN q).tr hin)
                have HT5 := Lib.hid hT5
                have hkk : ((put K i N) i != (put K i N) i) = false := by simp
                have hlg : wr.heap.size < (w4.setCell ⟨ga, i, none⟩ (.int .i64 N)).heap.size := hA5.1
                have hla : ga < (w4.setCell ⟨ga, i, none⟩ (.int .i64 N)).heap.size := hT5.ks.lt
                clear hA4 hA5 h4 hT5 HA HC HT1
                generalize (put K i N) i = kv at *
                generalize w4.setCell ⟨ga, i, none⟩ (.int .i64 N) = w5 at *
                go_wp2
                go_quiet ((go_at_call 22; (with_reducible refine (HKE _).out.mono ?_); rintro e wq ⟨rfl, rfl⟩; exact ⟨rfl, _, rfl⟩))
                go_wp2
                go_meet
                exact ⟨(put K i N), out, HT5.out.drewN _⟩

              · have HC := Lib.hid (ti_leave F g n K out i O _ hT1.tr hin)
                have HT1 := Lib.hid hT1
                clear hT1
                go_wp2_with (go_at_call 20; (with_reducible refine HC.out.mono ?_); rintro e w4 ⟨rfl, h4⟩; have hT5 := HT1.out.leave i hin O h4; have hA4 := HA.out.upd h4.2 HFA.out; have hA5 := hA4.set_other (p := ⟨gb, i, none⟩) HNEgb.out (.bool O); have q0 := (hA4.2 0 (by simp)).1; have q1 := (hA4.2 1 (by simp)).1; have q2 := (hA4.2 2 (by simp)).1; have q3 := (hA4.2 3 (by simp)).1; have hg4 := hA4.1; have hlt4 : gb < w4.heap.size := Nat.lt_of_lt_of_le HT1.out.os.lt h4.2.size; have hc4 := HT1.out.out_ i hin; have hc5 := (h4.2.cell (p := ⟨gb, i, none⟩) HT1.out.os.lt HT1.out.fb).trans hc4.1; have hz5 := (h4.2.frozen (p := ⟨gb, i, none⟩) HT1.out.os.lt HT1.out.fb).trans hc4.2; simp only [List.getElem_cons_zero, List.getElem_cons_succ] at q0 q1 q2 q3; clear hc4)
                have s2 := (hA5.2 2 (by simp)).1
                simp only [List.getElem_cons_zero, List.getElem_cons_succ] at s2
                have s3 := (hT5.key i hin).1
                have HKE := fun q => Lib.hid (ti_key F g n K (put out i O) i _ (hT5.drewN q).tr hin)
                have HT5 := Lib.hid hT5
                have hkk : (K i != K i) = false := by simp
                have hlg : wr.heap.size < (w4.setCell ⟨gb, i, none⟩ (.bool O)).heap.size := hA5.1
                have hla : ga < (w4.setCell ⟨gb, i, none⟩ (.bool O)).heap.size := hT5.ks.lt
                clear hA4 hA5 h4 hT5 HA HC HT1
                generalize K i = kv at *
                generalize w4.setCell ⟨gb, i, none⟩ (.bool O) = w5 at *
                go_wp2
                go_quiet ((go_at_call 22; (with_reducible refine (HKE _).out.mono ?_); rintro e wq ⟨rfl, rfl⟩; exact ⟨rfl, _, rfl⟩))
                go_wp2
                go_meet
                exact ⟨K, (put out i O), HT5.out.drewN _⟩

            · rcases (show I < 0 ∨ (n : Int) ≤ I by omega) with hI | hI
              · cases L
                · have HC := Lib.hid (ti_set_none F g n K out I N _ hT1.tr hin)
                  have HKE := fun q => Lib.hid (ti_key_none F g n K out I _ (hT1.drewN q).tr hin)
                  have HT1 := Lib.hid hT1
                  clear hT1 hin
                  go_wp2_with (go_at_call 21; (with_reducible refine HC.out.mono ?_); rintro e w4 ⟨rfl, rfl⟩)
                  go_quiet ((go_at_call 22; (with_reducible refine (HKE _).out.mono ?_); rintro e wq ⟨rfl, rfl⟩; exact ⟨rfl, _, rfl⟩))
                  go_wp2
                  go_meet
                  exact ⟨K, out, HT1.out.drewN _⟩

                · have HC := Lib.hid (ti_leave_none F g n K out I O _ hT1.tr hin)
                  have HKE := fun q => Lib.hid (ti_key_none F g n K out I _ (hT1.drewN q).tr hin)
                  have HT1 := Lib.hid hT1
                  clear hT1 hin
                  go_wp2_with (go_at_call 20; (with_reducible refine HC.out.mono ?_); rintro e w4 ⟨rfl, rfl⟩)
                  go_quiet ((go_at_call 22; (with_reducible refine (HKE _).out.mono ?_); rintro e wq ⟨rfl, rfl⟩; exact ⟨rfl, _, rfl⟩))
                  go_wp2
                  go_meet
                  exact ⟨K, out, HT1.out.drewN _⟩

              · have hI0 : (0 : Int) ≤ I := by omega
                have hdn : decide (I < (n : Int)) = false := decide_eq_false (by omega)
                cases L
                · have HC := Lib.hid (ti_set_none F g n K out I N _ hT1.tr hin)
                  have HKE := fun q => Lib.hid (ti_key_none F g n K out I _ (hT1.drewN q).tr hin)
                  have HT1 := Lib.hid hT1
                  clear hT1 hin
                  go_wp2_with (go_at_call 21; (with_reducible refine HC.out.mono ?_); rintro e w4 ⟨rfl, rfl⟩)
                  go_quiet ((go_at_call 22; (with_reducible refine (HKE _).out.mono ?_); rintro e wq ⟨rfl, rfl⟩; exact ⟨rfl, _, rfl⟩))
                  go_wp2
                  go_meet
                  exact ⟨K, out, HT1.out.drewN _⟩

                · have HC := Lib.hid (ti_leave_none F g n K out I O _ hT1.tr hin)
                  have HKE := fun q => Lib.hid (ti_key_none F g n K out I _ (hT1.drewN q).tr hin)
                  have HT1 := Lib.hid hT1
                  clear hT1 hin
                  go_wp2_with (go_at_call 20; (with_reducible refine HC.out.mono ?_); rintro e w4 ⟨rfl, rfl⟩)
                  go_quiet ((go_at_call 22; (with_reducible refine (HKE _).out.mono ?_); rintro e wq ⟨rfl, rfl⟩; exact ⟨rfl, _, rfl⟩))
                  go_wp2
                  go_meet
                  exact ⟨K, out, HT1.out.drewN _⟩
        case rest =>
          obtain ⟨K, out, hT⟩ := hcut
          have hb9 := hT.new
          go_wp2
          go_loopg [11, 12, 13, 116] n (fun m sk sp so si ws => ∃ j : Nat, j ≤ n ∧ m = n - j ∧ si = .int .i64 j ∧ sk = .int .i64 (scan K out j).1 ∧ sp = .int .i64 (scan K out j).2.1 ∧ so = .bool (scan K out j).2.2 ∧ ws = wc)
          case atStart => exact ⟨0, Nat.zero_le _, by omega, rfl, rfl, rfl, rfl, rfl⟩
          case round =>
            obtain ⟨j, hj, hmj, rfl, rfl, rfl, rfl, rfl⟩ := hrel
            have HMJ := Lib.hid hmj
            clear hmj
            by_cases hlt : j < n
            · obtain ⟨ck, -⟩ := hT.key j hlt
              obtain ⟨co, -⟩ := hT.out_ j hlt
              have hs1 : scan K out (j + 1) = if out j = false ∧ ((scan K out j).2.2 = false ∨ K j < (scan K out j).1) then (K j, (j : Int), true) else scan K out j := rfl
              have HT := Lib.hid hT
              have HS1 := Lib.hid hs1
              clear hs1 hT
              generalize scan K out j = s at *
              obtain ⟨key, place, ok⟩ := s
              simp only at HS1 ⊢
              generalize K j = x at *
              cases ho : out j
              · rw [ho] at co
                rw [ho] at HS1
                cases ok
                · have hS : Hid (scan K out (j + 1) = (x, (j : Int), true)) := Lib.hid (by rw [HS1.out, if_pos ⟨rfl, .inl rfl⟩])
                  clear ho HS1
                  go_wp2
                  go_roundg (n - (j + 1))
                  case measure => (have := HMJ.out; omega)
                  case rel => exact ⟨j + 1, by omega, rfl, by go_num, by rw [hS.out], by rw [hS.out], by rw [hS.out], rfl⟩
                · by_cases hx : x < key
                  · have hS : Hid (scan K out (j + 1) = (x, (j : Int), true)) := Lib.hid (by rw [HS1.out, if_pos ⟨rfl, .inr hx⟩])
                    clear ho HS1
                    go_wp2
                    go_roundg (n - (j + 1))
                    case measure => (have := HMJ.out; omega)
                    case rel => exact ⟨j + 1, by omega, rfl, by go_num, by rw [hS.out], by rw [hS.out], by rw [hS.out], rfl⟩
                  · have hS : Hid (scan K out (j + 1) = (key, place, true)) := Lib.hid (by rw [HS1.out, if_neg (fun h => by simp at h; exact hx h)])
                    clear ho HS1
                    go_wp2
                    go_roundg (n - (j + 1))
                    case measure => (have := HMJ.out; omega)
                    case rel => exact ⟨j + 1, by omega, rfl, by go_num, by rw [hS.out], by rw [hS.out], by rw [hS.out], rfl⟩
              · rw [ho] at co
                rw [ho] at HS1
                have hS : Hid (scan K out (j + 1) = (key, place, ok)) := Lib.hid (by rw [HS1.out, if_neg (fun h => by simp at h)])
                clear ho HS1
                go_wp2
                go_roundg (n - (j + 1))
                case measure => (have := HMJ.out; omega)
                case rel => exact ⟨j + 1, by omega, rfl, by go_num, by rw [hS.out], by rw [hS.out], by rw [hS.out], rfl⟩
            · obtain rfl : j = n := by omega
              have HLE := Lib.hid (fun key place ok hs => ti_least F g j K out wr hT.tr key place ok hs)
              have HLN := Lib.hid (ti_len F g j K out wr hT.tr)
              have HT := Lib.hid hT
              have hs : scan K out j = ((scan K out j).1, (scan K out j).2.1, (scan K out j).2.2) := rfl
              have HS := Lib.hid hs
              clear hs hT
              generalize (scan K out j).1 = key at *
              generalize (scan K out j).2.1 = place at *
              generalize (scan K out j).2.2 = ok at *
              have hkk : (key != key) = false := by simp
              have hpp : (place != place) = false := by simp
              have hoo : (ok != ok) = false := by simp
              have hnn : ((j : Int) != (j : Int)) = false := by simp
              go_wp2_with (first | (go_at_call 23; (with_reducible refine (HLE.out _ _ _ HS.out).mono ?_); rintro e w5 ⟨rfl, rfl⟩) | (go_at_call 24; (with_reducible refine HLN.out.mono ?_); rintro e w5 ⟨rfl, rfl⟩))
              go_roundg (l1.length - (z + 1)).toNat
              case measure => (have := HMM.out; omega)
              case rel => exact ⟨z + 1, K, out, by go_num, by omega, by omega, by omega, HT.out⟩
      · have hb9 := hT.new
        obtain rfl : z = l1.length := by omega
        go_wp2
        go_ret
        exact ⟨rfl, hb9⟩
end Go.Proofs.Ytiahiadipmmgcaa
