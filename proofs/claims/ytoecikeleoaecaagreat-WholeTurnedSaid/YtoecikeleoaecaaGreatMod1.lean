/- Contracts of the model's calls: over, next. -/
import Derived.Test.YtoecikeleoaecaaGreatKRefS
namespace Go.Proofs.YtoecikeleoaecaaGreat
set_option maxRecDepth 4000
open Go.ChangeShapes Go.WideShapes Go.ChangeAt Go.RowKit
open PHist PRing PSat PClamp PBound PFrame PSign PTree PEv
set_option linter.unusedVariables false
set_option linter.unusedSimpArgs false

set_option maxHeartbeats 1000000 in
theorem mo_over (v : Pv) (w : World) (h0 : 0 ≤ v.p.is) (h3 : v.p.is ≤ 3) :
    Calls Tryz.prog 128 #[v.val] w fun e w' => e = .returned (.bool (decide (1 < v.p.is))) ∧ Below w.heap.size w w' := by
  obtain ⟨⟨⟨kd, bd, pc, wn, sg⟩, recs, er, rd, is, tl⟩, a, c⟩ := v
  simp only at h0 h3
  simp only [Pv.val]
  have HB := Lib.hid ((Below.refl w.heap.size w).alloc (Nat.le_refl _) (.cells #[.int .i64 kd, .int .i64 bd, .int .i64 pc, .int .i64 wn, .int .i64 sg, .slice a recs.length c, .int .i64 er, .int .i64 rd, .int .i64 is, .int .i64 tl] 141))
  by_cases h2 : is = 2
  · subst h2
    go_enter Tryz.func128, Tryz.ntmps128
    go_wp2
    go_ret
    exact ⟨rfl, HB.out⟩
  · by_cases h3' : is = 3
    · subst h3'
      go_enter Tryz.func128, Tryz.ntmps128
      go_wp2
      go_ret
      exact ⟨rfl, HB.out⟩
    · have e2 : (is == 2) = false := by rw [beq_eq_false_iff_ne]; exact h2
      have e3 : (is == 3) = false := by rw [beq_eq_false_iff_ne]; exact h3'
      have e1 := Lib.hid (show decide (1 < is) = false from decide_eq_false (by omega))
      clear h2 h3' h0 h3
      go_enter Tryz.func128, Tryz.ntmps128
      go_wp2
      go_ret
      rw [e1.out]
      exact ⟨rfl, HB.out⟩
theorem At.all3 {w : World} {g : Nat} {a0 a1 a2 : Value} (h : At w g [a0, a1, a2]) (x0 x1 x2 : Value) : At (((w.setCell ⟨g, 0, none⟩ x0).setCell ⟨g, 1, none⟩ x1).setCell ⟨g, 2, none⟩ x2) g [x0, x1, x2] := by
  simpa using (((h.set 0 (by simp) x0).set 1 (by simp) x1).set 2 (by simp) x2)
theorem Below.all3 {B : Nat} {a w : World} (h : Below B a w) {g : Nat} (hg : B ≤ g) (x0 x1 x2 : Value) : Below B a (((w.setCell ⟨g, 0, none⟩ x0).setCell ⟨g, 1, none⟩ x1).setCell ⟨g, 2, none⟩ x2) := ((h.setCell hg x0).setCell hg x1).setCell hg x2
set_option maxHeartbeats 2000000 in
theorem mo_next_one (v : Pv) (w : World) (hv : PvOk w v) (hl : v.p.recs.length ≤ 400) (hrd : v.p.read < v.p.recs.length) :
    Calls Tryz.prog 125 #[v.val] w fun e w' => e = .returned (.tuple #[.agg #[.int .i64 (recAt v.p).1, .int .i64 (recAt v.p).2.1, .string (bstr (recAt v.p).2.2)], .bool true]) ∧ Below w.heap.size w w' := by
  obtain ⟨hr, hle, hcap⟩ := hv
  obtain ⟨⟨⟨kd, bd, pc, wn, sg⟩, recs, er, rd, is, tl⟩, a, c⟩ := v
  simp only at hr hle hcap hl hrd
  simp only [Pv.val]
  have hra : recAt ⟨⟨kd, bd, pc, wn, sg⟩, recs, er, rd, is, tl⟩ = recs[rd] := by
    unfold recAt
    rw [List.getD_eq_getElem?_getD, List.getElem?_eq_getElem hrd]; rfl
  rw [hra]
  obtain ⟨b, off, rfl, -, -⟩ := hr.at_ rd hrd
  have e := fun (w : World) (o : Obj) => (Below.refl w.heap.size w).alloc (Nat.le_refl _) o
  have hA := (At.alloc w [.int .i64 kd, .int .i64 bd, .int .i64 pc, .int .i64 wn, .int .i64 sg, .slice (some ⟨b, off, none⟩) recs.length c, .int .i64 er, .int .i64 rd, .int .i64 is, .int .i64 tl] 141).on (e _ (.cells #[.int .i64 0, .int .i64 0, .string ⟨#[]⟩] 117))
  have hZ := At.alloc (w.alloc (.cells #[.int .i64 kd, .int .i64 bd, .int .i64 pc, .int .i64 wn, .int .i64 sg, .slice (some ⟨b, off, none⟩) recs.length c, .int .i64 er, .int .i64 rd, .int .i64 is, .int .i64 tl] 141)) [.int .i64 0, .int .i64 0, .string ⟨#[]⟩] 117
  rw [World.size_alloc] at hZ
  have hB : Below w.heap.size w ((w.alloc (.cells #[.int .i64 kd, .int .i64 bd, .int .i64 pc, .int .i64 wn, .int .i64 sg, .slice (some ⟨b, off, none⟩) recs.length c, .int .i64 er, .int .i64 rd, .int .i64 is, .int .i64 tl] 141)).alloc (.cells #[.int .i64 0, .int .i64 0, .string ⟨#[]⟩] 117)) := on_below (e _ _) (e _ _)
  obtain ⟨hbb, r0, r1, r2⟩ := RowR.cell (hr.on hB) rd hrd
  clear hr hra
  generalize recs[rd] = r at *
  obtain ⟨rk, rt, rx⟩ := r
  simp only at r0 r1 r2
  have hri : (rd : Int) < (recs.length : Int) := by omega
  have hr0 : ¬ ((rd : Int) < 0) := by omega
  clear e
  go_enter Tryz.func125, Tryz.ntmps125
  go_upto_region 1 with fail
  generalize (w.alloc (.cells #[.int .i64 kd, .int .i64 bd, .int .i64 pc, .int .i64 wn, .int .i64 sg, .slice (some ⟨b, off, none⟩) recs.length c, .int .i64 er, .int .i64 rd, .int .i64 is, .int .i64 tl] 141)).alloc (.cells #[.int .i64 0, .int .i64 0, .string ⟨#[]⟩] 117) = w2 at *
  obtain ⟨-, p0, x0, p1, x1, p2, x2, p3, x3, p4, x4, p5, x5, p6, x6, p7, x7, p8, x8, p9, x9⟩ := hA.ten
  obtain ⟨hgz, z0, u0, z1, u1, z2, u2⟩ := hZ.three
  have hT := Lib.hid (fun x0 x1 x2 => At.all3 hZ x0 x1 x2)
  have hBo := Lib.hid (fun x0 x1 x2 => Below.all3 hB (g := w.heap.size + 1) (by omega) x0 x1 x2)
  clear hA hZ hB
  go_wp2
  refine bodyPost_ret (results_at2 (fn := Tryz.f125) rfl _ rfl (hT.out _ _ _) Tryz.underlying117 rfl (by kernel_rfl)) rfl ?_
  exact ⟨rfl, hBo.out _ _ _⟩
set_option maxHeartbeats 2000000 in
theorem mo_next_none (v : Pv) (w : World) (hl : v.p.recs.length ≤ 400) (hrd : v.p.recs.length ≤ v.p.read) :
    Calls Tryz.prog 125 #[v.val] w fun e w' => e = .returned (.tuple #[.agg #[.int .i64 0, .int .i64 0, .string ⟨#[]⟩], .bool false]) ∧ Below w.heap.size w w' := by
  obtain ⟨⟨⟨kd, bd, pc, wn, sg⟩, recs, er, rd, is, tl⟩, a, c⟩ := v
  simp only at hl hrd
  simp only [Pv.val]
  have e := fun (w : World) (o : Obj) => (Below.refl w.heap.size w).alloc (Nat.le_refl _) o
  have hA := (At.alloc w [.int .i64 kd, .int .i64 bd, .int .i64 pc, .int .i64 wn, .int .i64 sg, .slice a recs.length c, .int .i64 er, .int .i64 rd, .int .i64 is, .int .i64 tl] 141).on (e _ (.cells #[.int .i64 0, .int .i64 0, .string ⟨#[]⟩] 117))
  have hZ := At.alloc (w.alloc (.cells #[.int .i64 kd, .int .i64 bd, .int .i64 pc, .int .i64 wn, .int .i64 sg, .slice a recs.length c, .int .i64 er, .int .i64 rd, .int .i64 is, .int .i64 tl] 141)) [.int .i64 0, .int .i64 0, .string ⟨#[]⟩] 117
  rw [World.size_alloc] at hZ
  have hB : Below w.heap.size w ((w.alloc (.cells #[.int .i64 kd, .int .i64 bd, .int .i64 pc, .int .i64 wn, .int .i64 sg, .slice a recs.length c, .int .i64 er, .int .i64 rd, .int .i64 is, .int .i64 tl] 141)).alloc (.cells #[.int .i64 0, .int .i64 0, .string ⟨#[]⟩] 117)) := on_below (e _ _) (e _ _)
  have hri : (recs.length : Int) ≤ (rd : Int) := by omega
  have hr0 : ¬ ((rd : Int) < 0) := by omega
  clear e
  go_enter Tryz.func125, Tryz.ntmps125
  go_upto_region 1 with fail
  generalize (w.alloc (.cells #[.int .i64 kd, .int .i64 bd, .int .i64 pc, .int .i64 wn, .int .i64 sg, .slice a recs.length c, .int .i64 er, .int .i64 rd, .int .i64 is, .int .i64 tl] 141)).alloc (.cells #[.int .i64 0, .int .i64 0, .string ⟨#[]⟩] 117) = w2 at *
  obtain ⟨-, p0, x0, p1, x1, p2, x2, p3, x3, p4, x4, p5, x5, p6, x6, p7, x7, p8, x8, p9, x9⟩ := hA.ten
  obtain ⟨hgz, z0, u0, z1, u1, z2, u2⟩ := hZ.three
  have hT := Lib.hid (fun x0 x1 x2 => At.all3 hZ x0 x1 x2)
  have hBo := Lib.hid (fun x0 x1 x2 => Below.all3 hB (g := w.heap.size + 1) (by omega) x0 x1 x2)
  clear hA hZ hB
  go_wp2
  refine bodyPost_ret (results_at2 (fn := Tryz.f125) rfl _ rfl (hT.out _ _ _) Tryz.underlying117 rfl (by kernel_rfl)) rfl ?_
  exact ⟨rfl, hBo.out _ _ _⟩
end Go.Proofs.YtoecikeleoaecaaGreat
