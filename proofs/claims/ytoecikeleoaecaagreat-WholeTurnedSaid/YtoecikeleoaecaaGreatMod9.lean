/- Contracts of the model's calls: the beginning. -/
import Derived.Test.YtoecikeleoaecaaGreatMod8
import Derived.Test.YtoecikeleoaecaaGreatKLogR
import Derived.Test.YtoecikeleoaecaaGreatKSrcC
import Derived.Deep.RegionHeld3
namespace Go.Proofs.YtoecikeleoaecaaGreat
set_option maxRecDepth 4000
open Go.ChangeShapes Go.WideShapes Go.ChangeAt Go.RowKit
open PHist PRing PSat PClamp PBound PFrame PVar PCrc PSign PTree PEv
set_option linter.unusedVariables false
set_option linter.unusedSimpArgs false

set_option maxHeartbeats 4000000 in
theorem mo_new_none (rs : List Rul) (t d : Int) (a : Option Addr) (n c : Nat) (b : Option Addr) (m c2 : Nat) (w : World) (h1 : RowU w a rs) (hn : n = rs.length) (hl : n ≤ 10000) (z : Int) (hz : nerr rs t d m = z) (h0 : z ≠ 0) :
    Calls Tryz.prog 33 #[.agg #[.slice a n c, .int .i64 t, .int .i64 d], .slice b m c2] w fun e w' => e = .returned (.tuple #[.agg #[.slice none 0 0, .int .i64 0, .int .i64 0, .slice none 0 0, .int .i64 0, .int .i64 0], .slice none 0 0, .int .i64 z]) ∧ Below w.heap.size w w' := by
  have e := fun (w : World) (o : Obj) => (Below.refl w.heap.size w).alloc (Nat.le_refl _) o
  have hA0 := (At.alloc w [.slice a n c, .int .i64 t, .int .i64 d] 24).on (e _ (.cells #[.slice none 0 0, .int .i64 0, .int .i64 0, .slice none 0 0, .int .i64 0, .int .i64 0] 70))
  have hA1 := At.alloc (w.alloc (.cells #[.slice a n c, .int .i64 t, .int .i64 d] 24)) [.slice none 0 0, .int .i64 0, .int .i64 0, .slice none 0 0, .int .i64 0, .int .i64 0] 70
  rw [World.size_alloc] at hA1
  have hb0 : Below w.heap.size w ((w.alloc (.cells #[.slice a n c, .int .i64 t, .int .i64 d] 24)).alloc (.cells #[.slice none 0 0, .int .i64 0, .int .i64 0, .slice none 0 0, .int .i64 0, .int .i64 0] 70)) := on_below (e _ _) (e _ _)
  have HC := fun y hy => Lib.hid (cf_check rs t d a n c _ (h1.below hb0) hn hl y hy)
  unfold nerr at hz
  by_cases hc : ccheck rs t d = 0
  · rw [if_neg (by omega)] at hz
    have hmn : m ≠ rs.length := by intro e; rw [if_neg (by omega)] at hz; omega
    rw [if_pos hmn] at hz
    subst hz
    have HC0 := HC 0 hc
    have hne : ((m : Int) != (n : Int)) = true := by rw [bne_iff_ne]; omega
    clear HC hc h1 hmn h0 hn e
    go_enter Tryz.func33, Tryz.ntmps33
    go_upto_region 1 with fail
    generalize (w.alloc (.cells #[.slice a n c, .int .i64 t, .int .i64 d] 24)).alloc (.cells #[.slice none 0 0, .int .i64 0, .int .i64 0, .slice none 0 0, .int .i64 0, .int .i64 0] 70) = w1 at *
    obtain ⟨hg0, p0, x0, p1, x1, p2, x2⟩ := hA0.three
    go_wp2_with (first | (go_at_call 45; (with_reducible refine HC0.out.mono ?_); rintro e w2 ⟨rfl, hb2⟩; obtain ⟨hg, c0, z0, c1, z1, c2, z2⟩ := (hA0.on hb2).three; have hAz := hA1.on hb2; obtain ⟨hg2, e0, f0, e1, f1, e2, f2, e3, f3, e4, f4, e5, f5⟩ := hAz.cells6; have hT := Lib.hid (fun x0 x1 x2 x3 x4 x5 => At.all6 hAz x0 x1 x2 x3 x4 x5); have hBo := Lib.hid (fun x0 x1 x2 x3 x4 x5 => Below.all6 (on_below hb0 hb2) (g := w.heap.size + 1) (by omega) x0 x1 x2 x3 x4 x5); clear hAz))
    refine bodyPost_ret (results_at3 (fn := Tryz.f33) rfl _ rfl (hT.out _ _ _ _ _ _) Tryz.underlying70 rfl (by kernel_rfl)) rfl ?_
    exact ⟨rfl, hBo.out _ _ _ _ _ _⟩
  · rw [if_pos hc] at hz
    have HC0 := HC z hz
    have hz0 : (z != 0) = true := by rw [bne_iff_ne]; exact h0
    clear HC hc hz h1 hn h0 e
    go_enter Tryz.func33, Tryz.ntmps33
    go_upto_region 1 with fail
    generalize (w.alloc (.cells #[.slice a n c, .int .i64 t, .int .i64 d] 24)).alloc (.cells #[.slice none 0 0, .int .i64 0, .int .i64 0, .slice none 0 0, .int .i64 0, .int .i64 0] 70) = w1 at *
    obtain ⟨hg0, p0, x0, p1, x1, p2, x2⟩ := hA0.three
    go_wp2_with (first | (go_at_call 45; (with_reducible refine HC0.out.mono ?_); rintro e w2 ⟨rfl, hb2⟩; have hAz := hA1.on hb2; obtain ⟨hg2, e0, f0, e1, f1, e2, f2, e3, f3, e4, f4, e5, f5⟩ := hAz.cells6; have hT := Lib.hid (fun x0 x1 x2 x3 x4 x5 => At.all6 hAz x0 x1 x2 x3 x4 x5); have hBo := Lib.hid (fun x0 x1 x2 x3 x4 x5 => Below.all6 (on_below hb0 hb2) (g := w.heap.size + 1) (by omega) x0 x1 x2 x3 x4 x5); clear hAz))
    refine bodyPost_ret (results_at3 (fn := Tryz.f33) rfl _ rfl (hT.out _ _ _ _ _ _) Tryz.underlying70 rfl (by kernel_rfl)) rfl ?_
    exact ⟨rfl, hBo.out _ _ _ _ _ _⟩

/-- What lies behind r is neither of the rows' nor one of its records'. -/
def ApartM (r : Value) (ra a : Option Addr) (l : List Pv) : Prop :=
  ∀ q, r.ownBlock = some q → (∀ p, ra = some p → q ≠ p.block) ∧ (∀ p, a = some p → q ≠ p.block) ∧ ∀ v ∈ l, ∀ p, v.a = some p → 0 < v.p.recs.length → q ≠ p.block
/-- The beginning, and its events. -/
def NewM (s : St) (es : List Ev) (rs : List Rul) (rn : Nat) (w : World) (e : Ending) (w' : World) : Prop :=
  ∃ (ra : Option Addr) (rc : Nat) (a : Option Addr) (c : Nat) (l : List Pv) (r : Value), e = .returned (.tuple #[.agg #[.slice ra rn rc, .int .i64 s.timeout, .int .i64 s.drift, .slice a s.ps.length c, .int .i64 s.clock, .int .i64 s.now], r, .int .i64 0]) ∧ RowU w' ra rs ∧ RowP w' a l ∧ l.map (·.p) = s.ps ∧ Sl w.heap.size w' 1 r es.length (es.map evv) ∧ Below w.heap.size w w' ∧ (∀ p, ra = some p → w.heap.size ≤ p.block) ∧ (∀ p, a = some p → w.heap.size ≤ p.block) ∧ ApartM r ra a l ∧ ∀ v ∈ l, ∀ p, v.a = some p → 0 < v.p.recs.length → w.heap.size ≤ p.block
/-- One partition more. -/
theorem MoS.push {K : Option Addr → Nat → List R → Prop} {B : Nat} {wr w6 w7 : World} {g : Nat} {ru : Value} {a a1 : Option Addr} {k c c1 : Nat} {l : List Pv} {ps : List Pt} {t d kk m : Int} {v : Pv} (h : MoS K B wr g ru a k c l ps t d kk m) (h6 : Below wr.heap.size wr w6) (hvo : PvOk w6 v) (hvk : K v.a v.c v.p.recs) (hva : ∀ p, v.a = some p → 0 < v.p.recs.length → wr.heap.size ≤ p.block ∧ p.block < w6.heap.size)
    (q1 : Sl B w7 10 (.slice a1 (k + 1) c1) (k + 1) (pvs l ++ v.cells)) (q2 : Upd (fun b => (Value.slice a k c).ownBlock = some b) w6 w7) (q3 : ∀ b, (Value.slice a1 (k + 1) c1).ownBlock = some b → (Value.slice a k c).ownBlock = some b ∨ w6.heap.size ≤ b) :
    MoS K B (w7.setCell ⟨g, 3, none⟩ (.slice a1 (k + 1) c1)) g ru a1 (k + 1) c1 (l ++ [v]) (ps ++ [v.p]) t d kk m ∧ Upd (fun b => b = g ∨ (Value.slice a k c).ownBlock = some b) w6 (w7.setCell ⟨g, 3, none⟩ (.slice a1 (k + 1) c1)) := by
  have h7 := h.on h6
  have hs6 := h6.size
  have hgl := h.blk.1
  have hu8 : Upd (fun b => b = g) w7 (w7.setCell ⟨g, 3, none⟩ (.slice a1 (k + 1) c1)) := (Upd.refl (fun b => b = g) w7).setCell (p := ⟨g, 3, none⟩) (fun _ => rfl) _
  have hag : ∀ b, (Value.slice a k c).ownBlock = some b → b ≠ g := fun b hb e => h.ne (by rw [hb, e])
  have hag1 : ∀ b, (Value.slice a1 (k + 1) c1).ownBlock = some b → b ≠ g := fun b hb e => (q3 b hb).elim (fun h1 => hag b h1 e) (fun h1 => by omega)
  have hold : ∀ v' ∈ l, ∀ p, v'.a = some p → 0 < v'.p.recs.length → p.block < wr.heap.size := fun v' hv' p hp h0 => by
    obtain ⟨b', off, hab, hb, -⟩ := (h.ok v' hv').row.at_ 0 h0
    rw [hab] at hp; cases hp
    exact hb
  have hfr : ∀ v' ∈ l ++ [v], ∀ p, v'.a = some p → 0 < v'.p.recs.length → p.block ≠ g ∧ (Value.slice a k c).ownBlock ≠ some p.block ∧ (Value.slice a1 (k + 1) c1).ownBlock ≠ some p.block := fun v' hv' p hp h0 => by
    rcases List.mem_append.1 hv' with hv' | hv'
    · have h1 := h.fr v' hv' p hp h0
      have h2 := hold v' hv' p hp h0
      exact ⟨h1.1, h1.2, fun e => (q3 _ e).elim (fun h3 => h1.2 h3) (fun h3 => by omega)⟩
    · rw [List.mem_singleton] at hv'
      subst hv'
      have h1 := hva p hp h0
      exact ⟨by omega, fun e => by have := (h.row.lt _ e).2; omega, fun e => (q3 _ e).elim (fun h3 => by have := (h.row.lt _ h3).2; omega) (fun h3 => by omega)⟩
  have hat := (h7.blk.upd q2 (fun e => hag _ e rfl)).set 3 (by simp) (.slice a1 (k + 1) c1)
  simp only [List.set] at hat
  refine ⟨⟨hat, ?_, by rw [List.length_append, h.len]; rfl, by rw [List.map_append, h.map]; rfl, fun e => hag1 _ e rfl, fun v' hv' => ?_, fun v' hv' => ?_, fun v' hv' p hp h0 => ⟨(hfr v' hv' p hp h0).1, (hfr v' hv' p hp h0).2.2⟩⟩, (q2.mono (fun _ _ h => .inr h)).trans hu8 (fun _ _ h => .inl h)⟩
  · rw [pvs_snoc]
    exact q1.upd hu8 (fun b hb e => hag1 b hb e)
  · have h6' : PvOk w6 v' := by
      rcases List.mem_append.1 hv' with hv'' | hv''
      · exact h7.ok v' hv''
      · rw [List.mem_singleton] at hv''; subst hv''; exact hvo
    exact (h6'.upd q2 (fun p hp h0 => (hfr v' hv' p hp h0).2.1)).upd hu8 (fun p hp h0 => (hfr v' hv' p hp h0).1)
  · rcases List.mem_append.1 hv' with hv'' | hv''
    · exact h.kk v' hv''
    · rw [List.mem_singleton] at hv''; subst hv''; exact hvk
/-- The loop's state: k partitions are there. -/
structure MoN (w8 wr : World) (g : Nat) (ru : Value) (k : Nat) (t d : Int) (rs : List Rul) (ls : List (List UInt8)) (a : Option Addr) (c : Nat) (out : Value) (l : List Pv) : Prop where
  st : MoS (fun a _ r => ∀ p, a = some p → 0 < r.length → g + 1 ≤ p.block) (g + 1) wr g ru a k c l ((begun t rs ls).take k) t d 0 (-9223372036854775808)
  evr : Sl (g + 1) wr 1 out (faultsTo (raws t rs ls) k).length ((faultsTo (raws t rs ls) k).map evv)
  fo : ∀ b, out.ownBlock = some b → (Value.slice a k c).ownBlock ≠ some b ∧ ∀ v ∈ l, ∀ p, v.a = some p → 0 < v.p.recs.length → p.block ≠ b
  new : Upd (fun b => g ≤ b) w8 wr
theorem take_raw {t : Int} {rs : List Rul} {ls : List (List UInt8)} {k : Nat} (hk : k < (raws t rs ls).length) (p : Pt) (hp : pat (raws t rs ls) k = p) :
    ((begun t rs ls).take k ++ [p]).set k (settled (pat ((begun t rs ls).take k ++ [p]) k)) = (begun t rs ls).take (k + 1) ∧ pat ((begun t rs ls).take k ++ [p]) k = p := by
  have hb : k < (begun t rs ls).length := by unfold begun; rw [List.length_map]; exact hk
  have hl : ((begun t rs ls).take k).length = k := by rw [List.length_take]; omega
  have e1 : pat ((begun t rs ls).take k ++ [p]) k = p := by
    rw [pat_lt (by rw [List.length_append, hl]; simp), List.getElem_append_right (by omega)]
    simp [hl]
  refine ⟨?_, e1⟩
  rw [e1, List.set_append_right _ _ (by omega), hl, Nat.sub_self, List.take_succ_eq_append_getElem hb]
  congr 1
  show [settled p] = _
  rw [← hp, pat_lt hk]
  simp only [begun, List.getElem_map]
end Go.Proofs.YtoecikeleoaecaaGreat
