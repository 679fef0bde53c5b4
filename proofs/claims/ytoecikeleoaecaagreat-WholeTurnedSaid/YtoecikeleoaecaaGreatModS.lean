/- The model's state in memory, as a call of its own changes it. -/
import Derived.Test.YtoecikeleoaecaaGreatMod3
import Derived.Test.YtoecikeleoaecaaGreatKSt
import Derived.Test.YtoecikeleoaecaaGreatKHist
namespace Go.Proofs.YtoecikeleoaecaaGreat
set_option maxRecDepth 4000
open Go.ChangeShapes Go.WideShapes Go.ChangeAt Go.RowKit
open PHist PRing PSat PClamp PBound PFrame PSign PTree PEv
set_option linter.unusedVariables false
set_option linter.unusedSimpArgs false

theorem pvs_set : ∀ (l : List Pv) (i j : Nat) (v : Pv) (x : Value) (hi : i < l.length) (hj : j < 10), v.cells = (l[i].cells).set j x → pvs (l.set i v) = (pvs l).set (i * 10 + j) x
  | u :: l, 0, j, v, x, _, hj, h => by
    show v.cells ++ pvs l = (u.cells ++ pvs l).set (0 * 10 + j) x
    have h : v.cells = u.cells.set j x := h
    rw [Nat.zero_mul, Nat.zero_add, List.set_append_left _ _ (by show j < 10; exact hj), h]
  | u :: l, i + 1, j, v, x, hi, hj, h => by
    show u.cells ++ pvs (l.set i v) = (u.cells ++ pvs l).set ((i + 1) * 10 + j) x
    rw [List.set_append_right _ _ (by show 10 ≤ _; omega)]
    show _ = u.cells ++ (pvs l).set ((i + 1) * 10 + j - 10) x
    rw [show (i + 1) * 10 + j - 10 = i * 10 + j by omega, pvs_set l i j v x (by simpa using hi) hj h]

/-- A state in block g: its parts lie in a row of their own; their records lie elsewhere. -/
structure MoS (K : Option Addr → Nat → List R → Prop) (B : Nat) (w : World) (g : Nat) (ru : Value) (a : Option Addr) (n c : Nat) (l : List Pv) (ps : List Pt) (t d k m : Int) : Prop where
  blk : At w g [ru, .int .i64 t, .int .i64 d, .slice a n c, .int .i64 k, .int .i64 m]
  row : Sl B w 10 (.slice a n c) n (pvs l)
  len : n = l.length
  map : l.map (·.p) = ps
  ne : (Value.slice a n c).ownBlock ≠ some g
  ok : ∀ v ∈ l, PvOk w v
  kk : ∀ v ∈ l, K v.a v.c v.p.recs
  fr : ∀ v ∈ l, ∀ p, v.a = some p → 0 < v.p.recs.length → p.block ≠ g ∧ (Value.slice a n c).ownBlock ≠ some p.block
section
variable {K : Option Addr → Nat → List R → Prop} {B : Nat} {w w' : World} {g : Nat} {ru : Value} {a : Option Addr} {n c : Nat} {l : List Pv} {ps : List Pt} {t d k m : Int}
theorem MoS.plen (h : MoS K B w g ru a n c l ps t d k m) : n = ps.length := by rw [h.len, ← h.map, List.length_map]
theorem MoS.rowp (h : MoS K B w g ru a n c l ps t d k m) : RowP w a l := RowP.of_sl h.row h.len h.ok
theorem MoS.upd {S : Nat → Prop} (h : MoS K B w g ru a n c l ps t d k m) (hu : Upd S w w') (hg : ¬ S g) (hr : ∀ b, (Value.slice a n c).ownBlock = some b → ¬ S b) (hf : ∀ v ∈ l, ∀ p, v.a = some p → 0 < v.p.recs.length → ¬ S p.block) : MoS K B w' g ru a n c l ps t d k m :=
  ⟨h.blk.upd hu hg, h.row.upd hu hr, h.len, h.map, h.ne, fun v hv => (h.ok v hv).upd hu (hf v hv), h.kk, h.fr⟩
theorem MoS.on (h : MoS K B w g ru a n c l ps t d k m) (hb : Below w.heap.size w w') : MoS K B w' g ru a n c l ps t d k m :=
  ⟨h.blk.on hb, h.row.onW hb, h.len, h.map, h.ne, fun v hv => (h.ok v hv).on hb, h.kk, h.fr⟩
theorem MoS.drew (h : MoS K B w g ru a n c l ps t d k m) : MoS K B w.drew g ru a n c l ps t d k m := h.on (Below.refl _ _).drew
/-- A number of the state itself. -/
theorem MoS.setNow (h : MoS K B w g ru a n c l ps t d k m) (x : Int) : MoS K B (w.setCell ⟨g, 5, none⟩ (.int .i64 x)) g ru a n c l ps t d k x ∧ Upd (fun b => b = g) w (w.setCell ⟨g, 5, none⟩ (.int .i64 x)) := by
  have hu : Upd (fun b => b = g) w (w.setCell ⟨g, 5, none⟩ (.int .i64 x)) := (Upd.refl (fun b => b = g) w).setCell (p := ⟨g, 5, none⟩) (fun _ => rfl) _
  exact ⟨⟨h.blk.set 5 (by simp) (.int .i64 x), h.row.upd hu (fun b hb e => h.ne (by rw [hb, e])), h.len, h.map, h.ne, fun v hv => (h.ok v hv).upd hu (fun p hp h0 e => (h.fr v hv p hp h0).1 e), h.kk, h.fr⟩, hu⟩
theorem MoS.setClock (h : MoS K B w g ru a n c l ps t d k m) (x : Int) : MoS K B (w.setCell ⟨g, 4, none⟩ (.int .i64 x)) g ru a n c l ps t d x m ∧ Upd (fun b => b = g) w (w.setCell ⟨g, 4, none⟩ (.int .i64 x)) := by
  have hu : Upd (fun b => b = g) w (w.setCell ⟨g, 4, none⟩ (.int .i64 x)) := (Upd.refl (fun b => b = g) w).setCell (p := ⟨g, 4, none⟩) (fun _ => rfl) _
  exact ⟨⟨h.blk.set 4 (by simp) (.int .i64 x), h.row.upd hu (fun b hb e => h.ne (by rw [hb, e])), h.len, h.map, h.ne, fun v hv => (h.ok v hv).upd hu (fun p hp h0 e => (h.fr v hv p hp h0).1 e), h.kk, h.fr⟩, hu⟩
/-- A number of a partition. -/
theorem MoS.poke {b off : Nat} (h : MoS K B w g ru (some ⟨b, off, none⟩) n c l ps t d k m) (i j : Nat) (hi : i < l.length) (hj : j < 10) (v : Pv) (hv : l[i] = v) (p' : Pt) (x : Value) (hx : ({ v with p := p' } : Pv).cells = v.cells.set j x) (hr : p'.recs = v.p.recs) :
    MoS K B (w.setCell ⟨b, off + i * 10 + j, none⟩ x) g ru (some ⟨b, off, none⟩) n c (l.set i { v with p := p' }) (ps.set i p') t d k m ∧ Upd (fun q => q = b) w (w.setCell ⟨b, off + i * 10 + j, none⟩ x) := by
  subst hv
  have hu : Upd (fun q => q = b) w (w.setCell ⟨b, off + i * 10 + j, none⟩ x) := (Upd.refl (fun q => q = b) w).setCell (p := ⟨b, off + i * 10 + j, none⟩) (fun _ => rfl) _
  have hsub : ∀ v ∈ l.set i { l[i] with p := p' }, ∃ u ∈ l, v.a = u.a ∧ v.c = u.c ∧ v.p.recs = u.p.recs := fun v hv => by
    rcases List.mem_or_eq_of_mem_set hv with hv | rfl
    · exact ⟨v, hv, rfl, rfl, rfl⟩
    · exact ⟨l[i], List.getElem_mem hi, rfl, rfl, hr⟩
  have hfr : ∀ v ∈ l.set i { l[i] with p := p' }, ∀ p, v.a = some p → 0 < v.p.recs.length → p.block ≠ g ∧ (Value.slice (some ⟨b, off, none⟩) n c).ownBlock ≠ some p.block := fun v hv p hp h0 => by
    obtain ⟨u, hu, e1, e2, e3⟩ := hsub v hv
    rw [e3] at h0; rw [e1] at hp
    exact h.fr u hu p hp h0
  refine ⟨⟨h.blk.upd hu (fun e => h.ne (by rw [e]; rfl)), ?_, by rw [List.length_set]; exact h.len, ?_, h.ne, fun v hv => ?_, fun v hv => ?_, hfr⟩, hu⟩
  · rw [pvs_set l i j _ x hi hj hx, Nat.add_assoc]
    exact h.row.put (i * 10 + j) x (by rw [h.len]; omega)
  · rw [List.map_set, h.map]
  · obtain ⟨u, hu', e1, e2, e3⟩ := hsub v hv
    have ho : PvOk w v := by
      have := h.ok u hu'
      exact ⟨by rw [e1, e3]; exact this.row, by rw [e2, e3]; exact this.le, by rw [e2]; exact this.cap⟩
    exact ho.upd hu (fun p hp h0 e => (hfr v hv p hp h0).2 (by rw [e]; rfl))
  · obtain ⟨u, hu, e1, e2, e3⟩ := hsub v hv
    rw [e1, e2, e3]; exact h.kk u hu
theorem MoS.at_ (h : MoS K B w g ru a n c l ps t d k m) (i : Nat) (hi : i < l.length) : ∃ b off, a = some ⟨b, off, none⟩ ∧ B ≤ b ∧ b < w.heap.size ∧ b ≠ g ∧ ∀ q, q < 10 → w.frozen? ⟨b, off + i * 10 + q, none⟩ = false := by
  obtain ⟨b, off, hab, -, -⟩ := h.rowp.row.at_ i hi
  subst hab
  obtain ⟨h1, h2, h3⟩ := sl_free h.row i (by rw [h.len]; exact hi)
  exact ⟨b, off, rfl, h1, h2, fun e => h.ne (by rw [← e]; rfl), h3⟩
theorem MoS.pat (h : MoS K B w g ru a n c l ps t d k m) (i : Nat) (hi : i < l.length) : (l[i]).p = Go.Proofs.YtoecikeleoaecaaGreat.pat ps i := by
  rw [pat_lt (by rw [← h.map, List.length_map]; exact hi)]
  simp only [← h.map, List.getElem_map]
end
/-- A row of one event. -/
theorem evi_row {B N : Nat} {w : World} {T : TypeId} (v : Ev) (u : Value) (hu : evv v = u) (hN : w.heap.size = N) (hB : B ≤ w.heap.size) : Sl B (w.alloc (.cells #[u] T)) 1 (.slice (some ⟨N, 0, none⟩) 1 1) 1 ([v].map evv) := by
  subst hN hu
  have h := Sl.made (B := B) w #[evv v] T 1 1 1 hB (Nat.le_refl _) (by unfold maxLen; omega) (by simp)
  simpa using h
end Go.Proofs.YtoecikeleoaecaaGreat
