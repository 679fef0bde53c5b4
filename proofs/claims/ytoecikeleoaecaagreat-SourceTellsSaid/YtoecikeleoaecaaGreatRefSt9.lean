/- The document's own answers of layer 23: the beginning. -/
import Derived.Test.YtoecikeleoaecaaGreatRefSt8
import Derived.Test.YtoecikeleoaecaaGreatKSrcC
import Derived.Test.YtoecikeleoaecaaGreatKLogR
namespace Go.Proofs.YtoecikeleoaecaaGreat
set_option maxRecDepth 4000
open Go.ChangeShapes Go.WideShapes Go.ChangeAt Go.RowKit
open PHist PRing PSat PClamp PBound PFrame PSign PTree PEv
set_option linter.unusedVariables false
set_option linter.unusedSimpArgs false

theorem RowR.upd2 {S : Nat → Prop} {w w' : World} {a : Option Addr} {l : List R} (h : RowR w a l) (hu : Upd S w w') (hn : ∀ q, a = some q → ¬ S q.block) : RowR w' a l :=
  ⟨h.len, fun i hi => by
    obtain ⟨b, off, h1, h2, h3, h4, h5⟩ := h.at_ i hi
    have hs : ¬ S b := hn _ h1
    exact ⟨b, off, h1, Nat.lt_of_lt_of_le h2 hu.size, by rw [hu.cell (p := ⟨b, off + i * 3, none⟩) h2 hs]; exact h3, by rw [hu.cell (p := ⟨b, off + i * 3 + 1, none⟩) h2 hs]; exact h4, by rw [hu.cell (p := ⟨b, off + i * 3 + 2, none⟩) h2 hs]; exact h5⟩, h.tm⟩
theorem PvOk.upd {S : Nat → Prop} {w w' : World} {v : Pv} (h : PvOk w v) (hu : Upd S w w') (hn : ∀ q, v.a = some q → 0 < v.p.recs.length → ¬ S q.block) : PvOk w' v := by
  refine ⟨?_, h.le, h.cap⟩
  rcases Nat.eq_zero_or_pos v.p.recs.length with h0 | h0
  · exact ⟨h.row.len, fun i hi => by omega, h.row.tm⟩
  · exact h.row.upd2 hu fun q hq => hn q hq h0
/-- The loop's state: k partitions are there. -/
structure RefN (w wr : World) (g8 k : Nat) (t d : Int) (rs : List Rul) (ls : List (List UInt8)) (a : Option Addr) (c : Nat) (out : Value) (l : List Pv) (F : Nat → Prop) : Prop where
  st : At wr g8 [.slice a k c, .int .i64 t, .int .i64 d, .int .i64 0, .int .i64 (-9223372036854775808)]
  row : Sl (g8 + 1) wr 10 (.slice a k c) k (pvs l)
  ps : l.map (·.p) = (begun t rs ls).take k
  evr : Sl (g8 + 1) wr 8 out (faultsTo (raws t rs ls) k).length (evcs (faultsTo (raws t rs ls) k))
  ok : ∀ v ∈ l, PvOk wr v ∧ ∀ p, v.a = some p → 0 < v.p.recs.length → F p.block
  f : ∀ b, F b → g8 + 1 ≤ b ∧ b < wr.heap.size
  fa : ∀ b, (Value.slice a k c).ownBlock = some b → ¬ F b ∧ out.ownBlock ≠ some b
  fo : ∀ b, out.ownBlock = some b → ¬ F b
  new : Below w.heap.size w wr
  lt : w.heap.size + 1 < g8
theorem RefN.on {w wr w' : World} {g8 k : Nat} {t d : Int} {rs : List Rul} {ls : List (List UInt8)} {a : Option Addr} {c : Nat} {out : Value} {l : List Pv} {F : Nat → Prop} (h : RefN w wr g8 k t d rs ls a c out l F) (hb : Below wr.heap.size wr w') : RefN w w' g8 k t d rs ls a c out l F :=
  ⟨h.st.on hb, h.row.on hb, h.ps, h.evr.on hb, fun v hv => ⟨(h.ok v hv).1.on hb, (h.ok v hv).2⟩, fun b hb' => ⟨(h.f b hb').1, Nat.lt_of_lt_of_le (h.f b hb').2 hb.size⟩, h.fa, h.fo, on_below h.new hb, h.lt⟩
/-- One more. -/
theorem RefN.step {w wr w6 w7 w9 : World} {g8 k : Nat} {t d : Int} {rs : List Rul} {ls : List (List UInt8)} {a a1 a2 : Option Addr} {c c1 c2 : Nat} {out r : Value} {l : List Pv} {F : Nat → Prop} {v : Pv} (h : RefN w wr g8 k t d rs ls a c out l F) (hk : k < (raws t rs ls).length)
    (hv : v.p = settled (pat (raws t rs ls) k)) (hvo : PvOk w6 v) (hva : ∀ p, v.a = some p → 0 < v.p.recs.length → wr.heap.size ≤ p.block ∧ p.block < w6.heap.size) (h6 : Below wr.heap.size wr w6)
    (q1 : Sl (g8 + 1) w7 10 (.slice a1 (k + 1) c1) (k + 1) (pvs l ++ v.cells)) (q2 : Upd (fun b => (Value.slice a k c).ownBlock = some b) w6 w7) (q3 : ∀ b, (Value.slice a1 (k + 1) c1).ownBlock = some b → (Value.slice a k c).ownBlock = some b ∨ w6.heap.size ≤ b)
    (hr : ∀ b, r.ownBlock = some b → wr.heap.size ≤ b ∧ b < w6.heap.size)
    (l1 : Sl (g8 + 1) w9 8 (.slice a2 ((faultsTo (raws t rs ls) k).length + (faults (pat (raws t rs ls) k) k).length) c2) ((faultsTo (raws t rs ls) k).length + (faults (pat (raws t rs ls) k) k).length) (evcs (faultsTo (raws t rs ls) k) ++ evcs (faults (pat (raws t rs ls) k) k))) (l2 : Upd (fun b => out.ownBlock = some b) (w7.setCell ⟨g8, 0, none⟩ (.slice a1 (k + 1) c1)) w9) (l3 : ∀ b, (Value.slice a2 ((faultsTo (raws t rs ls) k).length + (faults (pat (raws t rs ls) k) k).length) c2).ownBlock = some b → out.ownBlock = some b ∨ w7.heap.size ≤ b) :
    RefN w w9 g8 (k + 1) t d rs ls a1 c1 (.slice a2 ((faultsTo (raws t rs ls) k).length + (faults (pat (raws t rs ls) k) k).length) c2) (l ++ [v]) (fun b => F b ∨ ∃ p, v.a = some p ∧ 0 < v.p.recs.length ∧ p.block = b) := by
  have h7 := h.on h6
  have hs6 := h6.size
  have hs7 := q2.size
  have hu8 : Upd (fun b => b = g8) w7 (w7.setCell ⟨g8, 0, none⟩ (.slice a1 (k + 1) c1)) := (Upd.refl (fun b => b = g8) w7).setCell (p := ⟨g8, 0, none⟩) (fun _ => rfl) _
  have hs9 : w7.heap.size ≤ w9.heap.size := Nat.le_trans hu8.size l2.size
  have hgl := h.st.1
  have hog : ∀ b, out.ownBlock = some b → b ≠ g8 := fun b hb => by have := (h.evr.lt b hb).1; omega
  have hag : ∀ b, (Value.slice a k c).ownBlock = some b → b ≠ g8 := fun b hb => by have := (h.row.lt b hb).1; omega
  have hat := ((h7.st.upd q2 (fun e => hag _ e rfl)).set 0 (by simp) (.slice a1 (k + 1) c1)).upd l2 (fun e => hog _ e rfl)
  simp only [List.set] at hat
  have hkeep : ∀ v', PvOk w6 v' → (∀ p, v'.a = some p → 0 < v'.p.recs.length → ¬ (Value.slice a k c).ownBlock = some p.block ∧ p.block ≠ g8 ∧ ¬ out.ownBlock = some p.block) → PvOk w9 v' := fun v' ho hn => ((ho.upd q2 (fun p hp h0 => (hn p hp h0).1)).upd hu8 (fun p hp h0 => (hn p hp h0).2.1)).upd l2 (fun p hp h0 => (hn p hp h0).2.2)
  have hall : ∀ p, v.a = some p → 0 < v.p.recs.length → ¬ (Value.slice a k c).ownBlock = some p.block ∧ p.block ≠ g8 ∧ ¬ out.ownBlock = some p.block := fun p hp h0 => by
    have := hva p hp h0
    refine ⟨fun e => ?_, by omega, fun e => ?_⟩
    · have := (h.row.lt _ e).2; omega
    · have := (h.evr.lt _ e).2; omega
  refine ⟨hat, ?_, ?_, ?_, fun v' hv' => ?_, fun b hb => ?_, fun b hb => ?_, fun b hb => ?_, ?_, h.lt⟩
  · rw [pvs_snoc]
    exact (q1.upd hu8 (fun b hb e => by have := (q1.lt b hb).1; have e' : b = g8 := e; omega)).upd l2 (fun b hb e => (q3 b hb).elim (fun e' => (h.fa b e').2 e) (fun e' => by have := (h.evr.lt b e).2; omega))
  · have hkb : k < (begun t rs ls).length := by unfold begun; rw [List.length_map]; exact hk
    rw [List.map_append, h.ps, List.take_succ_eq_append_getElem hkb]
    congr 1
    show [v.p] = _
    rw [hv, pat_lt hk]
    simp only [begun, List.getElem_map]
  · show Sl (g8 + 1) w9 8 _ (faultsTo (raws t rs ls) k ++ faults (pat (raws t rs ls) k) k).length (evcs (faultsTo (raws t rs ls) k ++ faults (pat (raws t rs ls) k) k))
    rw [List.length_append, show evcs (faultsTo (raws t rs ls) k ++ faults (pat (raws t rs ls) k) k) = evcs (faultsTo (raws t rs ls) k) ++ evcs (faults (pat (raws t rs ls) k) k) by simp [evcs]]
    exact l1
  · rcases List.mem_append.1 hv' with hv' | hv'
    · have ho := h.ok v' hv'
      refine ⟨hkeep v' (ho.1.on h6) fun p hp h0 => ⟨fun e => (h.fa _ e).1 (ho.2 p hp h0), ?_, fun e => h.fo _ e (ho.2 p hp h0)⟩, fun p hp h0 => .inl (ho.2 p hp h0)⟩
      have := (h.f _ (ho.2 p hp h0)).1
      omega
    · rw [List.mem_singleton] at hv'
      subst hv'
      exact ⟨hkeep v' hvo hall, fun p hp h0 => .inr ⟨p, hp, h0, rfl⟩⟩
  · rcases hb with hb | ⟨p, hp, hp0, rfl⟩
    · have := h.f b hb
      omega
    · have := hva p hp hp0
      omega
  · rcases q3 b hb with e | e
    · refine ⟨fun hf => ?_, fun e2 => ?_⟩
      · rcases hf with hf | ⟨p, hp, hp0, rfl⟩
        · exact (h.fa b e).1 hf
        · exact (hall p hp hp0).1 e
      · rcases l3 b e2 with e3 | e3
        · exact (h.fa b e).2 e3
        · have := (h.row.lt b e).2; omega
    · refine ⟨fun hf => ?_, fun e2 => ?_⟩
      · rcases hf with hf | ⟨p, hp, hp0, rfl⟩
        · have := (h.f b hf).2; omega
        · have := hva p hp hp0; omega
      · rcases l3 b e2 with e3 | e3
        · have := (h.evr.lt b e3).2; omega
        · have := (q1.lt b hb).2; omega
  · intro hf
    rcases l3 b hb with e | e
    · rcases hf with hf | ⟨p, hp, hp0, rfl⟩
      · exact h.fo b e hf
      · exact (hall p hp hp0).2.2 e
    · rcases hf with hf | ⟨p, hp, hp0, rfl⟩
      · have := (h.f b hf).2; omega
      · have := hva p hp hp0; omega
  · have hl := h.lt
    have hn := h.new.size
    have hb6 := on_below h.new h6
    have hb7 := hb6.upd q2 hb6.size (fun b _ e => by have := (h.row.lt b e).1; omega)
    have hb8 := hb7.upd hu8 hb7.size (fun b _ e => by have e' : b = g8 := e; omega)
    exact hb8.upd l2 hb8.size (fun b _ e => by have := (h.evr.lt b e).1; omega)
end Go.Proofs.YtoecikeleoaecaaGreat
