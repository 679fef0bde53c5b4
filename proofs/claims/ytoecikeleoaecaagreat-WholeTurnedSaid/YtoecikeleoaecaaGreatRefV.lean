/- A row of partitions beside blocks that others write: what stays of it; events as plain data. -/
import Derived.Test.YtoecikeleoaecaaGreatKRefS
import Derived.Test.YtoecikeleoaecaaGreatKSrcA
namespace Go.Proofs.YtoecikeleoaecaaGreat
set_option maxRecDepth 4000
open Go.ChangeShapes Go.WideShapes Go.ChangeAt Go.RowKit
open PHist PRing PSat PClamp PBound PFrame PVar PCrc PSign PTree PEv
set_option linter.unusedVariables false
set_option linter.unusedSimpArgs false

theorem rowp_keep {S : Nat → Prop} {w w' : World} {a : Option Addr} {l : List Pv} (h : RowG w 10 Pv.cells a l) (hu : Upd S w w') (hn : ∀ p, a = some p → 0 < l.length → ¬ S p.block) : RowG w' 10 Pv.cells a l := by
  rcases Nat.eq_zero_or_pos l.length with h0 | h0
  · exact ⟨fun i hi => by omega⟩
  · exact h.upd hu fun p hp => hn p hp h0
/-- Records that could be read at w1, in blocks that are not t1's. -/
def KR (w1 : World) (t1 : Nat → Prop) (a : Option Addr) (c : Nat) (recs : List R) : Prop := RowR w1 a recs ∧ recs.length ≤ c ∧ c ≤ maxLen ∧ ∀ p, a = some p → 0 < recs.length → ¬ t1 p.block
/-- A row of partitions; tag: which blocks are a source's; g5: a block of one's own. -/
structure RefR (w1 : World) (t1 : Nat → Prop) (tag : Nat → Nat) (g5 : Nat) (wr : World) (a : Option Addr) (l : List Pv) (s : St) : Prop where
  row : RowG wr 10 Pv.cells a l
  k : ∀ v ∈ l, KR w1 t1 v.a v.c v.p.recs
  ps : l.map (·.p) = s.ps
  new : Upd t1 w1 wr
  fr : ∀ p, a = some p → 0 < l.length → tag p.block = 0 ∧ p.block ≠ g5
  old : ∀ b, b < w1.heap.size → tag b ≠ 0 → t1 b
  g : w1.heap.size ≤ g5
section
variable {w1 wr w' : World} {t1 : Nat → Prop} {tag tag' : Nat → Nat} {g5 : Nat} {a : Option Addr} {l : List Pv} {s : St}
theorem RefR.on (h : RefR w1 t1 tag g5 wr a l s) (hb : Below wr.heap.size wr w') : RefR w1 t1 tag g5 w' a l s :=
  ⟨h.row.below hb, h.k, h.ps, h.new.trans (Upd.of_below (S := fun _ => False) hb (fun k h1 h2 => by omega)) (fun _ _ h => h.elim), h.fr, h.old, h.g⟩
theorem RefR.len (h : RefR w1 t1 tag g5 wr a l s) : l.length = s.ps.length := by rw [← h.ps, List.length_map]
theorem RefR.lt (h : RefR w1 t1 tag g5 wr a l s) : ∀ p, a = some p → 0 < l.length → p.block < wr.heap.size := fun p hp h0 => by
  obtain ⟨b, off, hab, hb, -⟩ := h.row.at_ 0 h0
  rw [hab] at hp; cases hp
  exact hb
/-- The source went on. -/
theorem RefR.src (h : RefR w1 t1 tag g5 wr a l s) (hu : Upd (fun b => tag b ≠ 0) wr w') (ht : ∀ b, tag' b ≠ 0 → tag b ≠ 0 ∨ wr.heap.size ≤ b) : RefR w1 t1 tag' g5 w' a l s := by
  refine ⟨rowp_keep h.row hu (fun p hp h0 hn => hn (h.fr p hp h0).1), h.k, h.ps, h.new.trans hu (fun b hb hn => h.old b hb hn), fun p hp h0 => ⟨?_, (h.fr p hp h0).2⟩, fun b hb hn => ?_, h.g⟩
  · apply Classical.byContradiction
    intro hn
    rcases ht _ hn with h1 | h1
    · exact h1 (h.fr p hp h0).1
    · have := h.lt p hp h0; omega
  · rcases ht b hn with h1 | h1
    · exact h.old b hb h1
    · have := h.new.size; omega
/-- The block of one's own was written. -/
theorem RefR.set (h : RefR w1 t1 tag g5 wr a l s) (hu : Upd (fun b => b = g5) wr w') : RefR w1 t1 tag g5 w' a l s :=
  ⟨rowp_keep h.row hu (fun p hp h0 hn => (h.fr p hp h0).2 hn), h.k, h.ps, h.new.trans hu (fun b hb hn => by have hn : b = g5 := hn; have := h.g; omega), h.fr, h.old, h.g⟩
theorem RefR.rowp (h : RefR w1 t1 tag g5 wr a l s) : RowP wr a l :=
  ⟨h.row, fun v hv => by
    obtain ⟨k1, k2, k3, k4⟩ := h.k v hv
    exact PvOk.upd (w := w1) ⟨k1, k2, k3⟩ h.new k4⟩
/-- All that is new is nobody's. -/
theorem RefR.re (h : RefR w1 t1 tag g5 wr a l s) (n : Nat) : RefR w1 t1 (retag tag n 0) g5 wr a l s :=
  ⟨h.row, h.k, h.ps, h.new, fun p hp h0 => ⟨by
    rcases Nat.lt_or_ge p.block n with h1 | h1
    · rw [retag_old h1]; exact (h.fr p hp h0).1
    · exact retag_new h1, (h.fr p hp h0).2⟩, fun b hb hn => h.old b hb (by
    rcases Nat.lt_or_ge b n with h1 | h1
    · rw [retag_old h1] at hn; exact hn
    · exact absurd (retag_new h1) hn), h.g⟩
end
theorem plain_of {B : Nat} {w : World} {v : Value} {n : Nat} {l : List Ev} (h : Sl B w 1 v n (l.map evv)) (hl : n ≤ 100000) : Calls Tryz.prog 18 #[v] w (PlainPost l w) := by
  obtain ⟨hn, a, c, rfl, hr⟩ := rowe_of_sl h
  exact law_plain a l.length c l w hr rfl (by omega)
theorem same_of {B1 B2 : Nat} {w : World} {v1 v2 : Value} {l : List Ev} (h1 : Sl B1 w 8 v1 l.length (evcs l)) (h2 : Sl B2 w 8 v2 l.length (evcs l)) (hl : l.length ≤ 100000) : Calls Tryz.prog 17 #[v1, v2] w fun e w' => e = .returned (.bool true) ∧ Below w.heap.size w w' := by
  obtain ⟨a1, c1, rfl, hr1⟩ := rowg_of_sl h1 rfl evc_len
  obtain ⟨a2, c2, rfl, hr2⟩ := rowg_of_sl h2 rfl evc_len
  exact ref_same22 l a1 a2 l.length c1 c2 w hr1 hr2 rfl hl
end Go.Proofs.YtoecikeleoaecaaGreat
