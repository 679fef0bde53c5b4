/- The document's state beside a source: what stays of it. -/
import Derived.Test.YtoecikeleoaecaaGreatRefStA
import Derived.Test.YtoecikeleoaecaaGreatKSrcC
namespace Go.Proofs.YtoecikeleoaecaaGreat
set_option maxRecDepth 4000
open Go.ChangeShapes Go.WideShapes Go.ChangeAt Go.RowKit
open PHist PRing PSat PClamp PBound PFrame PVar PCrc PSign PTree PEv
set_option linter.unusedVariables false
set_option linter.unusedSimpArgs false

/-- Records that could be read at w1, in blocks that are not t1's. -/
def KR (w1 : World) (t1 : Nat → Prop) (a : Option Addr) (c : Nat) (recs : List R) : Prop := RowR w1 a recs ∧ recs.length ≤ c ∧ c ≤ maxLen ∧ ∀ p, a = some p → 0 < recs.length → ¬ t1 p.block
/-- A row of partitions; tag: which blocks are a source's; g5: a block of one's own. -/
structure RefR (w1 : World) (t1 : Nat → Prop) (tag : Nat → Nat) (g5 : Nat) (wr : World) (a : Option Addr) (l : List Pv) (s : St) : Prop where
  row : RowG wr 10 Pv.cells a l
  k : ∀ v ∈ l, KR w1 t1 v.a v.c v.p.recs
  ps : l.map (·.p) = s.ps
  new : Upd t1 w1 wr
  fr : ∀ p, a = some p → 0 < l.length → tag p.block = 0 ∧ p.block ≠ g5
  old : ∀ b, b < w1.heap.size → tag b ≠ 0 → t1 b
  g : w1.heap.size ≤ g5
section
variable {w1 wr w' : World} {t1 : Nat → Prop} {tag tag' : Nat → Nat} {g5 : Nat} {a : Option Addr} {l : List Pv} {s : St}
theorem RefR.on (h : RefR w1 t1 tag g5 wr a l s) (hb : Below wr.heap.size wr w') : RefR w1 t1 tag g5 w' a l s :=
  ⟨h.row.below hb, h.k, h.ps, h.new.trans (Upd.of_below (S := fun _ => False) hb (fun k h1 h2 => by omega)) (fun _ _ h => h.elim), h.fr, h.old, h.g⟩
theorem RefR.len (h : RefR w1 t1 tag g5 wr a l s) : l.length = s.ps.length := by rw [← h.ps, List.length_map]
theorem RefR.lt (h : RefR w1 t1 tag g5 wr a l s) : ∀ p, a = some p → 0 < l.length → p.block < wr.heap.size := fun p hp h0 => by
  obtain ⟨b, off, hab, hb, -⟩ := h.row.at_ 0 h0
  rw [hab] at hp; cases hp
  exact hb
/-- The source went on. -/
theorem RefR.src (h : RefR w1 t1 tag g5 wr a l s) (hu : Upd (fun b => tag b ≠ 0) wr w') (ht : ∀ b, tag' b ≠ 0 → tag b ≠ 0 ∨ wr.heap.size ≤ b) : RefR w1 t1 tag' g5 w' a l s := by
  refine ⟨h.row.keep hu (fun p hp h0 hn => hn (h.fr p hp h0).1), h.k, h.ps, h.new.trans hu (fun b hb hn => h.old b hb hn), fun p hp h0 => ⟨?_, (h.fr p hp h0).2⟩, fun b hb hn => ?_, h.g⟩
  · apply Classical.byContradiction
    intro hn
    rcases ht _ hn with h1 | h1
    · exact h1 (h.fr p hp h0).1
    · have := h.lt p hp h0; omega
  · rcases ht b hn with h1 | h1
    · exact h.old b hb h1
    · have := h.new.size; omega
/-- The block of one's own was written. -/
theorem RefR.set (h : RefR w1 t1 tag g5 wr a l s) (hu : Upd (fun b => b = g5) wr w') : RefR w1 t1 tag g5 w' a l s :=
  ⟨h.row.keep hu (fun p hp h0 hn => (h.fr p hp h0).2 hn), h.k, h.ps, h.new.trans hu (fun b hb hn => by have hn : b = g5 := hn; have := h.g; omega), h.fr, h.old, h.g⟩
theorem RefR.rowp (h : RefR w1 t1 tag g5 wr a l s) : RowP wr a l :=
  ⟨h.row, fun v hv => by
    obtain ⟨k1, k2, k3, k4⟩ := h.k v hv
    exact PvOk.upd (w := w1) ⟨k1, k2, k3⟩ h.new k4⟩
/-- All that is new is nobody's. -/
theorem RefR.re (h : RefR w1 t1 tag g5 wr a l s) (n : Nat) : RefR w1 t1 (retag tag n 0) g5 wr a l s :=
  ⟨h.row, h.k, h.ps, h.new, fun p hp h0 => ⟨by
    rcases Nat.lt_or_ge p.block n with h1 | h1
    · rw [retag_old h1]; exact (h.fr p hp h0).1
    · exact retag_new h1, (h.fr p hp h0).2⟩, fun b hb hn => h.old b hb (by
    rcases Nat.lt_or_ge b n with h1 | h1
    · rw [retag_old h1] at hn; exact hn
    · exact absurd (retag_new h1) hn), h.g⟩
/-- A choice. -/
theorem RefR.does (h : RefR w1 t1 tag g5 wr a l s) (hg : g5 < wr.heap.size) (hn : ∀ b, wr.heap.size ≤ b → tag b = 0) (c : Nat) (hok : s.Ok) (t : Bool) (x : Int) (hx : in64 x) :
    Calls Tryz.prog 20 #[.agg #[.slice a s.ps.length c, .int .i64 s.timeout, .int .i64 s.drift, .int .i64 s.clock, .int .i64 s.now], .agg #[.bool t, .int .i64 x]] wr fun e w' => ∃ a' c' l' r, e = .returned (.tuple #[.agg #[.slice a' (s.doS (t, x)).ps.length c', .int .i64 (s.doS (t, x)).timeout, .int .i64 (s.doS (t, x)).drift, .int .i64 (s.doS (t, x)).clock, .int .i64 (s.doS (t, x)).now], r]) ∧
      RefR w1 t1 tag g5 w' a' l' (s.doS (t, x)) ∧ Sl wr.heap.size w' 8 r (s.doE (t, x)).length (evcs (s.doE (t, x))) ∧ Below wr.heap.size wr w' :=
  (ref_do (KR w1 t1) a s.ps.length c l s t x wr h.rowp h.len.symm h.ps h.k hok hx).mono fun e w' hY => by
    obtain ⟨a', c', l', r, h1, h2, h3, h4, h5, h6, h7⟩ := hY
    have h8 := (h.on h6).new
    refine ⟨a', c', l', r, h1, ⟨h2, h3, h4, h8, fun p hp h0 => ?_, h.old, h.g⟩, h5, h6⟩
    have hl : l'.length = l.length := by
      have e1 := congrArg List.length h4
      rw [List.length_map, doS_len] at e1
      rw [e1, ← h.len]
    rcases h7 with rfl | h7
    · exact h.fr p hp (by omega)
    · have := h7 p hp
      exact ⟨hn _ this, by omega⟩
end
/-- Events of one's own. -/
structure EvR (B : Nat) (tag : Nat → Nat) (g5 : Nat) (wr : World) (v : Value) (l : List Ev) : Prop where
  row : Sl B wr 8 v l.length (evcs l)
  fr : ∀ b, v.ownBlock = some b → tag b = 0 ∧ b ≠ g5
section
variable {wr w' : World} {tag tag' : Nat → Nat} {g5 B : Nat} {v : Value} {l : List Ev}
theorem EvR.on (h : EvR B tag g5 wr v l) (hb : Below wr.heap.size wr w') : EvR B tag g5 w' v l := ⟨h.row.on hb, h.fr⟩
theorem EvR.src (h : EvR B tag g5 wr v l) (hu : Upd (fun b => tag b ≠ 0) wr w') (ht : ∀ b, tag' b ≠ 0 → tag b ≠ 0 ∨ wr.heap.size ≤ b) : EvR B tag' g5 w' v l :=
  ⟨h.row.upd hu (fun b hb hn => hn (h.fr b hb).1), fun b hb => ⟨by
    apply Classical.byContradiction
    intro hn
    rcases ht _ hn with h1 | h1
    · exact h1 (h.fr b hb).1
    · have := (h.row.lt b hb).2; omega, (h.fr b hb).2⟩⟩
theorem EvR.set (h : EvR B tag g5 wr v l) (hu : Upd (fun b => b = g5) wr w') : EvR B tag g5 w' v l := ⟨h.row.upd hu (fun b hb hn => (h.fr b hb).2 hn), h.fr⟩
theorem EvR.rowg (h : EvR B tag g5 wr v l) : ∃ a c, v = .slice a l.length c ∧ RowG wr 8 evc a l := rowg_of_sl h.row rfl evc_len
end
theorem SrcI.re {w0 w : World} {tag : Nat → Nat} {W : Nat → Nat → Prop} {ev : Value} {V : SrcV} {g : Nat} {s : St} {evs : List Ev} {beg : Nat} (h : SrcI w0 w tag W ev V g s evs beg) : SrcI w0 w (retag tag w.heap.size 0) W ev V g s evs beg :=
  ⟨h.src.retag 0, fun b hb => h.own b (by
    rcases Nat.lt_or_ge b w.heap.size with hlt | hge
    · rw [retag_old hlt] at hb; exact hb
    · exact absurd (retag_new hge) hb), h.new, h.ok⟩
theorem EvR.re {wr : World} {tag : Nat → Nat} {g5 B : Nat} {v : Value} {l : List Ev} (h : EvR B tag g5 wr v l) (n : Nat) : EvR B (retag tag n 0) g5 wr v l :=
  ⟨h.row, fun b hb => ⟨by
    rcases Nat.lt_or_ge b n with h1 | h1
    · rw [retag_old h1]; exact (h.fr b hb).1
    · exact retag_new h1, (h.fr b hb).2⟩⟩
theorem plain_of {B : Nat} {w : World} {v : Value} {n : Nat} {l : List Ev} (h : Sl B w 1 v n (l.map evv)) (hl : n ≤ 100000) : Calls Tryz.prog 18 #[v] w (PlainPost l w) := by
  obtain ⟨hn, a, c, rfl, hr⟩ := rowe_of_sl h
  exact law_plain a l.length c l w hr rfl (by omega)
theorem same_of {B1 B2 : Nat} {w : World} {v1 v2 : Value} {l : List Ev} (h1 : Sl B1 w 8 v1 l.length (evcs l)) (h2 : Sl B2 w 8 v2 l.length (evcs l)) (hl : l.length ≤ 100000) : Calls Tryz.prog 17 #[v1, v2] w fun e w' => e = .returned (.bool true) ∧ Below w.heap.size w w' := by
  obtain ⟨a1, c1, rfl, hr1⟩ := rowg_of_sl h1 rfl evc_len
  obtain ⟨a2, c2, rfl, hr2⟩ := rowg_of_sl h2 rfl evc_len
  exact ref_same22 l a1 a2 l.length c1 c2 w hr1 hr2 rfl hl
theorem SrcI.set {w0 w w' : World} {tag : Nat → Nat} {W : Nat → Nat → Prop} {ev : Value} {V : SrcV} {g g5 : Nat} {s : St} {evs : List Ev} {beg : Nat} (h : SrcI w0 w tag W ev V g s evs beg) (hu : Upd (fun b => b = g5) w w') (hg : tag g5 = 0) (hB : w0.heap.size ≤ g5) : SrcI w0 w' tag W ev V g s evs beg :=
  ⟨h.src.upd hu (fun b hb e => by rw [e]; exact hg), h.own, h.new.upd hu h.new.size (fun i _ hi => by rw [hi]; exact hB), h.ok⟩
/-- A choice of the source, beside the document's state. -/
theorem SrcI.goes {w0 w : World} {tag : Nat → Nat} {W : Nat → Nat → Prop} {ev : Value} {V : SrcV} {g : Nat} {s : St} {evs : List Ev} {beg : Nat} (h : SrcI w0 w tag W ev V g s evs beg) (x : Bool × Int) (hx : in64 x.2) (hb : evs.length ≤ 90000) :
    Calls Tryz.prog 21 #[.pointer (some ⟨g, 0, none⟩), .agg #[.bool x.1, .int .i64 x.2]] w fun e w' => ∃ v tag' W' ev', e = .returned v ∧ Sl w.heap.size w' 1 v (s.doE x).length ((s.doE x).map evv) ∧ SrcI w0 w' tag' W' ev' V g (s.doS x) (evs ++ s.doE x) beg ∧ Upd (fun b => tag b ≠ 0) w w' ∧ (∀ b, v.ownBlock = some b → tag' b = 0) ∧ ∀ b, tag' b ≠ 0 → tag b ≠ 0 ∨ w.heap.size ≤ b :=
  (so_do tag W ev V g s evs beg x.1 x.2 w h.src h.ok hx hb).mono fun e w' k => by
    obtain ⟨v, tag', W', ev', h1, h2, h3, h4, h5, h6⟩ := k
    exact ⟨v, tag', W', ev', h1, h2, ⟨h3, fun b hb => (h5 b hb).elim (h.own b) (Nat.le_trans h.new.size), h.new.upd h4 h.new.size (fun i _ hi => h.own i hi), h.ok.do x⟩, h4, h6, h5⟩
theorem SrcI.now {w0 w : World} {tag : Nat → Nat} {W : Nat → Nat → Prop} {ev : Value} {V : SrcV} {g : Nat} {s : St} {evs : List Ev} {beg : Nat} (h : SrcI w0 w tag W ev V g s evs beg) : Calls Tryz.prog 22 #[.pointer (some ⟨g, 0, none⟩)] w fun e w' => e = .returned (.int .i64 s.now) ∧ w = w' := so_now tag W ev V g _ w h.src
theorem SrcI.time {w0 w : World} {tag : Nat → Nat} {W : Nat → Nat → Prop} {ev : Value} {V : SrcV} {g : Nat} {s : St} {evs : List Ev} {beg : Nat} (h : SrcI w0 w tag W ev V g s evs beg) : Calls Tryz.prog 23 #[.pointer (some ⟨g, 0, none⟩)] w fun e w' => e = .returned (.int .i64 s.clock) ∧ w = w' := so_time tag W ev V g _ w h.src
end Go.Proofs.YtoecikeleoaecaaGreat
