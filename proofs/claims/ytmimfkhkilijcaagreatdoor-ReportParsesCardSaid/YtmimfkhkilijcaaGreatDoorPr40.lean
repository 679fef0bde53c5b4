/- KJuC: what is reached of them. -/
import Derived.BigQuiet
import Derived.BigRegion
import Derived.Deep.RegionHeld3
import Derived.Maps.OwnOps
import Derived.Maps.Views
import Derived.Test.YtmimfkhkilijcaaGreatDoorPr01
import Derived.Test.YtmimfkhkilijcaaGreatDoorPr08
import Derived.Test.YtmimfkhkilijcaaGreatDoorPr15
import Derived.Test.YtmimfkhkilijcaaGreatDoorPr19
import Derived.Test.YtmimfkhkilijcaaGreatDoorPr39
namespace Go.Proofs.YtmimfkhkilijcaaGreatDoor
set_option maxRecDepth 4000
open Go.ChangeShapes Go.WideShapes Go.ChangeAt Go.RowKit
open Go.Maps
set_option linter.unusedVariables false
set_option linter.unusedSimpArgs false

theorem ikey : Keyed Tryz.prog 3 := int_keyed Tryz.underlying3
/-- Block b is a map of at most n entries: which numbers it holds. -/
def MapB (w : World) (b n : Nat) (ov : Int → Bool) : Prop := ∃ D : DataW Unit, w.ownsMap Tryz.prog 3 (plainElem Tryz.prog 4) b n D ∧ IsMap D ∧ ∀ i : Int, D.atKey (.int .i64 i) (.lit (.bool false)) = .lit (.bool (ov i))
theorem MapB.made (w : World) : MapB (w.alloc (.map #[] 0)) w.heap.size 0 (fun _ => false) := ⟨.map [], World.ownsMap_made _ _ _ _, isMap_empty, fun i => rfl⟩
theorem MapB.lt {w : World} {b n : Nat} {ov : Int → Bool} (h : MapB w b n ov) : b < w.heap.size := by
  obtain ⟨D, h1, _⟩ := h
  exact h1.lt
theorem MapB.upd {S : Nat → Prop} {w w' : World} {b n : Nat} {ov : Int → Bool} (h : MapB w b n ov) (hu : Upd S w w') (hn : ¬ S b) : MapB w' b n ov := by
  obtain ⟨D, ⟨es, clock, hb, F, hs, hD⟩, h2, h3⟩ := h
  have hlt : b < w.heap.size := (Array.getElem?_eq_some_iff.1 hb).1
  exact ⟨D, ⟨es, clock, (hu.block b hlt hn).trans hb, F, hs, hD⟩, h2, h3⟩
theorem MapB.on {w w' : World} {b n : Nat} {ov : Int → Bool} (h : MapB w b n ov) (hb : Below w.heap.size w w') : MapB w' b n ov :=
  h.upd (S := fun k => w.heap.size ≤ k) (Upd.of_below hb (fun _ _ h => h)) (by have := h.lt; omega)
theorem MapB.mono {w : World} {b n m : Nat} {ov : Int → Bool} (h : MapB w b n ov) (hm : n ≤ m) : MapB w b m ov := by
  obtain ⟨D, h1, h2, h3⟩ := h
  exact ⟨D, h1.mono hm, h2, h3⟩
theorem wf64 {i : Int} (h : -9223372036854775808 ≤ i ∧ i ≤ 9223372036854775807) : (Lit.int .i64 i).wf = true := by simp [Lit.wf, IntKind.min, IntKind.max, IntKind.bits, IntKind.signed]; omega
theorem MapB.put {w : World} {b n : Nat} {ov : Int → Bool} (h : MapB w b n ov) (hn : n < maxLen) (i : Int) (hi : -9223372036854775808 ≤ i ∧ i ≤ 9223372036854775807) :
    ∃ w', (Instr.mapUpdate 200 (.map (some b)) (.int .i64 i) (.bool true)).run Tryz.prog w = .ok () w' ∧ MapB w' b (n + 1) (fun j => if j = i then true else ov j) ∧ Upd (fun k => k = b) w w' := by
  obtain ⟨D, h1, h2, h3⟩ := h
  obtain ⟨w', hrun, r1, r2⟩ := h1.update ikey Tryz.underlying200 hn (keyOf_int_mk Tryz.underlying3 (wf64 hi)) (plainElem_bool Tryz.underlying4 true)
  refine ⟨w', hrun, ⟨_, r1, h2.put _ _, fun j => ?_⟩, ⟨r2.os, r2.tape, r2.output, r2.size, fun k hk hne => r2.block k hk (fun e => hne (by simpa using e))⟩⟩
  by_cases e : j = i
  · subst e
    show _ = DataW.lit (Lit.bool (if j = j then true else ov j))
    rw [if_pos rfl]
    exact atKey_put_same h2 (show WideAt.IsKeyLit (Lit.int .i64 j) from trivial) _ _
  · show _ = DataW.lit (Lit.bool (if j = i then true else ov j))
    rw [if_neg e, ← h3 j]
    exact atKey_put_other (by intro h; exact e (by simpa using h)) _ _
end Go.Proofs.YtmimfkhkilijcaaGreatDoor

/- Logs, as far as they came out, in memory: a struct of a row of parts and a map. -/
namespace Go.Proofs.YtmimfkhkilijcaaGreatDoor
set_option maxRecDepth 4000
open Go.ChangeShapes Go.WideShapes Go.ChangeAt Go.RowKit
open PHist PRing PSat PClamp PBound PFrame PSign PTree PEv
set_option linter.unusedVariables false
set_option linter.unusedSimpArgs false

theorem RowR.kept25 {S : Nat → Prop} {w w' : World} {a : Option Addr} {l : List R} (h : RowR w a l) (hu : Upd S w w') (hn : ∀ q, a = some q → ¬ S q.block) : RowR w' a l :=
  ⟨h.len, fun i hi => by
    obtain ⟨b, off, h1, h2, h3, h4, h5⟩ := h.at_ i hi
    have hs : ¬ S b := hn _ h1
    exact ⟨b, off, h1, Nat.lt_of_lt_of_le h2 hu.size, by rw [hu.cell (p := ⟨b, off + i * 3, none⟩) h2 hs]; exact h3, by rw [hu.cell (p := ⟨b, off + i * 3 + 1, none⟩) h2 hs]; exact h4, by rw [hu.cell (p := ⟨b, off + i * 3 + 2, none⟩) h2 hs]; exact h5⟩, h.tm⟩
/-- What is left of a log: where it lies; and why there is no more. -/
structure Pp where
  a : Option Addr
  c : Nat
  l : List R
  e : Nat
def Pp.cells (p : Pp) : List Value := [.slice p.a p.l.length p.c, .int .i64 (p.e : Int)]
def pps (l : List Pp) : List Value := l.flatMap Pp.cells
theorem pps_snoc (l : List Pp) (p : Pp) : pps (l ++ [p]) = pps l ++ p.cells := by simp [pps]
theorem pps_at : ∀ (l : List Pp) (i j : Nat) (h : i < l.length), j < 2 → (pps l)[i * 2 + j]? = (l[i].cells)[j]?
  | p :: l, 0, j, _, hj => by
    show (p.cells ++ pps l)[0 * 2 + j]? = _
    rw [List.getElem?_append_left (by show 0 * 2 + j < 2; omega), Nat.zero_mul, Nat.zero_add]; rfl
  | p :: l, i + 1, j, h, hj => by
    show (p.cells ++ pps l)[(i + 1) * 2 + j]? = _
    rw [List.getElem?_append_right (by show 2 ≤ _; omega)]
    show (pps l)[(i + 1) * 2 + j - 2]? = _
    rw [show (i + 1) * 2 + j - 2 = i * 2 + j by omega, pps_at l i j (by simpa using h) hj]
    rfl
/-- Its slice written over. -/
theorem pps_set : ∀ (l : List Pp) (i : Nat) (h : i < l.length) (a : Option Addr) (c : Nat) (r : List R), (pps l).set (i * 2) (.slice a r.length c) = pps (l.set i ⟨a, c, r, l[i].e⟩)
  | p :: l, 0, _, a, c, r => rfl
  | p :: l, i + 1, h, a, c, r => by
    have hi : i < l.length := Nat.lt_of_succ_lt_succ h
    show (p.cells ++ pps l).set ((i + 1) * 2) _ = p.cells ++ pps (l.set i ⟨a, c, r, l[i].e⟩)
    rw [← pps_set l i hi a c r, List.set_append_right _ _ (by show 2 ≤ _; omega)]
    show _ ++ (pps l).set ((i + 1) * 2 - 2) _ = _
    rw [show (i + 1) * 2 - 2 = i * 2 by omega]
structure PpOk (w : World) (p : Pp) : Prop where
  row : RowR w p.a p.l
  le : p.l.length ≤ p.c
  cm : p.c ≤ maxLen
theorem PpOk.upd {S : Nat → Prop} {w w' : World} {p : Pp} (h : PpOk w p) (hu : Upd S w w') (hn : ∀ q, p.a = some q → 0 < p.l.length → ¬ S q.block) : PpOk w' p := by
  refine ⟨?_, h.le, h.cm⟩
  rcases Nat.eq_zero_or_pos p.l.length with h0 | h0
  · exact ⟨h.row.len, fun i hi => by omega, h.row.tm⟩
  · exact h.row.kept25 hu fun q hq => hn q hq h0
theorem PpOk.lt {w : World} {p : Pp} (h : PpOk w p) : ∀ q, p.a = some q → 0 < p.l.length → q.block < w.heap.size := by
  intro q hq h0
  obtain ⟨b, off, e, h1, _⟩ := h.row.at_ 0 h0
  rw [e] at hq
  cases hq
  exact h1
/-- Block g holds the row v of these parts, and the map mb. -/
structure CrsR (B : Nat) (w : World) (g mb : Nat) (v : Value) (ps : List Pp) (ov : Int → Bool) (m : Nat) : Prop where
  blk : At w g [v, .map (some mb)]
  row : Sl B w 2 v ps.length (pps ps)
  map : MapB w mb m ov
  ok : ∀ p ∈ ps, PpOk w p
  ap : ∀ p ∈ ps, ∀ q, p.a = some q → 0 < p.l.length → q.block ≠ g ∧ q.block ≠ mb ∧ v.ownBlock ≠ some q.block
  gm : g ≠ mb
  vg : v.ownBlock ≠ some g
  vm : v.ownBlock ≠ some mb
  og : B ≤ g
  om : B ≤ mb
  fw : ps.length ≤ 10000
section
variable {B : Nat} {w w' : World} {g mb : Nat} {v : Value} {ps : List Pp} {ov : Int → Bool} {m : Nat}
theorem CrsR.on (h : CrsR B w g mb v ps ov m) (hb : Below w.heap.size w w') : CrsR B w' g mb v ps ov m :=
  ⟨h.blk.on hb, h.row.onW hb, h.map.on hb, fun p hp => (h.ok p hp).upd (S := fun k => w.heap.size ≤ k) (Upd.of_below hb (fun _ _ h => h)) (fun q hq h0 => by have := (h.ok p hp).lt q hq h0; omega), h.ap, h.gm, h.vg, h.vm, h.og, h.om, h.fw⟩
/-- The cells of a part. -/
theorem CrsR.part (h : CrsR B w g mb v ps ov m) (i : Nat) (hi : i < ps.length) : ∃ b off c, v = .slice (some ⟨b, off, none⟩) ps.length c ∧ b < w.heap.size ∧ b ≠ g ∧ b ≠ mb ∧ B ≤ b ∧ w.cell? ⟨b, off + i * 2, none⟩ = some (.slice ps[i].a ps[i].l.length ps[i].c) ∧ w.cell? ⟨b, off + i * 2 + 1, none⟩ = some (.int .i64 (ps[i].e : Int)) ∧ w.frozen? ⟨b, off + i * 2, none⟩ = false := by
  rcases h.row.2 with ⟨h1, h2⟩ | ⟨b, off, c, rfl, h2, h3, h4, h5, h6, h7⟩
  · omega
  · refine ⟨b, off, c, rfl, h3, fun e => h.vg (by rw [e]; rfl), fun e => h.vm (by rw [e]; rfl), h2, ?_, ?_, (h7 _ (by omega)).2⟩
    · rw [h6 (i * 2) (by omega)]
      have := pps_at ps i 0 hi (by omega)
      rw [Nat.add_zero] at this
      rw [this]; rfl
    · rw [Nat.add_assoc, h6 (i * 2 + 1) (by omega), pps_at ps i 1 hi (by omega)]; rfl
/-- Less is left of one. -/
theorem CrsR.less {b off c : Nat} (h : CrsR B w g mb (.slice (some ⟨b, off, none⟩) ps.length c) ps ov m) (i : Nat) (hi : i < ps.length) (a' : Option Addr) (c' : Nat) (r : List R) (hr : RowR w a' r) (hle : r.length ≤ c') (hcm : c' ≤ maxLen) (hap : ∀ q, a' = some q → 0 < r.length → ∃ q0, ps[i].a = some q0 ∧ 0 < ps[i].l.length ∧ q0.block = q.block) :
    CrsR B (w.setCell ⟨b, off + i * 2, none⟩ (.slice a' r.length c')) g mb (.slice (some ⟨b, off, none⟩) ps.length c) (ps.set i ⟨a', c', r, ps[i].e⟩) ov m ∧ Upd (fun k => k = b) w (w.setCell ⟨b, off + i * 2, none⟩ (.slice a' r.length c')) := by
  have hu : Upd (fun k => k = b) w (w.setCell ⟨b, off + i * 2, none⟩ (.slice a' r.length c')) := (Upd.refl (fun k => k = b) w).setCell (p := ⟨b, off + i * 2, none⟩) (fun _ => rfl) _
  have hbg : b ≠ g := fun e => h.vg (by rw [e]; rfl)
  have hbm : b ≠ mb := fun e => h.vm (by rw [e]; rfl)
  have hapn : ∀ q, a' = some q → 0 < r.length → q.block ≠ g ∧ q.block ≠ mb ∧ (Value.slice (some ⟨b, off, none⟩) ps.length c).ownBlock ≠ some q.block := by
    intro q hq h0
    obtain ⟨q0, e1, e2, e3⟩ := hap q hq h0
    rw [← e3]
    exact h.ap _ (List.getElem_mem hi) q0 e1 e2
  have hl : (ps.set i ⟨a', c', r, ps[i].e⟩).length = ps.length := List.length_set
  refine ⟨⟨h.blk.upd hu (fun e => hbg e.symm), ?_, h.map.upd hu (fun e => hbm e.symm), fun p hp => ?_, fun p hp => ?_, h.gm, h.vg, h.vm, h.og, h.om, by rw [hl]; exact h.fw⟩, hu⟩
  · rw [hl, ← pps_set ps i hi a' c' r]
    exact h.row.put (i * 2) _ (by omega)
  · rcases List.mem_or_eq_of_mem_set hp with hp | rfl
    · exact (h.ok p hp).upd hu fun q hq h0 e => (h.ap p hp q hq h0).2.2 (by rw [e]; rfl)
    · exact PpOk.upd (p := ⟨a', c', r, ps[i].e⟩) ⟨hr, hle, hcm⟩ hu fun q hq h0 e => (hapn q hq h0).2.2 (by rw [e]; rfl)
  · rcases List.mem_or_eq_of_mem_set hp with hp | rfl
    · exact h.ap p hp
    · exact hapn
/-- The map is written. -/
theorem CrsR.put (h : CrsR B w g mb v ps ov m) (i : Int) (hi : -9223372036854775808 ≤ i ∧ i ≤ 9223372036854775807) (hm : m < maxLen) :
    ∃ w', (Instr.mapUpdate 200 (.map (some mb)) (.int .i64 i) (.bool true)).run Tryz.prog w = .ok () w' ∧ CrsR B w' g mb v ps (putI ov i) (m + 1) ∧ Upd (fun k => k = mb) w w' := by
  obtain ⟨w', hrun, r1, hu⟩ := h.map.put hm i hi
  exact ⟨w', hrun, ⟨h.blk.upd hu h.gm, h.row.upd hu (fun k hk e => h.vm (by rw [hk, e])), r1, fun p hp => (h.ok p hp).upd hu (fun q hq h0 e => (h.ap p hp q hq h0).2.1 e), h.ap, h.gm, h.vg, h.vm, h.og, h.om, h.fw⟩, hu⟩
end
/-- What it holds, told by a course. -/
structure CrsC (B : Nat) (w : World) (g : Nat) (n : Nat) (er : Nat → Nat) (c : Crs) (m mb : Nat) (v : Value) (ps : List Pp) : Prop where
  raw : CrsR B w g mb v ps c.over m
  n : ps.length = n
  left : ∀ i (h : i < ps.length), c.left i = ps[i].l
  er : ∀ i (h : i < ps.length), er i = ps[i].e
theorem CrsC.on {B : Nat} {w w' : World} {g n : Nat} {er : Nat → Nat} {c : Crs} {m mb : Nat} {v : Value} {ps : List Pp} (h : CrsC B w g n er c m mb v ps) (hb : Below w.heap.size w w') : CrsC B w' g n er c m mb v ps := ⟨h.raw.on hb, h.n, h.left, h.er⟩
end Go.Proofs.YtmimfkhkilijcaaGreatDoor

/- judge: Rises, Tagged, Lates. -/
namespace Go.Proofs.YtmimfkhkilijcaaGreatDoor
set_option maxRecDepth 4000
open Go.ChangeShapes Go.WideShapes Go.ChangeAt Go.RowKit
open PHist PRing PSat PClamp PBound PFrame PSign PTree PEv
set_option linter.unusedVariables false
set_option linter.unusedSimpArgs false

theorem RowE.cell {w : World} {b off : Nat} {l : List Ev} (h : RowE w (some ⟨b, off, none⟩) l) (i : Nat) (hi : i < l.length) : b < w.heap.size ∧ w.cell? ⟨b, off + i, none⟩ = some (evv l[i]) := by
  obtain ⟨b', off', e, h1, h2⟩ := h.at_ i hi
  cases e
  exact ⟨h1, h2⟩
theorem lates_take (l : List Ev) (k : Nat) (h : k < l.length) : lates (l.take (k + 1)) = lates (l.take k) + (if Ev.lateB l[k] then 1 else 0) := by
  rw [List.take_succ_eq_append_getElem h, lates_append]
  congr 1
  unfold lates
  generalize l[k] = v
  cases he : Ev.lateB v <;> simp [he]
set_option maxRecDepth 100000 in
set_option maxHeartbeats 2000000 in
theorem ju_lates (a : Option Addr) (n c : Nat) (l : List Ev) (w : World) (hr : RowE w a l) (hn : n = l.length) (hl : n ≤ 1000000) (z : Nat) (hz : lates l = z) :
    Calls Tryz.prog 35 #[.slice a n c] w fun e w' => e = .returned (.int .i64 (z : Int)) ∧ Below w.heap.size w w' := by
  have HN := Lib.hid hn
  have HZ := Lib.hid hz
  clear hn hz
  go_enter Tryz.func35, Tryz.ntmps35
  go_wp2
  go_loopw [3, 10] (fun v i wr => ∃ (k m : Nat), i = .int .i64 k ∧ k ≤ n ∧ v = .int .i64 m ∧ Hid (lates (l.take k) = m) ∧ Below w.heap.size w wr) (fun _ i _ => n - (intOf i).toNat)
  case atStart => exact ⟨0, 0, rfl, Nat.zero_le _, rfl, rfl, Below.refl _ _⟩
  case round =>
    obtain ⟨k, m, rfl, hk, rfl, HM, hb⟩ := hrel
    by_cases hlt : k < n
    · have hk1 : k < l.length := by rw [← HN.out]; exact hlt
      obtain ⟨b, off, rfl, hbl, q0⟩ := (hr.on hb).at_ k hk1
      have hd := lates_take l k hk1
      have hmk : m ≤ k := by have := lates_le (l.take k); rw [HM.out, List.length_take] at this; omega
      rw [HM.out] at hd
      generalize hev : l[k] = ev at *
      have hwB := hb.size
      clear HM hev
      cases ev with
      | mark x =>
        have t1 := ta_e_no1 (.agg #[.int .i64 x])
        simp only [evv] at q0
        have HD2 : Hid (lates (l.take (k + 1)) = m) := hd
        clear hd
        go_wp2
        go_roundw
        case rel => exact ⟨k + 1, m, by go_num, hlt, rfl, HD2, hb.alloc hwB _⟩
        case measure => simp [intOf] <;> omega
      | fault p e =>
        have t1 := ta_e_no2 (.agg #[.int .i64 p, .int .i64 e])
        simp only [evv] at q0
        have HD2 : Hid (lates (l.take (k + 1)) = m) := hd
        clear hd
        go_wp2
        go_roundw
        case rel => exact ⟨k + 1, m, by go_num, hlt, rfl, HD2, hb.alloc hwB _⟩
        case measure => simp [intOf] <;> omega
      | el late p kk t x =>
        have t1 := ta_e_yes p kk t (bstr x) late
        simp only [evv] at q0
        cases late
        · have HD2 : Hid (lates (l.take (k + 1)) = m) := hd
          clear hd
          go_wp2
          go_roundw
          case rel => exact ⟨k + 1, m, by go_num, hlt, rfl, HD2, hb.alloc hwB _⟩
          case measure => simp [intOf] <;> omega
        · have HD2 : Hid (lates (l.take (k + 1)) = m + 1) := hd
          clear hd
          go_wp2
          go_roundw
          case rel => exact ⟨k + 1, m + 1, by go_num, hlt, by go_num, HD2, hb.alloc hwB _⟩
          case measure => simp [intOf] <;> omega
    · obtain rfl : k = n := by omega
      have hz1 := HM.out
      rw [List.take_of_length_le (by rw [← HN.out]; exact Nat.le_refl _), HZ.out] at hz1
      subst hz1
      clear HM HZ
      go_wp2
      go_ret
      exact ⟨rfl, hb⟩
end Go.Proofs.YtmimfkhkilijcaaGreatDoor

/- Contracts of judge's course: what goes on, and an element. -/
namespace Go.Proofs.YtmimfkhkilijcaaGreatDoor
set_option maxRecDepth 4000
open Go.ChangeShapes Go.WideShapes Go.ChangeAt Go.RowKit
open PHist PRing PSat PClamp PBound PFrame PSign PTree PEv
set_option linter.unusedVariables false
set_option linter.unusedSimpArgs false

theorem CrsC.went {B : Nat} {w : World} {g n : Nat} {er : Nat → Nat} {c : Crs} {m mb b off cp : Nat} {ps : List Pp} (h : CrsC B w g n er c m mb (.slice (some ⟨b, off, none⟩) ps.length cp) ps) (i : Nat) (q : Pp) (hq : ∃ hip : i < ps.length, ps[i] = q) (a' : Option Addr) (c' : Nat) (r : List R) (hr : q.l.tail = r) (hrow : RowR w a' r) (hle : r.length ≤ c') (hcm : c' ≤ maxLen) (hap : ∀ p, a' = some p → ∃ p0, q.a = some p0 ∧ p0.block = p.block) (N : Nat) (hN : N = r.length) :
    (∃ mb' v' ps', CrsC B (w.setCell ⟨b, off + i * 2, none⟩ (.slice a' N c')) g n er (c.el i) m mb' v' ps') ∧ Below B w (w.setCell ⟨b, off + i * 2, none⟩ (.slice a' N c')) := by
  subst hN
  obtain ⟨hip, rfl⟩ := hq
  obtain ⟨b', off', c2, e, hbl, hbg, hbm, hBb, -, -, -⟩ := h.raw.part i hip
  cases e
  obtain ⟨h1, h2⟩ := h.raw.less i hip a' c' r hrow hle hcm (fun p hp h0 => by
    obtain ⟨p0, e1, e2⟩ := hap p hp
    refine ⟨p0, e1, ?_, e2⟩
    rw [← hr, List.length_tail] at h0
    omega)
  have hl : (ps.set i ⟨a', c', r, ps[i].e⟩).length = ps.length := List.length_set
  refine ⟨⟨mb, _, _, ⟨h1, by rw [hl]; exact h.n, fun j hj => ?_, fun j hj => ?_⟩⟩, (Below.refl B w).upd h2 (Nat.le_trans h.raw.og (Nat.le_of_lt h.raw.blk.1)) (fun k _ e => by rw [e]; exact hBb)⟩
  · rw [hl] at hj
    show put c.left (i : Int).toNat (c.left (i : Int).toNat).tail j = _
    rw [Int.toNat_natCast, List.getElem_set]
    unfold PTree.put
    by_cases e : i = j
    · subst e
      rw [if_pos rfl, if_pos rfl, h.left i hip]
      exact hr
    · rw [if_neg (fun h => e h.symm), if_neg e]
      exact h.left j hj
  · rw [hl] at hj
    rw [List.getElem_set]
    by_cases e : i = j
    · subst e
      rw [if_pos rfl]; exact h.er i hip
    · rw [if_neg e]; exact h.er j hj
end Go.Proofs.YtmimfkhkilijcaaGreatDoor

/- Contracts of judge's course: a fault. -/
namespace Go.Proofs.YtmimfkhkilijcaaGreatDoor
set_option maxRecDepth 4000
open Go.ChangeShapes Go.WideShapes Go.ChangeAt Go.RowKit
open PHist PRing PSat PClamp PBound PFrame PSign PTree PEv
set_option linter.unusedVariables false
set_option linter.unusedSimpArgs false

end Go.Proofs.YtmimfkhkilijcaaGreatDoor

/- Contracts of judge's course: events one behind the other; whether all is out. -/
namespace Go.Proofs.YtmimfkhkilijcaaGreatDoor
set_option maxRecDepth 4000
open Go.ChangeShapes Go.WideShapes Go.ChangeAt Go.RowKit
open PHist PRing PSat PClamp PBound PFrame PSign PTree PEv
set_option linter.unusedVariables false
set_option linter.unusedSimpArgs false

end Go.Proofs.YtmimfkhkilijcaaGreatDoor

/- judge: Kept and Whole. -/
namespace Go.Proofs.YtmimfkhkilijcaaGreatDoor
set_option maxRecDepth 4000
open Go.ChangeShapes Go.WideShapes Go.ChangeAt Go.RowKit
open PHist PRing PSat PClamp PBound PFrame PSign PTree PEv
set_option linter.unusedVariables false
set_option linter.unusedSimpArgs false

theorem CrsC.more {B : Nat} {w w1 w3 : World} {g n : Nat} {er : Nat → Nat} {c : Crs} {m mb : Nat} {v v' : Value} {ps : List Pp} (h : CrsC B w g n er c m mb v ps) (hb : Below w.heap.size w w1) (p : Pp) (hp : PpOk w1 p) (hpa : ∀ q, p.a = some q → w.heap.size ≤ q.block) (hcl : c.left n = p.l) (her : er n = p.e) (hfw : n < 10000)
    (k1 : Sl B w3 2 v' (n + 1) (pps ps ++ p.cells)) (k2 : Upd (fun k => v.ownBlock = some k) w1 w3) (k3 : ∀ k, v'.ownBlock = some k → v.ownBlock = some k ∨ w1.heap.size ≤ k) :
    CrsC B (w3.setCell ⟨g, 0, none⟩ v') g (n + 1) er c m mb v' (ps ++ [p]) ∧ Below B w1 (w3.setCell ⟨g, 0, none⟩ v') := by
  have h1 := h.on hb
  have hg1 : g < w1.heap.size := h1.raw.blk.1
  have hm1 : mb < w1.heap.size := h1.raw.map.lt
  have hgv : v'.ownBlock ≠ some g := fun e => (k3 g e).elim h.raw.vg (fun h => by omega)
  have hmv : v'.ownBlock ≠ some mb := fun e => (k3 mb e).elim h.raw.vm (fun h => by omega)
  have hu : Upd (fun k => k = g) w3 (w3.setCell ⟨g, 0, none⟩ v') := (Upd.refl (fun k => k = g) w3).setCell (p := ⟨g, 0, none⟩) (fun _ => rfl) _
  have hn := h.n
  have hB1 : B ≤ w1.heap.size := Nat.le_trans h1.raw.og (Nat.le_of_lt hg1)
  have hbx : Below B w1 w3 := (Below.refl B w1).upd k2 hB1 (fun k hk e => (h1.raw.row.lt k e).1)
  have hapN : ∀ q, p.a = some q → 0 < p.l.length → q.block ≠ g ∧ q.block ≠ mb ∧ v'.ownBlock ≠ some q.block := by
    intro q hq h0
    have q1 := hpa q hq
    have q2 := hp.lt q hq h0
    have g0 : g < w.heap.size := h.raw.blk.1
    have m0 : mb < w.heap.size := h.raw.map.lt
    refine ⟨by omega, by omega, fun e => ?_⟩
    rcases k3 _ e with h5 | h5
    · have := (h.raw.row.lt _ h5).2; omega
    · omega
  have hapO : ∀ p2 ∈ ps, ∀ q, p2.a = some q → 0 < p2.l.length → q.block ≠ g ∧ q.block ≠ mb ∧ v'.ownBlock ≠ some q.block := by
    intro p2 hp2 q hq h0
    obtain ⟨a1, a2, a3⟩ := h.raw.ap p2 hp2 q hq h0
    refine ⟨a1, a2, fun e => ?_⟩
    rcases k3 _ e with h5 | h5
    · exact a3 h5
    · have := (h1.raw.ok p2 hp2).lt q hq h0; omega
  refine ⟨⟨⟨?_, ?_, ?_, fun p2 hp2 => ?_, fun p2 hp2 => ?_, h.raw.gm, hgv, hmv, h.raw.og, h.raw.om, by rw [List.length_append, hn]; show n + 1 ≤ 10000; omega⟩, by rw [List.length_append, hn]; rfl, fun i hi => ?_, fun i hi => ?_⟩, hbx.upd hu (Nat.le_trans hB1 hbx.size) (fun k _ e => by rw [e]; exact h.raw.og)⟩
  · exact (h1.raw.blk.upd k2 h.raw.vg).set 0 (by simp) v'
  · rw [List.length_append, hn, pps_snoc]
    exact k1.upd hu (fun k hk e => hgv (by rw [hk, e]))
  · exact (h1.raw.map.upd k2 h.raw.vm).upd hu (fun e => h.raw.gm e.symm)
  · rcases List.mem_append.1 hp2 with hp2 | hp2
    · exact ((h1.raw.ok p2 hp2).upd k2 (fun q hq h0 => (h.raw.ap p2 hp2 q hq h0).2.2)).upd hu (fun q hq h0 e => (hapO p2 hp2 q hq h0).1 e)
    · rw [List.mem_singleton.1 hp2]
      refine (hp.upd k2 (fun q hq h0 e => ?_)).upd hu (fun q hq h0 e => (hapN q hq h0).1 e)
      have q1 := hpa q hq
      have := (h.raw.row.lt _ e).2
      omega
  · rcases List.mem_append.1 hp2 with hp2 | hp2
    · exact hapO p2 hp2
    · rw [List.mem_singleton.1 hp2]; exact hapN
  · rw [List.length_append, hn] at hi
    have hi : i < n + 1 := hi
    rw [List.getElem_append]
    split
    · next hlt => exact h.left i hlt
    · next hge =>
      have e : i = n := by omega
      subst e
      simp [hn]; exact hcl
  · rw [List.length_append, hn] at hi
    have hi : i < n + 1 := hi
    rw [List.getElem_append]
    split
    · next hlt => exact h.er i hlt
    · next hge =>
      have e : i = n := by omega
      subst e
      simp [hn]; exact her

end Go.Proofs.YtmimfkhkilijcaaGreatDoor

/- judge: Kept and Whole. -/
namespace Go.Proofs.YtmimfkhkilijcaaGreatDoor
set_option maxRecDepth 4000
open Go.ChangeShapes Go.WideShapes Go.ChangeAt Go.RowKit
open PHist PRing PSat PClamp PBound PFrame PSign PTree PEv
set_option linter.unusedVariables false
set_option linter.unusedSimpArgs false

end Go.Proofs.YtmimfkhkilijcaaGreatDoor
