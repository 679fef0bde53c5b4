/- Partitions as values, and rows of them. -/
import Derived.Test.YtoecikeleoaecaaGreatStPlain
import Derived.Test.YtoecikeleoaecaaGreatAtTen
import Derived.Test.YtoecikeleoaecaaGreatKBase
import Derived.Test.YtoecikeleoaecaaGreatKRec
namespace Go.Proofs.YtoecikeleoaecaaGreat
set_option maxRecDepth 4000
open Go.ChangeShapes Go.WideShapes Go.ChangeAt Go.RowKit
open PHist PRing PSat PClamp PBound PFrame PSign PTree PEv
set_option linter.unusedVariables false
set_option linter.unusedSimpArgs false

/-- A part of a slice, up to place hi. -/
theorem part_to {P : Program} {a : Option Addr} {n c m : Nat} {t e : TypeId} (hm : c ≤ maxLen) (ht : P.underlying t = some (.slice e)) (hz : ∀ w, (Go.sizeOf e).run P w = .ok m w) (hi : Nat) (zh : Int) (hzh : zh = hi) (hhi : hi ≤ c) (w' : World) :
    (Instr.slice t (.slice a n c) none (some (.int .i64 zh)) none).run P w' = .ok (.slice a hi c) w' := by
  subst hzh
  have ht' : P.underlying t = some (.slice (P.elem t)) := by simp [Program.elem, ht]
  have he : P.elem t = e := by simp [Program.elem, ht]
  unfold maxLen at hm
  have h0a : a.map (·.add 0) = a := by cases a with
    | none => rfl
    | some a => show some (a.add 0) = some a; unfold Addr.add; simp
  rw [run_slice_h w' t a n c ht' .i64 (hi : Int) (by omega) (by omega), he, hz]
  simp only [Result.andThen, sliced, Int.toNat_natCast, Nat.zero_mul, Nat.sub_zero, h0a]
  by_cases h : c = 0 <;> simp [h]

/-- A partition, and where its records lie. -/
structure Pv where
  p : Pt
  a : Option Addr
  c : Nat
def Pv.cells (v : Pv) : List Value := [.int .i64 v.p.rule.kind, .int .i64 v.p.rule.bound, .int .i64 v.p.rule.pct, .int .i64 v.p.rule.win, .int .i64 v.p.rule.sign, .slice v.a v.p.recs.length v.c, .int .i64 v.p.err, .int .i64 v.p.read, .int .i64 v.p.is, .int .i64 v.p.til]
abbrev Pv.val (v : Pv) : Value := .agg #[.int .i64 v.p.rule.kind, .int .i64 v.p.rule.bound, .int .i64 v.p.rule.pct, .int .i64 v.p.rule.win, .int .i64 v.p.rule.sign, .slice v.a v.p.recs.length v.c, .int .i64 v.p.err, .int .i64 v.p.read, .int .i64 v.p.is, .int .i64 v.p.til]
theorem Pv.cells_one (v : Pv) : ∀ u ∈ v.cells, u.oneCell' = true := by
  intro u hu
  simp only [Pv.cells, List.mem_cons, List.not_mem_nil, or_false] at hu
  rcases hu with rfl | rfl | rfl | rfl | rfl | rfl | rfl | rfl | rfl | rfl <;> rfl
/-- Its records can be read. -/
structure PvOk (w : World) (v : Pv) : Prop where
  row : RowR w v.a v.p.recs
  le : v.p.recs.length ≤ v.c
  cap : v.c ≤ maxLen
theorem PvOk.on {w w' : World} {v : Pv} (h : PvOk w v) (hb : Below w.heap.size w w') : PvOk w' v := ⟨h.row.on hb, h.le, h.cap⟩
structure RowP (w : World) (a : Option Addr) (l : List Pv) : Prop where
  row : RowG w 10 Pv.cells a l
  ok : ∀ v ∈ l, PvOk w v
theorem RowP.on {w w' : World} {a : Option Addr} {l : List Pv} (h : RowP w a l) (hb : Below w.heap.size w w') : RowP w' a l := ⟨h.row.below hb, fun v hv => (h.ok v hv).on hb⟩
theorem RowP.cell {w : World} {b off : Nat} {l : List Pv} (h : RowP w (some ⟨b, off, none⟩) l) (k : Nat) (hk : k < l.length) :
    b < w.heap.size ∧ w.cell? ⟨b, off + k * 10, none⟩ = some (.int .i64 l[k].p.rule.kind) ∧ w.cell? ⟨b, off + k * 10 + 1, none⟩ = some (.int .i64 l[k].p.rule.bound) ∧ w.cell? ⟨b, off + k * 10 + 2, none⟩ = some (.int .i64 l[k].p.rule.pct) ∧ w.cell? ⟨b, off + k * 10 + 3, none⟩ = some (.int .i64 l[k].p.rule.win) ∧ w.cell? ⟨b, off + k * 10 + 4, none⟩ = some (.int .i64 l[k].p.rule.sign) ∧
    w.cell? ⟨b, off + k * 10 + 5, none⟩ = some (.slice l[k].a l[k].p.recs.length l[k].c) ∧ w.cell? ⟨b, off + k * 10 + 6, none⟩ = some (.int .i64 l[k].p.err) ∧ w.cell? ⟨b, off + k * 10 + 7, none⟩ = some (.int .i64 l[k].p.read) ∧ w.cell? ⟨b, off + k * 10 + 8, none⟩ = some (.int .i64 l[k].p.is) ∧ w.cell? ⟨b, off + k * 10 + 9, none⟩ = some (.int .i64 l[k].p.til) := by
  obtain ⟨h1, h2⟩ := h.row.cell k hk
  exact ⟨h1, h2 0 (by omega), h2 1 (by omega), h2 2 (by omega), h2 3 (by omega), h2 4 (by omega), h2 5 (by omega), h2 6 (by omega), h2 7 (by omega), h2 8 (by omega), h2 9 (by omega)⟩
theorem RowP.nil (w : World) (a : Option Addr) : RowP w a [] := ⟨⟨fun i h => by cases h⟩, fun v h => by cases h⟩
def pvs (l : List Pv) : List Value := l.flatMap Pv.cells
theorem pvs_snoc (l : List Pv) (v : Pv) : pvs (l ++ [v]) = pvs l ++ v.cells := by simp [pvs]
theorem pvs_len : ∀ l : List Pv, (pvs l).length = l.length * 10
  | [] => rfl
  | v :: l => by
    show (v.cells ++ pvs l).length = _
    rw [List.length_append, pvs_len l, List.length_cons]
    show 10 + _ = _
    omega
theorem pvs_at : ∀ (l : List Pv) (i j : Nat) (h : i < l.length), j < 10 → (pvs l)[i * 10 + j]? = (l[i].cells)[j]?
  | v :: l, 0, j, _, hj => by
    show (v.cells ++ pvs l)[0 * 10 + j]? = _
    rw [List.getElem?_append_left (by show 0 * 10 + j < 10; omega), Nat.zero_mul, Nat.zero_add]; rfl
  | v :: l, i + 1, j, h, hj => by
    show (v.cells ++ pvs l)[(i + 1) * 10 + j]? = _
    rw [List.getElem?_append_right (by show 10 ≤ _; omega)]
    show (pvs l)[(i + 1) * 10 + j - 10]? = _
    rw [show (i + 1) * 10 + j - 10 = i * 10 + j by omega, pvs_at l i j (by simpa using h) hj]
    rfl
theorem pvs_one (l : List Pv) : ∀ u ∈ pvs l, u.oneCell' = true := by
  intro u hu
  obtain ⟨v, _, hv⟩ := List.mem_flatMap.1 hu
  exact v.cells_one u hv
/-- A row of one's own can be read. -/
theorem RowP.of_sl {B : Nat} {w : World} {a : Option Addr} {n c : Nat} {l : List Pv} (h : Sl B w 10 (.slice a n c) n (pvs l)) (hn : n = l.length) (ho : ∀ v ∈ l, PvOk w v) : RowP w a l := by
  refine ⟨⟨fun i hi => ?_⟩, ho⟩
  rcases h.2 with ⟨h1, h2⟩ | ⟨g, off, cap, h1, h2, h3, h4, h5, h6, h7⟩
  · omega
  · simp only [Value.slice.injEq] at h1
    refine ⟨g, off, h1.1, h3, fun j hj => ?_⟩
    rw [← pvs_at l i j hi hj, Nat.add_assoc]
    exact h6 _ (by omega)
theorem info_pv : (Tryz.prog.info? 58).map (fun i => (i.zero, i.size, i.bytes)) = some (some (.agg #[.int .i64 0, .int .i64 0, .int .i64 0, .int .i64 0, .int .i64 0, .slice none 0 0, .int .i64 0, .int .i64 0, .int .i64 0, .int .i64 0]), 10, 96) := by kernel_rfl
/-- A row that is read, as what is appended. -/
theorem src_pv {P : Program} {tx e' : TypeId} (hk : P.underlying tx = some (.slice e')) (w : World) (a : Option Addr) (n c : Nat) (l : List Pv) (h : RowP w a l) (hn : l.length = n) : Src P 10 tx (.slice a n c) n (pvs l) w := by
  subst hn
  by_cases h0 : l.length = 0
  · have e : l = [] := List.eq_nil_of_length_eq_zero h0
    subst e
    cases a with
    | none => exact Src.ofNil w hk _
    | some p => exact Src.ofSlice w hk p 0 c [] (by simp) (fun j u hu => by simp at hu) (fun u hu => by cases hu)
  · obtain ⟨b, off, rfl, -, -⟩ := h.row.at_ 0 (by omega)
    refine Src.ofSlice w hk _ _ _ _ (pvs_len l) (fun j u hu => ?_) (pvs_one l)
    have hj := (List.getElem?_eq_some_iff.1 hu).1
    rw [pvs_len] at hj
    have hq : j / 10 < l.length := by omega
    have e := pvs_at l (j / 10) (j % 10) hq (by omega)
    rw [show j / 10 * 10 + j % 10 = j by omega, hu] at e
    have h2 := (h.row.cell (j / 10) hq).2 (j % 10) (by omega)
    rw [Addr.add_lit, show off + j = off + j / 10 * 10 + j % 10 by omega, h2, ← e]
end Go.Proofs.YtoecikeleoaecaaGreat
