/- KEvV; KEvA; EEnvMet: what is reached of them. -/
import Derived.Deep.DeepCutAuto
import Derived.Deep.RegionHeld3
import Derived.LoopIn
import Derived.LoopNIn
import Derived.OwnWalkIn
import Derived.RangeFuncBox
import Derived.RangeFuncLeaves
import Derived.Shelf.Abstract
import Derived.TacticsInMore
import Derived.Test.YtmimfkhkilijcaaGreatDoorPr01
import Derived.Test.YtmimfkhkilijcaaGreatDoorPr02
import Derived.Test.YtmimfkhkilijcaaGreatDoorPr04
import Derived.Test.YtmimfkhkilijcaaGreatDoorPr09
import Derived.Test.YtmimfkhkilijcaaGreatDoorPr10
import Derived.Test.YtmimfkhkilijcaaGreatDoorPr11
import Derived.Test.YtmimfkhkilijcaaGreatDoorPr12
import Derived.Test.YtmimfkhkilijcaaGreatDoorPr13
import Derived.Test.YtmimfkhkilijcaaGreatDoorPr14
namespace Go.Proofs.YtmimfkhkilijcaaGreatDoor.PEv
open Go.Proofs.YtmimfkhkilijcaaGreatDoor
set_option linter.unusedVariables false

/-- An event. -/
inductive Ev where
  | el (late : Bool) (part kind time : Int) (text : List UInt8)
  | mark (n : Int)
  | fault (part err : Int)
def Ev.ok : Ev → Prop
  | .el _ p k t _ => in64 p ∧ in64 k ∧ in64 t
  | .mark n => in64 n
  | .fault p e => in64 p ∧ in64 e
def etext : Ev → List UInt8
  | .el _ _ _ _ x => x
  | _ => []
end Go.Proofs.YtmimfkhkilijcaaGreatDoor.PEv

/- Events as values, rows of them, and events as plain data. -/
namespace Go.Proofs.YtmimfkhkilijcaaGreatDoor
set_option maxRecDepth 4000
open Go.ChangeShapes Go.WideShapes Go.ChangeAt Go.RowKit
open PEv
set_option linter.unusedVariables false
set_option linter.unusedSimpArgs false

theorem cell_kept {w w' : World} (hb : Below w.heap.size w w') {p : Addr} {v : Value} (h : w.cell? p = some v) : w'.cell? p = some v := (hb.cell (cell_lt h)).trans h
/-- An event's value. -/
def evv : Ev → Value
  | .el late p k t x => .iface 130 (.agg #[.int .i64 p, .int .i64 k, .int .i64 t, .string (bstr x), .bool late])
  | .mark n => .iface 125 (.agg #[.int .i64 n])
  | .fault p e => .iface 127 (.agg #[.int .i64 p, .int .i64 e])
/-- An event as plain data: its cells. -/
def evc : Ev → List Value
  | .el late p k t x => [.int .i64 0, .int .i64 p, .int .i64 k, .int .i64 t, .string (bstr x), .bool late, .int .i64 0, .int .i64 0]
  | .mark n => [.int .i64 1, .int .i64 0, .int .i64 0, .int .i64 0, .string ⟨#[]⟩, .bool false, .int .i64 n, .int .i64 0]
  | .fault p e => [.int .i64 2, .int .i64 p, .int .i64 0, .int .i64 0, .string ⟨#[]⟩, .bool false, .int .i64 0, .int .i64 e]
def evr (v : Ev) : Value := .agg (evc v).toArray
/-- A row of events that can be read, from this place on. -/
structure RowE (w : World) (a : Option Addr) (l : List Ev) : Prop where
  at_ : ∀ (i : Nat) (h : i < l.length), ∃ b off, a = some ⟨b, off, none⟩ ∧ b < w.heap.size ∧ w.cell? ⟨b, off + i, none⟩ = some (evv l[i])
theorem RowE.on {w w' : World} {a : Option Addr} {l : List Ev} (h : RowE w a l) (hb : Below w.heap.size w w') : RowE w' a l :=
  ⟨fun i hi => by
    obtain ⟨b, off, h1, h2, h3⟩ := h.at_ i hi
    exact ⟨b, off, h1, Nat.lt_of_lt_of_le h2 hb.size, by rw [hb.cell (p := ⟨b, off + i, none⟩) h2]; exact h3⟩⟩
theorem RowE.nil (w : World) (a : Option Addr) : RowE w a [] := ⟨fun i h => by cases h⟩
theorem src_cells {P : Program} {tx e' : TypeId} (hk : P.underlying tx = some (.slice e')) (w : World) (L : List Value) (e : TypeId) (N : Nat) (hN : w.heap.size = N) (m : Nat) (hm : L.length = m) (ho : ∀ u ∈ L, u.oneCell' = true) :
    Src P m tx (.slice (some ⟨N, 0, none⟩) 1 1) 1 L (w.alloc (.cells L.toArray e)) := by
  subst hN
  refine Src.ofSlice _ hk ⟨w.heap.size, 0, none⟩ 1 1 L (by rw [hm, Nat.one_mul]) (fun j u hx => ?_) ho
  have ha := At.alloc w L e
  obtain ⟨hj, rfl⟩ := List.getElem?_eq_some_iff.1 hx
  rw [Addr.add_lit, Nat.zero_add]
  exact (ha.2 j hj).1
theorem ta_e_yes (p k t : Int) (x : ByteArray) (late : Bool) (w : World) : (Instr.typeAssert (.iface 130 (.agg #[.int .i64 p, .int .i64 k, .int .i64 t, .string x, .bool late])) 71 130 true).run Tryz.prog w = .ok (.tuple #[.agg #[.int .i64 p, .int .i64 k, .int .i64 t, .string x, .bool late], .bool true]) w := by kernel_rfl
theorem ta_e_no1 (v : Value) (w : World) : (Instr.typeAssert (.iface 125 v) 71 130 true).run Tryz.prog w = .ok (.tuple #[.agg #[.int .i64 0, .int .i64 0, .int .i64 0, .string ⟨#[]⟩, .bool false], .bool false]) w := by kernel_rfl
theorem ta_e_no2 (v : Value) (w : World) : (Instr.typeAssert (.iface 127 v) 71 130 true).run Tryz.prog w = .ok (.tuple #[.agg #[.int .i64 0, .int .i64 0, .int .i64 0, .string ⟨#[]⟩, .bool false], .bool false]) w := by kernel_rfl
theorem evv_ifc (v : Ev) : ∃ t x, evv v = .iface t x := by cases v <;> exact ⟨_, _, rfl⟩
theorem rowe_of_sl {B : Nat} {w : World} {v : Value} {n : Nat} {l : List Ev} (h : Sl B w 1 v n (l.map evv)) : n = l.length ∧ ∃ a c, v = .slice a l.length c ∧ RowE w a l := by
  have hl := h.1
  rw [List.length_map] at hl
  have hn : n = l.length := by omega
  subst hn
  refine ⟨rfl, ?_⟩
  rcases h.2 with ⟨rfl, h0⟩ | ⟨g, off, cap, rfl, hb, hg, h1, h2, h3, h4⟩
  · exact ⟨_, _, by rw [h0], ⟨fun i hi => by omega⟩⟩
  · exact ⟨_, _, rfl, ⟨fun i hi => ⟨g, off, rfl, hg, by rw [h3 i (by omega)]; simp [hi]⟩⟩⟩
end Go.Proofs.YtmimfkhkilijcaaGreatDoor

/- event: Last. -/
namespace Go.Proofs.YtmimfkhkilijcaaGreatDoor
set_option maxRecDepth 4000
open Go.ChangeShapes Go.WideShapes Go.ChangeAt Go.RowKit Go.Shelf
open PEv
set_option linter.unusedVariables false
set_option linter.unusedSimpArgs false

attribute [local go_sem] Oper.semAt_some

/-- What has come when k rounds are over. -/
def back (l : List Ev) (j : Nat) : Nat × Ev := (l.length - 1 - j, l[l.length - 1 - j]?.getD (.mark 0))
end Go.Proofs.YtmimfkhkilijcaaGreatDoor
namespace Go.Proofs.YtmimfkhkilijcaaGreatDoor.PEv
open Go.Lib
open Go.Proofs.YtmimfkhkilijcaaGreatDoor
open PWord PSign PHex PQuote
set_option linter.unusedVariables false

abbrev tElement : List UInt8 := [101, 108, 101, 109, 101, 110, 116]
abbrev tLate : List UInt8 := [108, 97, 116, 101]
abbrev tMark : List UInt8 := [109, 97, 114, 107]
abbrev tFault : List UInt8 := [102, 97, 117, 108, 116]

def elName (late : Bool) : List UInt8 := if late then tLate else tElement
/-- It in words. -/
def eline : Ev → List UInt8
  | .el late p k t x => lineOf (elName late) [p, k, t] ++ 32 :: quote x
  | .mark n => lineOf tMark [n]
  | .fault p e => lineOf tFault [p, e]
/-- What is behind an element's name. -/
def rel (U : List UInt8 → Option (List UInt8)) (late : Bool) (b : List UInt8) : Option Ev :=
  match cuts 32 3 b with
  | [a1, a2, a3, q] => match nums [a1, a2, a3], U q with
    | some [p, k, t], some x => some (.el late p k t x)
    | _, _ => none
  | _ => none
/-! ### Which signs a line has -/

theorem dig_seen : ∀ d, d < 16 → 32 ≤ (dig d).toNat ∧ (dig d).toNat ≤ 126 := by decide
theorem hex_seen (n : Nat) : ∀ c ∈ hex n, 32 ≤ c.toNat ∧ c.toNat ≤ 126 := by
  intro c hc
  obtain ⟨d, hd, rfl⟩ := hex_mem n hc
  exact dig_seen d hd
theorem told_seen (n : Int) : ∀ c ∈ told n, 32 ≤ c.toNat ∧ c.toNat ≤ 126 := by
  intro c hc
  unfold told at hc
  split at hc
  · rcases List.mem_append.1 hc with h | h
    · simp only [List.mem_cons, List.not_mem_nil, or_false] at h
      rcases h with rfl | rfl <;> decide
    · exact hex_seen _ c h
  · split at hc
    · rcases List.mem_append.1 hc with h | h
      · rcases List.mem_append.1 h with h | h
        · simp only [List.mem_cons, List.not_mem_nil, or_false] at h
          rcases h with rfl | rfl | rfl <;> decide
        · exact hex_seen _ c h
      · simp only [List.mem_cons, List.not_mem_nil, or_false] at h
        subst h
        decide
    · split at hc
      · simp only [List.mem_cons, List.not_mem_nil, or_false] at hc
        rcases hc with rfl | rfl
        · decide
        · rw [UInt8.toNat_ofNat']; omega
      · simp only [List.mem_cons, List.not_mem_nil, or_false] at hc
        subst hc
        rw [UInt8.toNat_ofNat']; omega
theorem quote_seen (l : List UInt8) : ∀ c ∈ quote l, 32 ≤ c.toNat ∧ c.toNat ≤ 126 := by
  intro c hc
  unfold quote at hc
  rcases List.mem_append.1 hc with h | h
  · rcases List.mem_cons.1 h with rfl | h
    · decide
    · unfold toldAll at h
      obtain ⟨n, _, hn⟩ := List.mem_flatMap.1 h
      exact told_seen n c hn
  · simp only [List.mem_cons, List.not_mem_nil, or_false] at h
    subst h
    decide
theorem quote_10 (l : List UInt8) : (10 : UInt8) ∉ quote l := fun h => by have := (quote_seen l _ h).1; revert this; decide
theorem quote_big (l : List UInt8) : (quote l).length ≤ 10 * l.length + 2 := by
  unfold quote
  have h1 := toldAll_len (signs l) (signs_range l)
  have h2 := signs_len l
  simp only [List.length_append, List.length_cons, List.length_nil]
  omega
theorem eline_len (e : Ev) (h : e.ok) : (eline e).length ≤ 100 + 10 * (etext e).length := by
  cases e with
  | el late p k t x =>
    obtain ⟨h1, h2, h3⟩ := h
    have a := lineOf_len (elName late) [p, k, t] (by cases late <;> decide) (by simp [h1, h2, h3])
    have b := quote_big x
    simp only [List.length_cons, List.length_nil] at a
    simp only [eline, etext]
    rw [List.length_append, List.length_cons]
    omega
  | mark n =>
    have a := lineOf_len tMark [n] (by decide) (by intro y hy; rw [List.mem_singleton] at hy; subst hy; exact h)
    simp only [List.length_cons, List.length_nil] at a
    simp only [eline]
    omega
  | fault p n =>
    obtain ⟨h1, h2⟩ := h
    have a := lineOf_len tFault [p, n] (by decide) (by simp [h1, h2])
    simp only [List.length_cons, List.length_nil] at a
    simp only [eline]
    omega
end Go.Proofs.YtmimfkhkilijcaaGreatDoor.PEv

/- event: what is read of a line. -/
namespace Go.Proofs.YtmimfkhkilijcaaGreatDoor
set_option maxRecDepth 4000
open Go.ChangeShapes Go.WideShapes Go.ChangeAt Go.RowKit
open PWord PQuote PSign PEv
open Go.Lib (itoa)
set_option linter.unusedVariables false
set_option linter.unusedSimpArgs false

/-- What the library's own variables hold, for words and for marks. -/
structure EnvE (w : World) : Prop where
  wd : EnvW w
  qu : Env w
theorem EnvE.on {w w' : World} (h : EnvE w) (hb : Below w.heap.size w w') : EnvE w' := ⟨h.wd.on hb, h.qu.on hb⟩

/-! ### Numbers alone -/

end Go.Proofs.YtmimfkhkilijcaaGreatDoor

/- event: an element, read; whatever event a line tells. -/
namespace Go.Proofs.YtmimfkhkilijcaaGreatDoor
set_option maxRecDepth 4000
open Go.ChangeShapes Go.WideShapes Go.ChangeAt Go.RowKit
open PWord PQuote PSign PEv
open Go.Lib (itoa)
set_option linter.unusedVariables false
set_option linter.unusedSimpArgs false

end Go.Proofs.YtmimfkhkilijcaaGreatDoor

/- event: the event of a line. -/
namespace Go.Proofs.YtmimfkhkilijcaaGreatDoor
set_option maxRecDepth 4000
open Go.ChangeShapes Go.WideShapes Go.ChangeAt Go.RowKit
open PWord PQuote PSign PEv
open Go.Lib (itoa)
set_option linter.unusedVariables false
set_option linter.unusedSimpArgs false

end Go.Proofs.YtmimfkhkilijcaaGreatDoor

/- The document's own lines; events as plain data. -/
namespace Go.Proofs.YtmimfkhkilijcaaGreatDoor
set_option maxRecDepth 4000
open Go.ChangeShapes Go.WideShapes Go.ChangeAt Go.RowKit
open PWord PQuote PSign PEv
open Go.Lib (itoa)
set_option linter.unusedVariables false
set_option linter.unusedSimpArgs false

theorem tx_lets (a b : List UInt8) (h : a.length + b.length ≤ 9223372036854775807) : ∃ t, bstr (a ++ b) = t ∧ ∀ w, (Op.stringOp .add (bstr a) (bstr b)).run Tryz.prog w = .ok (.string t) w := ⟨_, rfl, fun w => tx_run w a b h⟩
theorem eline_mark (n : Int) : eline (.mark n) = [109, 97, 114, 107, 32] ++ itoa n := by simp [eline, lineOf, glue]
end Go.Proofs.YtmimfkhkilijcaaGreatDoor
namespace Go.Proofs.YtmimfkhkilijcaaGreatDoor
set_option maxRecDepth 4000
open Go.ChangeShapes Go.WideShapes Go.ChangeAt Go.RowKit
set_option linter.unusedVariables false

abbrev tab64e : List Int := [0, 1, 56, 2, 57, 49, 28, 3, 61, 58, 42, 50, 38, 29, 17, 4, 62, 47, 59, 36, 45, 43, 51, 22, 53, 39, 33, 30, 24, 18, 12, 5, 63, 55, 48, 27, 60, 41, 37, 16, 46, 35, 44, 21, 52, 32, 23, 11, 54, 26, 40, 15, 34, 20, 31, 10, 25, 14, 19, 9, 13, 8, 7, 6]
theorem gTabE : Tryz.prog.globalNamed "math/bits.deBruijn64tab" = some 8 := by kernel_rfl

theorem enve_of_laid {l : List (String × DataW Unit)} {w : World} (hsh : w.ShapedOpen Tryz.prog) (h : laidMetH Tryz.prog l w) (hp : (l.all fun x => x.2.handleName?.isNone) = true)
    (h1 : ("internal/strconv.uint64pow10", Rows.laid_internal_strconv_uint64pow10) ∈ l) (h2 : ("strconv.ErrSyntax", Rows.laid_strconv_ErrSyntax) ∈ l) (h3 : ("strconv.ErrRange", Rows.laid_strconv_ErrRange) ∈ l)
    (h4 : ("math/bits.deBruijn64tab", Rows.laid_math_bits_deBruijn64tab) ∈ l) : EnvE w := by
  have hw := envw_of_laid hsh h hp h1 h2 h3
  rw [MakeChecks.laidMetH_plain _ _ _ hp] at h
  obtain ⟨r, h1'⟩ := laid_at h h4
  have ht : Lib.TabIs Tryz.prog w "math/bits.deBruijn64tab" .u8 tab64e := Lib.tabIs_of_head gTabE (by kernel_rfl) Tryz.underlying350 Tryz.underlying5 (by kernel_rfl) (by kernel_rfl) h1'
  have hn : w.cell? ⟨9 - 1, 0, none⟩ = _ := ht.cell gTabE 0 (by decide)
  have hlt : 9 - 1 < w.heap.size := cell_lt hn
  exact ⟨hw, ⟨by omega, hw.syn, hw.rng, ht.cell gTabE 15 (by decide)⟩⟩
end Go.Proofs.YtmimfkhkilijcaaGreatDoor
