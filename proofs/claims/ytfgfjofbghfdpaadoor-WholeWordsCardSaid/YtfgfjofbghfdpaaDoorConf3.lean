/- config: the rule that a line tells. -/
import Derived.Test.YtfgfjofbghfdpaaDoorConf2
namespace Go.Proofs.YtfgfjofbghfdpaaDoor
set_option maxRecDepth 4000
open Go.ChangeShapes Go.WideShapes Go.ChangeAt Go.RowKit
open PWord
open Go.Lib (itoa)
set_option linter.unusedVariables false
set_option linter.unusedSimpArgs false

theorem split_in64 (l : List UInt8) : ∀ n ∈ (split l).2, in64 n := by
  intro n hn
  by_cases h : (split l).2 = []
  · rw [h] at hn; cases hn
  · exact (split_back (l := l) (name := (split l).1) (ns := (split l).2) rfl h).2 n hn

/-- A name, and numbers, as a row that is read. -/
def SplitRow (p : List UInt8 × List Int) (w : World) (e : Ending) (w' : World) : Prop :=
  ∃ a c, e = .returned (.tuple #[.string (bstr p.1), .slice a p.2.length c]) ∧ RowI w' .i64 a p.2 ∧ Below w.heap.size w w'
theorem cf_split2 (s : ByteArray) (w : World) (he : EnvW w) (hs : s.size ≤ 1000000) :
    Calls Tryd.prog 41 #[.string s] w (SplitRow (split s.data.toList) w) :=
  (cf_split s w he hs).mono fun e w' ⟨v, h1, h2, h3⟩ => by
    obtain ⟨-, a, c, rfl, hr⟩ := rowi_of_sl h2 (split_in64 _)
    exact ⟨a, c, h1, hr, h3⟩

def ruleOfP (name : List UInt8) (ns : List Int) : Option Rul :=
  match ns with
  | [a] => if name = tBounded then some ⟨0, a, 0, 0, 0⟩ else if name = tMarked then some ⟨1, 0, 0, 0, a⟩ else none
  | [a, b] => if name = tPercent then some ⟨2, 0, a, b, 0⟩ else none
  | _ => none
theorem ruleOf_eq (l : List UInt8) : ruleOf l = ruleOfP (split l).1 (split l).2 := rfl

abbrev zRul : Rul := ⟨0, 0, 0, 0, 0⟩
def RulOut (o : Option Rul) (w : World) (e : Ending) (w' : World) : Prop := e = .returned (.tuple #[(o.getD zRul).val, .bool o.isSome]) ∧ Below w.heap.size w w'

theorem text_ne {a b : List UInt8} (h : a ≠ b) : ((bstr a).toList == (bstr b).toList) = false := by
  rw [Lib.toList_data, Lib.toList_data, beq_eq_false_iff_ne]
  exact h

set_option maxRecDepth 100000 in
set_option maxHeartbeats 1000000 in
theorem cf_ruleOf (s : ByteArray) (w : World) (he : EnvW w) (hn : Names w) (hs : s.size ≤ 1000000) :
    Calls Tryd.prog 42 #[.string s] w (RulOut (ruleOf s.data.toList) w) := by
  rw [ruleOf_eq]
  have hA := At.alloc w [.int .i64 0, .int .i64 0, .int .i64 0, .int .i64 0, .int .i64 0] 31
  have hb0 : Below w.heap.size w (w.alloc (.cells #[.int .i64 0, .int .i64 0, .int .i64 0, .int .i64 0, .int .i64 0] 31)) := (Below.refl _ _).alloc (Nat.le_refl _) _
  have HSP := Lib.hid (cf_split2 s _ (he.on hb0) hs)
  have hn0 := hn.on hb0
  clear he hn
  generalize split s.data.toList = p at *
  obtain ⟨name, ns⟩ := p
  simp only
  by_cases k0 : name = tBounded
  · subst k0
    by_cases hl : ns.length = 1
    · obtain ⟨x, rfl⟩ := List.length_eq_one_iff.1 hl
      have ho : ruleOfP tBounded [x] = some ⟨0, x, 0, 0, 0⟩ := by simp [ruleOfP]
      rw [ho]
      clear ho hl
      go_enter Tryd.func42, Tryd.ntmps42
      go_wp2_with (go_at_call 41; refine HSP.out.mono ?_; rintro e w1 ⟨a, c, rfl, hR, hb1⟩; obtain ⟨n0, n1, n2⟩ := hn0.on hb1; obtain ⟨b, off, rfl, hbl, q0⟩ := hR.at_ 0 (by simp); rw [Nat.add_zero] at q0; simp only [List.getElem_cons_zero] at q0; obtain ⟨hg, c0, z0, c1, z1, c2, z2, c3, z3, c4, z4⟩ := (hA.on hb1).five; obtain ⟨p0, p1, p2, p3, p4⟩ := (hA.on hb1).put5)
      exact bodyPost_ret (v := .tuple #[.agg #[.int .i64 0, .int .i64 x, .int .i64 0, .int .i64 0, .int .i64 0], .bool true]) (by simp [results, Tryd.results42, go_sem, p0, p1, p2, p3, p4, hg]) rfl ⟨rfl, ((((((on_below hb0 hb1).setCell (Nat.le_refl _) _).setCell (Nat.le_refl _) _).setCell (Nat.le_refl _) _).setCell (Nat.le_refl _) _).setCell (Nat.le_refl _) _)⟩
    · have ho : ruleOfP tBounded ns = none := by
        unfold ruleOfP
        split <;> simp_all
      rw [ho]
      have hl' : ((ns.length : Int) == 1) = false := by simp; omega
      clear ho hl
      go_enter Tryd.func42, Tryd.ntmps42
      go_wp2_with (go_at_call 41; refine HSP.out.mono ?_; rintro e w1 ⟨a, c, rfl, hR, hb1⟩; obtain ⟨n0, n1, n2⟩ := hn0.on hb1; obtain ⟨hg, c0, z0, c1, z1, c2, z2, c3, z3, c4, z4⟩ := (hA.on hb1).five; obtain ⟨p0, p1, p2, p3, p4⟩ := (hA.on hb1).put5)
      exact bodyPost_ret (v := .tuple #[.agg #[.int .i64 0, .int .i64 0, .int .i64 0, .int .i64 0, .int .i64 0], .bool false]) (by simp [results, Tryd.results42, go_sem, p0, p1, p2, p3, p4, hg]) rfl ⟨rfl, ((((((on_below hb0 hb1).setCell (Nat.le_refl _) _).setCell (Nat.le_refl _) _).setCell (Nat.le_refl _) _).setCell (Nat.le_refl _) _).setCell (Nat.le_refl _) _)⟩
  by_cases k1 : name = tMarked
  · subst k1
    by_cases hl : ns.length = 1
    · obtain ⟨x, rfl⟩ := List.length_eq_one_iff.1 hl
      have ho : ruleOfP tMarked [x] = some ⟨1, 0, 0, 0, x⟩ := by simp [ruleOfP]
      rw [ho]
      clear ho hl
      go_enter Tryd.func42, Tryd.ntmps42
      go_wp2_with (go_at_call 41; refine HSP.out.mono ?_; rintro e w1 ⟨a, c, rfl, hR, hb1⟩; obtain ⟨n0, n1, n2⟩ := hn0.on hb1; obtain ⟨b, off, rfl, hbl, q0⟩ := hR.at_ 0 (by simp); rw [Nat.add_zero] at q0; simp only [List.getElem_cons_zero] at q0; obtain ⟨hg, c0, z0, c1, z1, c2, z2, c3, z3, c4, z4⟩ := (hA.on hb1).five; obtain ⟨p0, p1, p2, p3, p4⟩ := (hA.on hb1).put5)
      exact bodyPost_ret (v := .tuple #[.agg #[.int .i64 1, .int .i64 0, .int .i64 0, .int .i64 0, .int .i64 x], .bool true]) (by simp [results, Tryd.results42, go_sem, p0, p1, p2, p3, p4, hg]) rfl ⟨rfl, ((((((on_below hb0 hb1).setCell (Nat.le_refl _) _).setCell (Nat.le_refl _) _).setCell (Nat.le_refl _) _).setCell (Nat.le_refl _) _).setCell (Nat.le_refl _) _)⟩
    · have ho : ruleOfP tMarked ns = none := by
        unfold ruleOfP
        split <;> simp_all
      rw [ho]
      have hl' : ((ns.length : Int) == 1) = false := by simp; omega
      clear ho hl
      go_enter Tryd.func42, Tryd.ntmps42
      go_wp2_with (go_at_call 41; refine HSP.out.mono ?_; rintro e w1 ⟨a, c, rfl, hR, hb1⟩; obtain ⟨n0, n1, n2⟩ := hn0.on hb1; obtain ⟨hg, c0, z0, c1, z1, c2, z2, c3, z3, c4, z4⟩ := (hA.on hb1).five; obtain ⟨p0, p1, p2, p3, p4⟩ := (hA.on hb1).put5)
      exact bodyPost_ret (v := .tuple #[.agg #[.int .i64 0, .int .i64 0, .int .i64 0, .int .i64 0, .int .i64 0], .bool false]) (by simp [results, Tryd.results42, go_sem, p0, p1, p2, p3, p4, hg]) rfl ⟨rfl, ((((((on_below hb0 hb1).setCell (Nat.le_refl _) _).setCell (Nat.le_refl _) _).setCell (Nat.le_refl _) _).setCell (Nat.le_refl _) _).setCell (Nat.le_refl _) _)⟩
  by_cases k2 : name = tPercent
  · subst k2
    by_cases hl : ns.length = 2
    · obtain ⟨x, y, rfl⟩ : ∃ x y, ns = [x, y] := by
        match ns, hl with
        | [x, y], _ => exact ⟨x, y, rfl⟩
      have ho : ruleOfP tPercent [x, y] = some ⟨2, 0, x, y, 0⟩ := by simp [ruleOfP]
      rw [ho]
      clear ho hl
      go_enter Tryd.func42, Tryd.ntmps42
      go_wp2_with (go_at_call 41; refine HSP.out.mono ?_; rintro e w1 ⟨a, c, rfl, hR, hb1⟩; obtain ⟨n0, n1, n2⟩ := hn0.on hb1; obtain ⟨b, off, rfl, hbl, q0⟩ := hR.at_ 0 (by simp); have q1 := (hR.cell 1 (by simp)).2; rw [Nat.add_zero] at q0; simp only [List.getElem_cons_zero, List.getElem_cons_succ] at q0 q1; obtain ⟨hg, c0, z0, c1, z1, c2, z2, c3, z3, c4, z4⟩ := (hA.on hb1).five; obtain ⟨p0, p1, p2, p3, p4⟩ := (hA.on hb1).put5)
      go_region
      go_wp2
      exact bodyPost_ret (v := .tuple #[.agg #[.int .i64 2, .int .i64 0, .int .i64 x, .int .i64 y, .int .i64 0], .bool true]) (by simp [results, Tryd.results42, go_sem, p0, p1, p2, p3, p4, hg]) rfl ⟨rfl, ((((((on_below hb0 hb1).setCell (Nat.le_refl _) _).setCell (Nat.le_refl _) _).setCell (Nat.le_refl _) _).setCell (Nat.le_refl _) _).setCell (Nat.le_refl _) _).drew⟩
    · have ho : ruleOfP tPercent ns = none := by
        unfold ruleOfP
        split <;> simp_all
      rw [ho]
      have hl' : ((ns.length : Int) == 2) = false := by simp; omega
      clear ho hl
      go_enter Tryd.func42, Tryd.ntmps42
      go_wp2_with (go_at_call 41; refine HSP.out.mono ?_; rintro e w1 ⟨a, c, rfl, hR, hb1⟩; obtain ⟨n0, n1, n2⟩ := hn0.on hb1; obtain ⟨hg, c0, z0, c1, z1, c2, z2, c3, z3, c4, z4⟩ := (hA.on hb1).five; obtain ⟨p0, p1, p2, p3, p4⟩ := (hA.on hb1).put5)
      exact bodyPost_ret (v := .tuple #[.agg #[.int .i64 0, .int .i64 0, .int .i64 0, .int .i64 0, .int .i64 0], .bool false]) (by simp [results, Tryd.results42, go_sem, p0, p1, p2, p3, p4, hg]) rfl ⟨rfl, ((((((on_below hb0 hb1).setCell (Nat.le_refl _) _).setCell (Nat.le_refl _) _).setCell (Nat.le_refl _) _).setCell (Nat.le_refl _) _).setCell (Nat.le_refl _) _)⟩
  have ho : ruleOfP name ns = none := by
    unfold ruleOfP
    split <;> simp_all
  rw [ho]
  have e0 : ¬ name = [98, 111, 117, 110, 100, 101, 100] := k0
  have e1 : ¬ name = [109, 97, 114, 107, 101, 100] := k1
  have e2 : ¬ name = [112, 101, 114, 99, 101, 110, 116] := k2
  clear ho k0 k1 k2
  go_enter Tryd.func42, Tryd.ntmps42
  go_wp2_with (go_at_call 41; refine HSP.out.mono ?_; rintro e w1 ⟨a, c, rfl, hR, hb1⟩; obtain ⟨n0, n1, n2⟩ := hn0.on hb1; obtain ⟨hg, c0, z0, c1, z1, c2, z2, c3, z3, c4, z4⟩ := (hA.on hb1).five; obtain ⟨p0, p1, p2, p3, p4⟩ := (hA.on hb1).put5)
  exact bodyPost_ret (v := .tuple #[.agg #[.int .i64 0, .int .i64 0, .int .i64 0, .int .i64 0, .int .i64 0], .bool false]) (by simp [results, Tryd.results42, go_sem, p0, p1, p2, p3, p4, hg]) rfl ⟨rfl, ((((((on_below hb0 hb1).setCell (Nat.le_refl _) _).setCell (Nat.le_refl _) _).setCell (Nat.le_refl _) _).setCell (Nat.le_refl _) _).setCell (Nat.le_refl _) _)⟩
end Go.Proofs.YtfgfjofbghfdpaaDoor
