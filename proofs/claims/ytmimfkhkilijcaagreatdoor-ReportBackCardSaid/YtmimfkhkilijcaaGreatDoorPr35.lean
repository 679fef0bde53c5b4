/- KChoice: what is reached of them. -/
import Derived.Deep.LoopGhost
import Derived.Laws.MakeOwn
import Derived.Test.YtmimfkhkilijcaaGreatDoorPr01
import Derived.Test.YtmimfkhkilijcaaGreatDoorPr12
import Derived.Test.YtmimfkhkilijcaaGreatDoorPr27
import Derived.Test.YtmimfkhkilijcaaGreatDoorPr27b
import Derived.Test.YtmimfkhkilijcaaGreatDoorPr30
import Derived.Test.YtmimfkhkilijcaaGreatDoorPr33
namespace Go.Proofs.YtmimfkhkilijcaaGreatDoor
set_option maxRecDepth 4000
open Go.ChangeShapes Go.WideShapes Go.ChangeAt Go.RowKit
open PWord
open Go.Lib (itoa)
set_option linter.unusedVariables false
set_option linter.unusedSimpArgs false

theorem At.put2 {w : World} {g : Nat} {a b : Value} (h : At w g [a, b]) :
    (∀ x, (w.setCell ⟨g, 0, none⟩ x).cell? ⟨g, 0, none⟩ = some x) ∧ (∀ x y, ((w.setCell ⟨g, 0, none⟩ x).setCell ⟨g, 1, none⟩ y).cell? ⟨g, 1, none⟩ = some y) :=
  ⟨fun x => ((h.set 0 (by simp) x).2 0 (by simp)).1, fun x y => (((h.set 0 (by simp) x).set 1 (by simp) y).2 1 (by simp)).1⟩
/-- Two texts as one, by a name. -/
theorem tx_name (a b : List UInt8) (h : a.length + b.length ≤ 9223372036854775807) : ∃ t, bstr (a ++ b) = t ∧ ∀ w, (Op.stringOp .add (bstr a) (bstr b)).run Tryz.prog w = .ok (.string t) w := ⟨_, rfl, fun w => tx_run w a b h⟩

set_option maxHeartbeats 1000000 in
theorem ch_poll (n : Int) (w : World) : Calls Tryz.prog 193 #[.int .i64 n] w fun e w' => e = .returned (.agg #[.bool false, .int .i64 n]) ∧ Below w.heap.size w w' := by
  have hb0 : Below w.heap.size w (w.alloc (.cells #[.bool false, .int .i64 n] 50)) := (Below.refl _ _).alloc (Nat.le_refl _) _
  obtain ⟨hg, c0, z0, c1, z1⟩ := (At.alloc w [.bool false, .int .i64 n] 50).two
  go_enter Tryz.func193, Tryz.ntmps193
  go_wp2
  exact bodyPost_ret (v := .agg #[.bool false, .int .i64 n]) (by simp [results, Tryz.results193, go_sem]) rfl ⟨rfl, hb0⟩
set_option maxHeartbeats 1000000 in
theorem ch_tick (n : Int) (w : World) : Calls Tryz.prog 194 #[.int .i64 n] w fun e w' => e = .returned (.agg #[.bool true, .int .i64 n]) ∧ Below w.heap.size w w' := by
  have hb0 : Below w.heap.size w (w.alloc (.cells #[.bool true, .int .i64 n] 50)) := (Below.refl _ _).alloc (Nat.le_refl _) _
  go_enter Tryz.func194, Tryz.ntmps194
  go_wp2
  exact bodyPost_ret (v := .agg #[.bool true, .int .i64 n]) (by simp [results, Tryz.results194, go_sem]) rfl ⟨rfl, hb0⟩

set_option maxRecDepth 100000 in
set_option maxHeartbeats 1000000 in
theorem ch_line (t : Bool) (n : Int) (hn : in64 n) (w : World) (he : EnvW w) :
    Calls Tryz.prog 39 #[.agg #[.bool t, .int .i64 n]] w fun e w' => e = .returned (.string (bstr (cline t n))) ∧ Below w.heap.size w w' := by
  have hl := itoa_len hn
  have hb0 : Below w.heap.size w (w.alloc (.cells #[.bool t, .int .i64 n] 50)) := (Below.refl _ _).alloc (Nat.le_refl _) _
  have HI := Lib.hid (li_itoa n hn _ (he.on hb0))
  cases t
  · obtain ⟨t1, ht1, hc1⟩ := tx_name [112, 111, 108, 108, 32] (itoa n) (by simp only [List.length_cons, List.length_nil]; omega)
    have ht : bstr (cline false n) = t1 := by rw [← ht1]; rfl
    rw [ht]
    clear ht ht1 hl
    have hc0 := fun w => tx_run w [112, 111, 108, 108] [32] (by decide)
    generalize bstr (itoa n) = B at *
    go_enter Tryz.func39, Tryz.ntmps39
    go_wp2_with (go_at_call 84; refine HI.out.mono ?_; rintro e w2 ⟨rfl, hb2⟩)
    go_ret
    exact ⟨rfl, on_below hb0 hb2⟩
  · obtain ⟨t1, ht1, hc1⟩ := tx_name [116, 105, 99, 107, 32] (itoa n) (by simp only [List.length_cons, List.length_nil]; omega)
    have ht : bstr (cline true n) = t1 := by rw [← ht1]; rfl
    rw [ht]
    clear ht ht1 hl
    have hc0 := fun w => tx_run w [116, 105, 99, 107] [32] (by decide)
    generalize bstr (itoa n) = B at *
    go_enter Tryz.func39, Tryz.ntmps39
    go_wp2_with (go_at_call 84; refine HI.out.mono ?_; rintro e w2 ⟨rfl, hb2⟩)
    go_ret
    exact ⟨rfl, on_below hb0 hb2⟩

/-- A choice, or none. -/
def ReadPost (o : Option (Bool × Int)) (w : World) (e : Ending) (w' : World) : Prop :=
  e = .returned (.tuple #[.agg #[.bool (o.getD (false, 0)).1, .int .i64 (o.getD (false, 0)).2], .bool o.isSome]) ∧ Below w.heap.size w w'
def readP (a : List UInt8) (o : Option Int) : Option (Bool × Int) :=
  match o with
  | none => none
  | some n => if a = tPoll then some (false, n) else if a = tTick then some (true, n) else none
theorem read_eq (l : List UInt8) : PWord.read l = readP (Lib.cut l [32]).1 (PWord.numOf (Lib.cut l [32]).2.1) := by unfold PWord.read readP; rfl
theorem nums_one (l : List UInt8) : nums [l] = (PWord.numOf l).map fun n => [n] := by
  rw [nums_cons]
  cases PWord.numOf l <;> rfl
theorem cut_len2 (l : List UInt8) : (Lib.cut l [32]).2.1.length ≤ l.length := by
  by_cases h : (32 : UInt8) ∈ l
  · obtain ⟨a, b, rfl, ha⟩ := part_at 32 l h
    rw [cut_some 32 a b ha]
    simp
    omega
  · rw [cut_none 32 l h]; simp

theorem rows_one {w : World} {N : Nat} {x : ByteArray} (h : w.cell? ⟨N, 0, none⟩ = some (.string x)) : RowS w (some ⟨N, 0, none⟩) [x] := by
  refine ⟨fun i hi => ⟨N, 0, rfl, cell_lt h, ?_⟩⟩
  obtain rfl : i = 0 := by simpa using hi
  exact h
def NumOne (n : Int) (w : World) (e : Ending) (w' : World) : Prop := ∃ g off c, e = .returned (.tuple #[.slice (some ⟨g, off, none⟩) 1 c, .bool true]) ∧ w'.cell? ⟨g, off, none⟩ = some (.int .i64 n) ∧ Below w.heap.size w w'
def NumNot (w : World) (e : Ending) (w' : World) : Prop := ∃ a c, e = .returned (.tuple #[.slice a 0 c, .bool false]) ∧ Below w.heap.size w w'
theorem num_one (b : List UInt8) (hb : b.length ≤ 1000000) (n : Int) (hn : PWord.numOf b = some n) (N : Nat) (w : World) (he : EnvW w) (h : w.cell? ⟨N, 0, none⟩ = some (.string (bstr b))) :
    Calls Tryz.prog 126 #[.slice (some ⟨N, 0, none⟩) 1 1] w (NumOne n w) := by
  have hx := cf_numbers (some ⟨N, 0, none⟩) 1 1 [bstr b] w he (rows_one h) rfl (by simp) (fun x hx => by simp at hx; subst hx; rw [tx_size]; exact hb)
  rw [show bl [bstr b] = [b] from rfl, nums_one, hn] at hx
  refine hx.mono ?_
  rintro e w' ⟨v, he, hv, hbw⟩
  obtain ⟨-, a, c, rfl, hr⟩ := rowi_of_sl (l := [n]) hv (fun x hx => by simp at hx; subst hx; exact (numOf_some hn).2)
  obtain ⟨g, off, rfl, -, hc⟩ := hr.at_ 0 (by simp)
  exact ⟨g, off, c, he, by simpa using hc, hbw⟩
theorem num_not (b : List UInt8) (hb : b.length ≤ 1000000) (hn : PWord.numOf b = none) (N : Nat) (w : World) (he : EnvW w) (h : w.cell? ⟨N, 0, none⟩ = some (.string (bstr b))) :
    Calls Tryz.prog 126 #[.slice (some ⟨N, 0, none⟩) 1 1] w (NumNot w) := by
  have hx := cf_numbers (some ⟨N, 0, none⟩) 1 1 [bstr b] w he (rows_one h) rfl (by simp) (fun x hx => by simp at hx; subst hx; rw [tx_size]; exact hb)
  rw [show bl [bstr b] = [b] from rfl, nums_one, hn] at hx
  refine hx.mono ?_
  rintro e w' ⟨v, he, hv, hbw⟩
  obtain ⟨a, c, rfl⟩ := hv.shape
  exact ⟨a, c, he, hbw⟩

set_option maxRecDepth 100000 in
set_option maxHeartbeats 2000000 in
theorem ch_read (s : ByteArray) (w : World) (he : EnvW w) (hs : s.size ≤ 1000000) :
    Calls Tryz.prog 136 #[.string s] w (ReadPost (PWord.read s.data.toList) w) := by
  have hcl := cut_len2 s.data.toList
  have hsl : s.data.toList.length = s.size := by simp
  rw [read_eq]
  have hb0 : Below w.heap.size w (w.alloc (.cells #[.bool false, .int .i64 0] 50)) := (Below.refl _ _).alloc (Nat.le_refl _) _
  have hA := At.alloc w [.bool false, .int .i64 0] 50
  have he0 := he.on hb0
  have HC := Lib.hid (li_cut s _ hs he0)
  generalize Lib.cut s.data.toList [32] = p at *
  obtain ⟨a, b, y⟩ := p
  simp only at *
  cases ho : PWord.numOf b with
  | none =>
    have HNUM := Lib.hid (num_not b (by omega) ho)
    clear he hsl hcl ho
    show Calls Tryz.prog 136 #[.string s] w (ReadPost none w)
    go_enter Tryz.func136, Tryz.ntmps136
    go_wp2_with (first | (go_at_call 41; (with_reducible refine HC.out.mono ?_); rintro e w1 ⟨y1, rfl, hb1⟩; have he1 := (he0.on hb1).on ((Below.refl _ _).alloc (Nat.le_refl _) (.cells #[.string (bstr b)] 9)); have hc1 := (At.alloc w1 [.string (bstr b)] 9).one.2.1) | (go_at_call 126; (with_reducible refine (HNUM.out _ _ he1 hc1).mono ?_); rintro e w2 ⟨a2, c2, rfl, hb2⟩; have hb3 := on_below ((on_below hb0 hb1).alloc (by have := hb1.size; simp at this; omega) (.cells #[.string (bstr b)] 9)) hb2; have hA3 := ((hA.on hb1).on ((Below.refl _ _).alloc (Nat.le_refl _) (.cells #[.string (bstr b)] 9))).on hb2; obtain ⟨hg, c0, z0, c1, z1⟩ := hA3.two; obtain ⟨p0, p1⟩ := hA3.put2))
    exact bodyPost_ret (v := .tuple #[.agg #[.bool false, .int .i64 0], .bool false]) (by simp [results, Tryz.results136, go_sem, p0, p1, hg]) rfl ⟨rfl, ((hb3.setCell (Nat.le_refl _) _).setCell (Nat.le_refl _) _)⟩
  | some n =>
    have HNUM := Lib.hid (num_one b (by omega) n ho)
    clear he hsl hcl ho
    by_cases k0 : a = tPoll
    · have hr : readP a (some n) = some (false, n) := by simp [readP, k0]
      rw [hr]
      subst k0
      have HP := Lib.hid (fun w => ch_poll n w)
      go_enter Tryz.func136, Tryz.ntmps136
      go_wp2_with (first | (go_at_call 41; (with_reducible refine HC.out.mono ?_); rintro e w1 ⟨y1, rfl, hb1⟩; have he1 := (he0.on hb1).on ((Below.refl _ _).alloc (Nat.le_refl _) (.cells #[.string (bstr b)] 9)); have hc1 := (At.alloc w1 [.string (bstr b)] 9).one.2.1) | (go_at_call 126; (with_reducible refine (HNUM.out _ _ he1 hc1).mono ?_); rintro e w2 ⟨g2, o2, c2, rfl, hq, hb2⟩; have hb3 := on_below ((on_below hb0 hb1).alloc (by have := hb1.size; simp at this; omega) (.cells #[.string (bstr b)] 9)) hb2; have hA3 := ((hA.on hb1).on ((Below.refl _ _).alloc (Nat.le_refl _) (.cells #[.string (bstr b)] 9))).on hb2; obtain ⟨hg, c0, z0, c1, z1⟩ := hA3.two; obtain ⟨p0, p1⟩ := hA3.put2) | (go_at_call 193; (with_reducible refine (HP.out _).mono ?_); rintro e w4 ⟨rfl, hb4⟩; obtain ⟨hg4, d0, y0, d1, y1⟩ := (hA3.on hb4).two; obtain ⟨q0, q1⟩ := (hA3.on hb4).put2))
      exact bodyPost_ret (v := .tuple #[.agg #[.bool false, .int .i64 n], .bool true]) (by simp [results, Tryz.results136, go_sem, q0, q1, hg4]) rfl ⟨rfl, (((on_below hb3 hb4).setCell (Nat.le_refl _) _).setCell (Nat.le_refl _) _)⟩
    by_cases k1 : a = tTick
    · have hr : readP a (some n) = some (true, n) := by simp [readP, k1]
      rw [hr]
      subst k1
      have HP := Lib.hid (fun w => ch_tick n w)
      go_enter Tryz.func136, Tryz.ntmps136
      go_wp2_with (first | (go_at_call 41; (with_reducible refine HC.out.mono ?_); rintro e w1 ⟨y1, rfl, hb1⟩; have he1 := (he0.on hb1).on ((Below.refl _ _).alloc (Nat.le_refl _) (.cells #[.string (bstr b)] 9)); have hc1 := (At.alloc w1 [.string (bstr b)] 9).one.2.1) | (go_at_call 126; (with_reducible refine (HNUM.out _ _ he1 hc1).mono ?_); rintro e w2 ⟨g2, o2, c2, rfl, hq, hb2⟩; have hb3 := on_below ((on_below hb0 hb1).alloc (by have := hb1.size; simp at this; omega) (.cells #[.string (bstr b)] 9)) hb2; have hA3 := ((hA.on hb1).on ((Below.refl _ _).alloc (Nat.le_refl _) (.cells #[.string (bstr b)] 9))).on hb2; obtain ⟨hg, c0, z0, c1, z1⟩ := hA3.two; obtain ⟨p0, p1⟩ := hA3.put2) | (go_at_call 194; (with_reducible refine (HP.out _).mono ?_); rintro e w4 ⟨rfl, hb4⟩; obtain ⟨hg4, d0, y0, d1, y1⟩ := (hA3.on hb4).two; obtain ⟨q0, q1⟩ := (hA3.on hb4).put2))
      exact bodyPost_ret (v := .tuple #[.agg #[.bool true, .int .i64 n], .bool true]) (by simp [results, Tryz.results136, go_sem, q0, q1, hg4]) rfl ⟨rfl, (((on_below hb3 hb4).setCell (Nat.le_refl _) _).setCell (Nat.le_refl _) _)⟩
    have hr : readP a (some n) = none := by simp [readP, k0, k1]
    rw [hr]
    have e0 : (a == [112, 111, 108, 108]) = false := by rw [beq_eq_false_iff_ne]; exact k0
    have e1 : (a == [116, 105, 99, 107]) = false := by rw [beq_eq_false_iff_ne]; exact k1
    clear hr k0 k1
    go_enter Tryz.func136, Tryz.ntmps136
    go_wp2_with (first | (go_at_call 41; (with_reducible refine HC.out.mono ?_); rintro e w1 ⟨y1, rfl, hb1⟩; have he1 := (he0.on hb1).on ((Below.refl _ _).alloc (Nat.le_refl _) (.cells #[.string (bstr b)] 9)); have hc1 := (At.alloc w1 [.string (bstr b)] 9).one.2.1) | (go_at_call 126; (with_reducible refine (HNUM.out _ _ he1 hc1).mono ?_); rintro e w2 ⟨g2, o2, c2, rfl, hq, hb2⟩; have hb3 := on_below ((on_below hb0 hb1).alloc (by have := hb1.size; simp at this; omega) (.cells #[.string (bstr b)] 9)) hb2; have hA3 := ((hA.on hb1).on ((Below.refl _ _).alloc (Nat.le_refl _) (.cells #[.string (bstr b)] 9))).on hb2; obtain ⟨hg, c0, z0, c1, z1⟩ := hA3.two; obtain ⟨p0, p1⟩ := hA3.put2))
    exact bodyPost_ret (v := .tuple #[.agg #[.bool false, .int .i64 0], .bool false]) (by simp [results, Tryz.results136, go_sem, p0, p1, hg]) rfl ⟨rfl, ((hb3.setCell (Nat.le_refl _) _).setCell (Nat.le_refl _) _)⟩
end Go.Proofs.YtmimfkhkilijcaaGreatDoor

/- choice: Ticks and Round. -/
namespace Go.Proofs.YtmimfkhkilijcaaGreatDoor
set_option maxRecDepth 4000
open Go.ChangeShapes Go.WideShapes Go.ChangeAt Go.RowKit
open PWord
set_option linter.unusedVariables false
set_option linter.unusedSimpArgs false

theorem info_chC : (Tryz.prog.info? 50).map (fun i => (i.zero, i.size, i.bytes)) = some (some (.agg #[.bool false, .int .i64 0]), 2, 16) := by kernel_rfl
end Go.Proofs.YtmimfkhkilijcaaGreatDoor

/- Choices and sources that come in. -/
namespace Go.Proofs.YtmimfkhkilijcaaGreatDoor
set_option maxRecDepth 4000
open Go.ChangeShapes Go.WideShapes Go.ChangeAt Go.RowKit
open PWord
set_option linter.unusedVariables false
set_option linter.unusedSimpArgs false

/-- A source that comes in. -/
theorem Rd.cfg {w : World} {c0 : Array Value} {d : (List (Int × Int × Int × Int × Int × Unit)) × Int × Int × Unit} (h : Rd w (.pair (.sl ShU) (.pair (.int .i64) (.pair (.int .i64) .unit))) c0.toList d) :
    ∃ (a : Option Addr) (n cap : Nat) (c : Cfg), c0 = #[.slice a n cap, .int .i64 c.timeout, .int .i64 c.drift] ∧ c.Fits ∧ n = c.rules.length ∧ n ≤ cap ∧ cap ≤ maxLen ∧ RowU w a c.rules := by
  obtain ⟨l, t, dr, u⟩ := d
  obtain ⟨c1, d1, e0, h1, c2, d2, e1, ⟨e2, h2⟩, c3, d3, e3, ⟨e4, h3⟩, h4⟩ := h
  have h4' : d3 = [] := h4
  subst h4' e4 e3 e2 e1
  have hv : ∃ a n cap, c1 = [.slice a n cap] := by
    rcases h1 with ⟨rfl, _⟩ | ⟨x, cap, el, rfl, _⟩
    · exact ⟨_, _, _, rfl⟩
    · exact ⟨_, _, _, rfl⟩
  obtain ⟨a, n, cap, rfl⟩ := hv
  have hR : n = l.length ∧ n ≤ cap ∧ cap ≤ maxLen ∧ RowG w 5 ruf a l ∧ ∀ x ∈ l, ruq x := Rd.rowG (s := ShU) 5 rfl (by decide) ruf ruq (fun w cs d h => Rd.ru h) h1
  obtain ⟨g1, g2, g3, g4, g5⟩ := hR
  refine ⟨a, n, cap, ⟨l.map toU, t, dr⟩, ?_, ⟨fun r hr => ?_, bounds_i64 h2, bounds_i64 h3⟩, by simpa using g1, g2, g3, RowG.map (f := Rul.cells) (g := toU) g4⟩
  · apply Array.ext'
    rw [e0]
    rfl
  · obtain ⟨y, hy, rfl⟩ := List.mem_map.1 hr
    exact g5 y hy
end Go.Proofs.YtmimfkhkilijcaaGreatDoor
