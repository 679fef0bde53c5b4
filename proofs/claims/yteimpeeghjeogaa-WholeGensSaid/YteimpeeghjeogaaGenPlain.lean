/- Plain facts on the three ways as one. -/
import Derived.Test.YteimpeeghjeogaaKPer
import Derived.Test.YteimpeeghjeogaaPunct
import Derived.Test.YteimpeeghjeogaaKRec
namespace Go.Proofs.Yteimpeeghjeogaa
set_option maxRecDepth 4000
open Go.ChangeShapes Go.WideShapes Go.ChangeAt Go.RowKit
open PHist PRing PSat PClamp PBound PFrame PSign
set_option linter.unusedVariables false

/-- A rule: which way, and what it goes by. -/
structure Rul where
  kind : Int
  bound : Int
  pct : Int
  win : Int
  sign : Int
def Rul.cells (r : Rul) : List Value := [.int .i64 r.kind, .int .i64 r.bound, .int .i64 r.pct, .int .i64 r.win, .int .i64 r.sign]
def Rul.val (r : Rul) : Value := .agg #[.int .i64 r.kind, .int .i64 r.bound, .int .i64 r.pct, .int .i64 r.win, .int .i64 r.sign]
def in64 (n : Int) : Prop := -9223372036854775808 ≤ n ∧ n ≤ 9223372036854775807
structure Rul.Fits (r : Rul) : Prop where
  kind : in64 r.kind
  bound : in64 r.bound
  pct : in64 r.pct
  win : in64 r.win
  sign : in64 r.sign
/-- The error of a rule, 0 of none. -/
def rcheck (r : Rul) : Int :=
  if r.kind = 0 then (if r.bound < 0 then 7 else 0)
  else if r.kind = 1 then (if r.sign < 0 ∨ 1114111 < r.sign then 7 else 0)
  else if r.kind = 2 then (if r.pct < 0 ∨ 100 < r.pct ∨ r.win < 1 ∨ 4096 < r.win then 7 else 0)
  else 3
theorem rcheck_some {r : Rul} (h : rcheck r = 0) : (r.kind = 0 ∧ 0 ≤ r.bound) ∨ (r.kind = 1 ∧ 0 ≤ r.sign ∧ r.sign ≤ 1114111) ∨ (r.kind = 2 ∧ (0 ≤ r.pct ∧ r.pct ≤ 100) ∧ 1 ≤ r.win ∧ r.win ≤ 4096) := by
  unfold rcheck at h
  (repeat' split at h) <;> omega

def times (l : List R) : List Int := l.map fun r => r.2.1
def saysR (n : Int) (r : R) : Bool := says r.1 (bstr r.2.2) n
def said (n : Int) (l : List R) : List Int := (l.filter (saysR n)).map fun r => r.2.1
theorem times_len (l : List R) : (times l).length = l.length := List.length_map _
theorem times_snoc (l : List R) (x : R) : times (l ++ [x]) = times l ++ [x.2.1] := by simp [times]
theorem said_snoc (n : Int) (l : List R) (x : R) : said n (l ++ [x]) = said n l ++ (if saysR n x then [x.2.1] else []) := by
  unfold said
  rw [List.filter_append, List.map_append]
  cases h : saysR n x <;> simp [h]
theorem said_len (n : Int) (l : List R) : (said n l).length ≤ l.length := by
  unfold said
  rw [List.length_map]
  exact List.length_filter_le _ _
theorem said_mem {n : Int} {l : List R} {x : Int} (h : x ∈ said n l) : x ∈ times l := by
  obtain ⟨r, hr, rfl⟩ := List.mem_map.1 h
  exact List.mem_map_of_mem (List.mem_filter.1 hr).1
def InR (l : List R) : Prop := ∀ r ∈ l, (-9223372036854775808 ≤ r.1 ∧ r.1 ≤ 9223372036854775807) ∧ (-9223372036854775808 ≤ r.2.1 ∧ r.2.1 ≤ 9223372036854775807)
theorem InR.times {l : List R} (h : InR l) : ∀ x ∈ times l, -9223372036854775808 ≤ x ∧ x ≤ 9223372036854775807 := by
  intro x hx
  obtain ⟨r, hr, rfl⟩ := List.mem_map.1 hx
  exact (h r hr).2
theorem InR.take {l : List R} (h : InR l) (k : Nat) : InR (l.take k) := fun r hr => h r (List.mem_of_mem_take hr)

/-- How far time has come by these, as a rule says. -/
def gnow (r : Rul) (l : List R) : Int :=
  if r.kind = 0 then after (most (-9223372036854775808) (times l)) r.bound
  else if r.kind = 1 then most (-9223372036854775808) (said r.sign l)
  else nowTo r.pct.toNat r.win.toNat (times l) l.length
/-- By how much records may be late. -/
def gslack (r : Rul) (l : List R) : Int :=
  if r.kind = 0 then r.bound
  else if r.kind = 1 then 0
  else pick (kept r.win.toNat (times l)) r.pct.toNat
theorem take_snoc (l : List R) (x : R) : (l ++ [x]).take l.length = l := by simp
theorem nowTo_snoc (p w : Nat) (l : List Int) (x : Int) (k : Nat) (hk : k ≤ l.length) : nowTo p w (l ++ [x]) k = nowTo p w l k := by
  have h := nowTo_take p w (l ++ [x]) l.length k hk
  rw [List.take_left] at h
  exact h.symm
theorem nowTo_up (p w : Nat) (l : List Int) (k : Nat) : nowTo p w l k ≤ nowTo p w l (k + 1) := by
  show _ ≤ (if nowTo p w l k < _ then _ else nowTo p w l k)
  split <;> omega
theorem gnow_never {r : Rul} (h : rcheck r = 0) : gnow r [] = -9223372036854775808 := by
  unfold gnow
  rcases rcheck_some h with ⟨h0, h1⟩ | ⟨h0, h1⟩ | ⟨h0, h1⟩
  · rw [if_pos h0]
    exact after_never h1
  · rw [if_neg (by omega), if_pos h0]
    rfl
  · rw [if_neg (by omega), if_neg (by omega)]
    rfl
/-- It never goes back. -/
theorem gnow_up (r : Rul) (l : List R) (x : R) : gnow r l ≤ gnow r (l ++ [x]) := by
  unfold gnow
  split
  · refine after_mono _ ?_
    rw [times_snoc, most_snoc]
    split <;> omega
  split
  · rw [said_snoc]
    split
    · rw [most_snoc]
      split <;> omega
    · rw [List.append_nil]
      exact Int.le_refl _
  · rw [times_snoc, List.length_append]
    have h := nowTo_up r.pct.toNat r.win.toNat (times l ++ [x.2.1]) l.length
    rw [nowTo_snoc _ _ _ _ _ (by rw [times_len]; exact Nat.le_refl _)] at h
    exact h
theorem gnow_in {r : Rul} {l : List R} (h : InR l) : in64 (gnow r l) := by
  unfold gnow in64
  split
  · exact after_in _ _
  split
  · exact most_in64 _ (fun x hx => h.times x (said_mem hx))
  · exact nowTo_in _ _ _ _
end Go.Proofs.Yteimpeeghjeogaa
