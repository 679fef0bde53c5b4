/- config: a line's name, and the numbers behind it; the rule that it tells. -/
import Derived.Test.YtfgfjofbghfdpaaDoorConf1
import Derived.Test.YtfgfjofbghfdpaaDoorRulPlain
namespace Go.Proofs.YtfgfjofbghfdpaaDoor
set_option maxRecDepth 4000
open Go.ChangeShapes Go.WideShapes Go.ChangeAt Go.RowKit
open PWord
open Go.Lib (itoa)
set_option linter.unusedVariables false
set_option linter.unusedSimpArgs false

theorem cuts_le (c : UInt8) : ∀ (k : Nat) (l : List UInt8), (cuts c k l).length ≤ k + 1 ∧ ∀ x ∈ cuts c k l, x.length ≤ l.length := by
  intro k
  induction k with
  | zero => intro l; exact ⟨by show [l].length ≤ _; simp, fun x hx => by have : x ∈ [l] := hx; simp at this; rw [this]; exact Nat.le_refl _⟩
  | succ k ih =>
    intro l
    by_cases hc : c ∈ l
    · obtain ⟨a, b, rfl, ha⟩ := part_at c l hc
      rw [cuts_some c k a b ha]
      obtain ⟨h1, h2⟩ := ih b
      refine ⟨by simp only [List.length_cons]; omega, fun x hx => ?_⟩
      rcases List.mem_cons.1 hx with rfl | hx
      · simp
      · have := h2 x hx; simp; omega
    · rw [cuts_none c _ l hc]
      exact ⟨by simp, fun x hx => by simp at hx; rw [hx]; exact Nat.le_refl _⟩

/-- A name, and numbers. -/
def SplitPost (p : List UInt8 × List Int) (w : World) (e : Ending) (w' : World) : Prop :=
  ∃ v, e = .returned (.tuple #[.string (bstr p.1), v]) ∧ Sl w.heap.size w' 1 v p.2.length (iv p.2) ∧ Below w.heap.size w w'

theorem one_cell : ∀ w : World, (Go.sizeOf 9).run Tryd.prog w = .ok 1 w := Tryd.sizeOf9

set_option maxRecDepth 100000 in
set_option maxHeartbeats 1000000 in
theorem cf_split (s : ByteArray) (w : World) (he : EnvW w) (hs : s.size ≤ 1000000) :
    Calls Tryd.prog 41 #[.string s] w (SplitPost (split s.data.toList) w) := by
  have hne := cuts_ne 32 3 s.data.toList
  obtain ⟨hcl, hcx⟩ := cuts_le 32 3 s.data.toList
  have hsl : s.data.toList.length = s.size := by simp
  rw [hsl] at hcx
  have HSN : Hid (Calls Tryd.prog 54 #[.string s, .string ⟨#[32]⟩, .int .i64 4] w (Parted w (cuts 32 3 s.data.toList))) := li_splitn s w hs he
  have hsp : split s.data.toList = match cuts 32 3 s.data.toList with
    | [] => ([], [])
    | n :: ws => (n, (nums ws).getD []) := rfl
  rw [hsp]
  clear hsp
  generalize cuts 32 3 s.data.toList = L at *
  cases L with
  | nil => exact absurd rfl hne
  | cons name L =>
    simp only
    go_enter Tryd.func41, Tryd.ntmps41
    go_wp2_with (go_at_call 54; refine HSN.out.mono ?_)
    rintro e w1 ⟨g, c, ws, rfl, hL, hR, hc, hcm, hg, hb1⟩
    cases ws with
    | nil => simp at hL
    | cons x ws =>
      simp only [List.map_cons, List.cons.injEq] at hL
      obtain ⟨hx, hL⟩ := hL
      obtain rfl : x = bstr name := by rw [← hx]
      have he1 := he.on hb1
      obtain ⟨hgl, c0⟩ := hR.cell 0 (by simp)
      simp only [List.getElem_cons_zero] at c0
      simp only [List.length_cons] at hc
      obtain ⟨a', c', hrun, hmc, hcc, hR'⟩ := rows_from (P := Tryd.prog) (a := some ⟨g, 0, none⟩) (n := ws.length + 1) (c := c) (t := 35) (e := 9) hc (by unfold maxLen; omega) Tryd.underlying35 one_cell 1 ws.length 1 rfl (by omega) (by omega)
      have hR1 := hR' w1 _ rfl hR
      simp only [List.drop_succ_cons, List.drop_zero] at hR1
      have hwl : ws.length ≤ 3 := by rw [← hL] at hcl; simpa using hcl
      have hsz : ∀ s' ∈ ws, s'.size ≤ 1000000 := fun s' hs' => by
        have := hcx s'.data.toList (by rw [← hL]; simp only [List.mem_cons, List.mem_map]; exact .inr ⟨s', hs', rfl⟩)
        have e : s'.data.toList.length = s'.size := by simp
        omega
      have HNUM := Lib.hid (cf_numbers a' ws.length c' ws w1 he1 hR1 rfl (by omega) hsz)
      rw [show bl ws = L from hL] at HNUM
      clear hR' hR1 hsz hcx hcl hL hmc hne
      go_wp2_with (go_at_call 23; refine HNUM.out.mono ?_; rintro e w2 ⟨v, rfl, hv, hb2⟩; have d0 := cell_stays hb2 c0)
      go_ret2
      exact ⟨v, rfl, hv.base hb1.size, on_below hb1 hb2⟩
end Go.Proofs.YtfgfjofbghfdpaaDoor
