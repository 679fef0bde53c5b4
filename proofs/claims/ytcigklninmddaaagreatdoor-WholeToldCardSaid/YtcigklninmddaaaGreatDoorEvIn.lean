/- Events as plain data that come in; those of each type, by their places. -/
import Derived.Test.YtcigklninmddaaaGreatDoorEv10
namespace Go.Proofs.YtcigklninmddaaaGreatDoor
set_option maxRecDepth 4000
open Go.ChangeShapes Go.WideShapes Go.ChangeAt Go.RowKit
open PWord PQuote PSign PEv
open Go.Lib (itoa)
set_option linter.unusedVariables false
set_option linter.unusedSimpArgs false

abbrev ShX : Sh := .pair (.int .i64) (.pair (.int .i64) (.pair (.pair (.int .i64) (.pair (.int .i64) (.pair .str .unit))) (.pair .bool (.pair (.int .i64) (.pair (.int .i64) .unit)))))
abbrev DX : Type := Int × Int × (Int × Int × ByteArray × Unit) × Bool × Int × Int × Unit
/-- Its cells, and the event that they tell. -/
def xf (d : DX) : List Value := [.int .i64 d.1, .int .i64 d.2.1, .int .i64 d.2.2.1.1, .int .i64 d.2.2.1.2.1, .string d.2.2.1.2.2.1, .bool d.2.2.2.1, .int .i64 d.2.2.2.2.1, .int .i64 d.2.2.2.2.2.1]
def xe (d : DX) : Ev := evof d.1 d.2.1 d.2.2.1.1 d.2.2.1.2.1 d.2.2.1.2.2.1.data.toList d.2.2.2.1 d.2.2.2.2.1 d.2.2.2.2.2.1
def xq (d : DX) : Prop := (xe d).ok
theorem Rd.x {w : World} {cs : List Value} {d : DX} (h : Rd w ShX cs d) : cs = xf d ∧ xq d := by
  obtain ⟨kind, part, ⟨rk, rt, x, u1⟩, late, at_, er, u⟩ := d
  obtain ⟨c1, d1, rfl, ⟨rfl, h1⟩, c2, d2, rfl, ⟨rfl, h2⟩, c3, d3, rfl, ⟨c31, d31, rfl, ⟨rfl, h31⟩, c32, d32, rfl, ⟨rfl, h32⟩, c33, d33, rfl, ⟨rfl, h33⟩, h34⟩, c4, d4, rfl, h4, c5, d5, rfl, ⟨rfl, h5⟩, c6, d6, rfl, ⟨rfl, h6⟩, h7⟩ := h
  have h34' : d33 = [] := h34
  have h4' : c4 = [.bool late] := h4
  have h7' : d6 = [] := h7
  subst h34' h4' h7'
  exact ⟨rfl, evof_ok (bounds_i64 h2) (bounds_i64 h31) (bounds_i64 h32) (bounds_i64 h5) (bounds_i64 h6)⟩
theorem Rd.xs {w : World} {a : Option Addr} {n c : Nat} {l : List DX} (h : Rd w (.sl ShX) [.slice a n c] l) : n = l.length ∧ n ≤ c ∧ c ≤ maxLen ∧ RowG w 8 xf a l ∧ ∀ d ∈ l, xq d :=
  Rd.rowG (s := ShX) 8 rfl (by decide) xf xq (fun w cs d h => Rd.x h) h

theorem law_tidy_x (d : DX) (w : World) : Calls Tryz.prog 6 #[.agg (xf d).toArray] w fun e w' => e = .returned (evr (xe d)) ∧ Below w.heap.size w w' := law_tidy _ _ _ _ _ _ _ _ w

theorem evv_ifc (v : Ev) : ∃ t x, evv v = .iface t x := by cases v <;> exact ⟨_, _, rfl⟩
theorem rowe_of_sl {B : Nat} {w : World} {v : Value} {n : Nat} {l : List Ev} (h : Sl B w 1 v n (l.map evv)) : n = l.length ∧ ∃ a c, v = .slice a l.length c ∧ RowE w a l := by
  have hl := h.1
  rw [List.length_map] at hl
  have hn : n = l.length := by omega
  subst hn
  refine ⟨rfl, ?_⟩
  rcases h.2 with ⟨rfl, h0⟩ | ⟨g, off, cap, rfl, hb, hg, h1, h2, h3, h4⟩
  · exact ⟨_, _, by rw [h0], ⟨fun i hi => by omega⟩⟩
  · exact ⟨_, _, rfl, ⟨fun i hi => ⟨g, off, rfl, hg, by rw [h3 i (by omega)]; simp [hi]⟩⟩⟩

/-! ### By their places -/
theorem sel_len_mem (K sz : Nat) (hsz : ∀ v, kd v = K → (vcs v).length = sz) : ∀ (l : List Ev), (vcells (sel K l)).length = (sel K l).length * sz
  | [] => by simp [vcells, sel]
  | v :: l => by
    have ih := sel_len_mem K sz hsz l
    by_cases h : kd v = K
    · have e : sel K (v :: l) = v :: sel K l := by unfold sel; rw [List.filter_cons_of_pos (by simp [h])]
      rw [e]
      show (vcs v ++ vcells (sel K l)).length = _
      rw [List.length_append, ih, hsz v h, List.length_cons, Nat.succ_mul]
      omega
    · have e : sel K (v :: l) = sel K l := by unfold sel; rw [List.filter_cons_of_neg (by simp [h])]
      rw [e]; exact ih
theorem sel_split (K : Nat) (l : List Ev) (q : Nat) (hq : q < l.length) (h : kd l[q] = K) : sel K l = sel K (l.take q) ++ l[q] :: sel K (l.drop (q + 1)) := by
  have h1 : l = l.take q ++ l[q] :: l.drop (q + 1) := by rw [← List.drop_eq_getElem_cons hq, List.take_append_drop]
  conv => lhs; rw [h1]
  unfold sel
  rw [List.filter_append, List.filter_cons_of_pos (by simp [h])]
/-- The cells of the one that comes next, of those of its type. -/
theorem sel_at {B : Nat} {w : World} {v : Value} {K sz : Nat} {l : List Ev} (hsz : ∀ v, kd v = K → (vcs v).length = sz) (h0 : 0 < sz) (h : Sl B w sz v (sel K l).length (vcells (sel K l))) (q : Nat) (hq : q < l.length) (hk : kd l[q] = K) :
    (sel K (l.take q)).length < (sel K l).length ∧ ∃ b off cap, v = .slice (some ⟨b, off, none⟩) (sel K l).length cap ∧ (sel K l).length ≤ cap ∧ b < w.heap.size ∧ ∀ j, j < sz → w.cell? ⟨b, off + ((sel K (l.take q)).length * sz + j), none⟩ = (vcs l[q])[j]? := by
  have hs := sel_split K l q hq hk
  have hlt : (sel K (l.take q)).length < (sel K l).length := by rw [hs, List.length_append, List.length_cons]; omega
  refine ⟨hlt, ?_⟩
  rcases h.2 with ⟨rfl, h1⟩ | ⟨g, off, cap, rfl, hb, hg, h1, h2, h3, h4⟩
  · omega
  · refine ⟨g, off, cap, rfl, h1, hg, fun j hj => ?_⟩
    have hm : (sel K (l.take q)).length * sz + j < (sel K l).length * sz := by
      have := Nat.mul_le_mul_right sz hlt
      rw [Nat.succ_mul] at this
      omega
    rw [h3 _ hm, hs]
    have e : vcells (sel K (l.take q) ++ l[q] :: sel K (l.drop (q + 1))) = vcells (sel K (l.take q)) ++ (vcs l[q] ++ vcells (sel K (l.drop (q + 1)))) := by simp [vcells]
    have hl := sel_len_mem K sz hsz (l.take q)
    rw [e, List.getElem?_append_right (by omega), hl, show (sel K (l.take q)).length * sz + j - (sel K (l.take q)).length * sz = j by omega, List.getElem?_append_left (by rw [hsz _ hk]; exact hj)]
theorem sel_next (K : Nat) (l : List Ev) (q : Nat) (hq : q < l.length) : (sel K (l.take (q + 1))).length = (sel K (l.take q)).length + (if kd l[q] = K then 1 else 0) := by
  rw [List.take_succ_eq_append_getElem hq, sel_snoc]
  by_cases h : kd l[q] = K
  · rw [if_pos h, if_pos h, List.length_append]; rfl
  · rw [if_neg h, if_neg h]; rfl
theorem elast_next (l : List Ev) (q : Nat) (hq : q < l.length) : elast (l.take (q + 1)) = elast (l.take q ++ [l[q]]) := by rw [List.take_succ_eq_append_getElem hq]
theorem sz0 (v : Ev) (h : kd v = 0) : (vcs v).length = 5 := by cases v <;> first | rfl | cases h
theorem sz1 (v : Ev) (h : kd v = 1) : (vcs v).length = 1 := by cases v <;> first | rfl | cases h
theorem sz2 (v : Ev) (h : kd v = 2) : (vcs v).length = 2 := by cases v <;> first | rfl | cases h
end Go.Proofs.YtcigklninmddaaaGreatDoor
