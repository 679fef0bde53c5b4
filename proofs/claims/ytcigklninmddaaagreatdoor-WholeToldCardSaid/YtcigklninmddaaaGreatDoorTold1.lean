/- A log, told: what stays while a builder writes; the events of a log, and their lines. -/
import Derived.Test.YtcigklninmddaaaGreatDoorEvIn
import Derived.Test.YtcigklninmddaaaGreatDoorKCur
import Derived.Lib.OthersKept
namespace Go.Proofs.YtcigklninmddaaaGreatDoor
set_option maxRecDepth 4000
open Go.ChangeShapes Go.WideShapes Go.ChangeAt Go.RowKit
open PWord PQuote PSign PEv PVar PCrc PFrame
open Go.Lib (itoa)
set_option linter.unusedVariables false
set_option linter.unusedSimpArgs false

theorem bld_upd {B b g : Nat} {l : List UInt8} {w w' : World} {T : TypeId} (h : Bld B b l w) (hu : Upd (fun i => i = g) w w') (hk : KindAt w g T) (h1 : T ≠ 5) (h2 : T ≠ 46) : Bld B b l w' := by
  obtain ⟨c0, fz0, hg⟩ := hk
  have keep : ∀ k c e fz, w.heap[k]? = some (Obj.cells c e fz) → e ≠ T → w'.heap[k]? = some (Obj.cells c e fz) := fun k c e fz hk he => by
    rw [hu.block k (Array.getElem?_eq_some_iff.1 hk).1 (fun hx => by
      have hx' : k = g := hx
      subst hx'
      rw [hg] at hk
      cases hk
      exact he rfl)]
    exact hk
  have at_ : ∀ p, Lib.BuilderAtF 46 5 B b p (Lib.byteCells l) w → Lib.BuilderAtF 46 5 B b p (Lib.byteCells l) w' := by
    intro p ⟨hB, v, hbk, hown, hne⟩
    refine ⟨hB, v, keep _ _ _ _ hbk (fun e => h2 e.symm), ⟨hown.1, ?_⟩, hne⟩
    rcases hown.2 with h0 | ⟨g', cap, cur, fz, q1, q2, q3, q4⟩
    · exact .inl h0
    · exact .inr ⟨g', cap, cur, fz, q1, q2, keep _ _ _ _ q3 (fun e => h1 e.symm), q4⟩
  exact h.elim (fun x => .inl (at_ _ x)) (fun x => .inr (at_ _ x))

theorem kept_block {w w' : World} {g b : Nat} {T : TypeId} (hk : KindAt w g T) (h1 : T ≠ 5) (ho : Lib.OthersKept 5 (some b) w w') (hn : g ≠ b) : w'.heap[g]? = w.heap[g]? := by
  obtain ⟨c, fz, h⟩ := hk
  rw [h]
  exact ho g _ h (fun e => hn (Option.some.inj e)) (fun c' fz' e => h1 (by cases e; rfl))
theorem At.kept {w w' : World} {g b : Nat} {l : List Value} {T : TypeId} (h : At w g l) (hk : KindAt w g T) (h1 : T ≠ 5) (ho : Lib.OthersKept 5 (some b) w w') (hn : g ≠ b) : At w' g l := by
  have e := kept_block hk h1 ho hn
  refine ⟨?_, fun i hi => ?_⟩
  · have hg := h.1
    have : (w'.heap[g]?).isSome = true := by rw [e]; simp [hg]
    simpa using this
  · obtain ⟨a, c⟩ := h.2 i hi
    exact ⟨(World.cell?_of_block (w := w) e).trans a, (World.frozen?_of_block (w := w) e).trans c⟩
theorem CurC.kept {w w' : World} {g b k c : Nat} {s : ByteArray} (h : CurC w g s k c) (hk : KindAt w g 83) (ho : Lib.OthersKept 5 (some b) w w') (hn : g ≠ b) : CurC w' g s k c ∧ KindAt w' g 83 :=
  ⟨At.kept h hk (by decide) ho hn, by
    obtain ⟨c0, fz, hh⟩ := hk
    exact ⟨c0, fz, (kept_block ⟨c0, fz, hh⟩ (by decide) ho hn).trans hh⟩⟩

/-! ### The events of a log -/
def elOf (part : Int) (r : R) : Ev := .el false part r.1 r.2.1 r.2.2
def endOf (part : Int) (er : Nat) : List Ev := if er = 0 then [] else [.fault part er]
def evsOf (part : Int) (rs : List R) (er : Nat) : List Ev := rs.map (elOf part) ++ endOf part er
theorem evsOf_ok {part : Int} {rs : List R} {er m : Nat} (hp : in64 part) (he : er ≤ 5) (hr : ∀ r ∈ rs, okR r ∧ r.2.2.length ≤ m) : ∀ v ∈ evsOf part rs er, v.ok ∧ (etext v).length ≤ m := by
  intro v hv
  rcases List.mem_append.1 hv with h | h
  · obtain ⟨r, hm, rfl⟩ := List.mem_map.1 h
    obtain ⟨⟨h1, h2, h3⟩, h4⟩ := hr r hm
    have hk := err_kind h1
    exact ⟨⟨hp, ⟨by omega, by omega⟩, ⟨h2, h3⟩⟩, h4⟩
  · unfold endOf at h
    split at h
    · cases h
    · rw [List.mem_singleton] at h
      subst h
      exact ⟨⟨hp, ⟨by omega, by omega⟩⟩, Nat.zero_le _⟩
theorem sel_els (part : Int) (K : Nat) : ∀ (rs : List R), sel K (rs.map (elOf part)) = if K = 0 then rs.map (elOf part) else []
  | [] => by unfold sel; split <;> rfl
  | r :: rs => by
    have ih := sel_els part K rs
    unfold sel at ih ⊢
    rw [List.map_cons]
    by_cases h : K = 0
    · subst h
      rw [List.filter_cons_of_pos (by rfl), ih]
      rfl
    · rw [if_neg h] at ih ⊢
      rw [List.filter_cons_of_neg (by show ¬ ((0 == K) = true); simp; omega), ih]
theorem sel_ends (part : Int) (K er : Nat) : sel K (endOf part er) = if K = 2 then endOf part er else [] := by
  unfold endOf
  split
  · unfold sel; split <;> rfl
  · by_cases h : K = 2
    · subst h; rfl
    · rw [if_neg h]
      unfold sel
      rw [List.filter_cons_of_neg (by show ¬ ((2 == K) = true); simp; omega)]
      rfl
theorem sel_append (K : Nat) (a b : List Ev) : sel K (a ++ b) = sel K a ++ sel K b := List.filter_append a b
theorem sel0_evsOf (part : Int) (rs : List R) (er : Nat) : sel 0 (evsOf part rs er) = rs.map (elOf part) := by
  unfold evsOf; rw [sel_append, sel_els, sel_ends]; simp
theorem sel2_evsOf (part : Int) (rs : List R) (er : Nat) : sel 2 (evsOf part rs er) = endOf part er := by
  unfold evsOf; rw [sel_append, sel_els, sel_ends]; simp
theorem etexts_append (a b : List Ev) : etexts (a ++ b) = etexts a ++ etexts b := by simp [etexts]
theorem etexts_lines (l : List Ev) : etexts l = ((l.map eline).map (· ++ [10])).flatten := by
  unfold etexts
  rw [List.flatMap_def, List.map_map]
  rfl
theorem lines_cut (l : List Ev) : cuts 10 ((etexts l).count 10) (etexts l) = l.map eline ++ [[]] := by
  have h10 : ∀ x ∈ l.map eline, (10 : UInt8) ∉ x := by
    intro x hx
    obtain ⟨v, _, rfl⟩ := List.mem_map.1 hx
    exact eline_10 v
  rw [etexts_lines, count_ended 10 _ h10]
  exact cuts_ended 10 _ _ h10 (Nat.le_refl _)
/-- No longer than this. -/
def tlen : List R → Nat
  | [] => 0
  | r :: rs => 101 + 10 * r.2.2.length + tlen rs
theorem els_len {part : Int} (hp : in64 part) : ∀ (rs : List R), (∀ r ∈ rs, okR r) → (etexts (rs.map (elOf part))).length ≤ 110 * rs.length + 10 * (build rs).length
  | [], _ => Nat.zero_le _
  | r :: rs, h => by
    have ih := els_len hp rs (fun x hx => h x (List.mem_cons_of_mem _ hx))
    have h1 := h r (List.mem_cons_self ..)
    have hv := (evsOf_ok (m := r.2.2.length) (er := 0) (rs := [r]) hp (by decide) (by intro x hx; rw [List.mem_singleton] at hx; subst hx; exact ⟨h1, Nat.le_refl _⟩)) (elOf part r) (by unfold evsOf; simp)
    have hl := eline_len (elOf part r) hv.1
    have ht : (etext (elOf part r)).length = r.2.2.length := rfl
    have hb : (build (r :: rs)).length = (encR r).length + (build rs).length := by show (encR r ++ build rs).length = _; rw [List.length_append]
    have he : (encR r).length = _ := PFrame.enc_len r.1 r.2.1 r.2.2
    have hbo := body_len r.1 r.2.1 r.2.2
    have e : etexts ((r :: rs).map (elOf part)) = eline (elOf part r) ++ [10] ++ etexts (rs.map (elOf part)) := by simp [etexts]
    rw [e, hb]
    simp only [List.length_append, List.length_cons, List.length_nil]
    omega
end Go.Proofs.YtcigklninmddaaaGreatDoor
