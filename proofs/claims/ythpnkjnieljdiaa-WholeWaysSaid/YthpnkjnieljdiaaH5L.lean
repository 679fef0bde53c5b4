/- The numbers of a hist that stands behind five other cells of its block. -/
import Derived.Test.YthpnkjnieljdiaaH5Two
namespace Go.Proofs.Ythpnkjnieljdiaa
open Go.ChangeShapes Go.WideShapes Go.ChangeAt Go.RowKit
open PHist
set_option linter.unusedVariables false
set_option linter.unusedSimpArgs false
/-- These numbers are there. -/
def HistLP (w : World) (F : Nat → Prop) (P : Pre) (g : Nat) (l : List Int) : Prop := ∃ v rs, HistCP w F P g v l.length rs ∧ Rows rs ∧ (expand rs).Perm l
def HLPostP (F : Nat → Prop) (P : Pre) (g : Nat) (l : List Int) (w w' : World) : Prop := ∃ F', HistLP w' F' P g l ∧ Upd F w w' ∧ ∀ k, F' k → F k ∨ w.heap.size ≤ k
theorem HistLP.upd {S : Nat → Prop} {w w' : World} {F : Nat → Prop} {P : Pre} {g : Nat} {l : List Int} (h : HistLP w F P g l) (hu : Upd S w w') (hn : ∀ k, F k → ¬ S k) : HistLP w' F P g l := by
  obtain ⟨v, rs, h1, h2⟩ := h
  exact ⟨v, rs, h1.upd hu hn, h2⟩
theorem HistLP.below {w w' : World} {F : Nat → Prop} {P : Pre} {g : Nat} {l : List Int} (h : HistLP w F P g l) (hb : Below w.heap.size w w') : HistLP w' F P g l := by
  obtain ⟨v, rs, h1, h2⟩ := h
  exact ⟨v, rs, h1.below hb, h2⟩
theorem HistLP.lt {w : World} {F : Nat → Prop} {P : Pre} {g : Nat} {l : List Int} (h : HistLP w F P g l) : ∀ k, F k → k < w.heap.size := by
  obtain ⟨v, rs, h1, h2⟩ := h
  exact h1.own.2.1
theorem HistLP.perm {w : World} {F : Nat → Prop} {P : Pre} {g : Nat} {l l' : List Int} (h : HistLP w F P g l) (hp : l.Perm l') : HistLP w F P g l' := by
  obtain ⟨v, rs, h1, h2, h3⟩ := h
  exact ⟨v, rs, hp.length_eq ▸ h1, h2, h3.trans hp⟩
theorem HLPostP.below {F : Nat → Prop} {P : Pre} {g B : Nat} {l : List Int} {a w w' : World} (h : HLPostP F P g l w w') (hb : Below B a w) (hB : B ≤ w.heap.size) (hF : ∀ k, F k → B ≤ k) : ∃ F', HistLP w' F' P g l ∧ (∀ k, F' k → B ≤ k) ∧ Below B a w' ∧ Upd F w w' ∧ ∀ k, F' k → F k ∨ w.heap.size ≤ k := by
  obtain ⟨F', h1, h2, h3⟩ := h
  exact ⟨F', h1, fun k hk => (h3 k hk).elim (hF k) (fun h => by omega), hb.upd h2 hB (fun i _ hi => hF i hi), h2, h3⟩

theorem hl_addP (F : Nat → Prop) (P : Pre) (g : Nat) (l : List Int) (n : Int) (w : World) (h : HistLP w F P g l) (hl : l.length ≤ 900) : Calls Try.prog 38 #[.pointer (some ⟨g, 5, none⟩), .int .i64 n] w fun e w' => e = .returned (.tuple #[]) ∧ HLPostP F P g (n :: l) w w' := by
  obtain ⟨v, rs, h1, ⟨hs, hr⟩, hp⟩ := h
  obtain ⟨i, hpl⟩ := place_exists rs n hs
  have hle := rows_le hr
  rw [hp.length_eq] at hle
  by_cases hit : ∃ hi : i < rs.length, rs[i].1 = n
  · obtain ⟨hi, hn⟩ := hit
    have ht := times_le (List.getElem_mem hi)
    rw [hp.length_eq] at ht
    refine (hi_add_hitP F P g v _ rs n i w h1 hpl hi hn (by omega) (by omega) (by omega)).mono ?_
    rintro e w' ⟨he, F', v', hC, hU, hF⟩
    refine ⟨he, F', ⟨v', _, hC, ⟨?_, fun r hr' => ?_⟩, (perm_more rs i hi n hn).trans (hp.cons n)⟩, hU, hF⟩
    · subst hn; exact rising_set hs i hi _
    · rcases List.mem_or_eq_of_mem_set hr' with h0 | rfl
      · exact hr r h0
      · show 1 ≤ rs[i].2 + 1; omega
  · have hn : ∀ hi : i < rs.length, rs[i].1 ≠ n := fun hi e => hit ⟨hi, e⟩
    refine (hi_add_missP F P g v _ rs n i w h1 hpl hn (by omega) (by omega)).mono ?_
    rintro e w' ⟨he, F', v', hC, hU, hF⟩
    refine ⟨he, F', ⟨v', _, hC, ⟨rising_ins hs hpl hn 1, fun r hr' => ?_⟩, (perm_new rs i n).trans (hp.cons n)⟩, hU, hF⟩
    rcases List.mem_append.1 hr' with h0 | h0
    · exact hr r (List.mem_of_mem_take h0)
    · rcases List.mem_cons.1 h0 with rfl | h0
      · exact Nat.le_refl _
      · exact hr r (List.mem_of_mem_drop h0)

theorem hl_remP (F : Nat → Prop) (P : Pre) (g : Nat) (l l' : List Int) (n : Int) (w : World) (h : HistLP w F P g l) (hl : l.length ≤ 900) (hp' : (n :: l').Perm l) : Calls Try.prog 37 #[.pointer (some ⟨g, 5, none⟩), .int .i64 n] w fun e w' => e = .returned (.bool true) ∧ HLPostP F P g l' w w' := by
  obtain ⟨v, rs, h1, ⟨hs, hr⟩, hp⟩ := h
  obtain ⟨i, hpl⟩ := place_exists rs n hs
  have hle := rows_le hr
  rw [hp.length_eq] at hle
  have hmem : n ∈ expand rs := (hp.trans hp'.symm).mem_iff.2 (List.mem_cons_self ..)
  obtain ⟨hi, hn⟩ := (place_mem hpl hs hr).1 hmem
  have hlen := hp'.length_eq
  rw [List.length_cons] at hlen
  have ht := times_le (List.getElem_mem hi)
  have ht1 := hr _ (List.getElem_mem hi)
  rw [hp.length_eq] at ht
  by_cases h2 : rs[i].2 = 1
  · refine (hi_rem_lastP F P g v _ rs n i w h1 hpl hi hn (by omega) (by omega) (by omega) h2).mono ?_
    rintro e w' ⟨he, F', v', hC, hU, hF⟩
    refine ⟨he, F', ⟨v', _, by rw [show l'.length = l.length - 1 by omega]; exact hC, ⟨rising_del hs i, fun r hr' => ?_⟩, List.Perm.cons_inv ((perm_gone rs i hi n hn h2).trans (hp.trans hp'.symm))⟩, hU, hF⟩
    rcases List.mem_append.1 hr' with h0 | h0
    · exact hr r (List.mem_of_mem_take h0)
    · exact hr r (List.mem_of_mem_drop h0)
  · refine (hi_rem_moreP F P g v _ rs n i w h1 hpl hi hn (by omega) (by omega) (by omega) (by omega) (by omega)).mono ?_
    rintro e w' ⟨he, F', v', hC, hU, hF⟩
    refine ⟨he, F', ⟨v', _, by rw [show l'.length = l.length - 1 by omega]; exact hC, ⟨?_, fun r hr' => ?_⟩, List.Perm.cons_inv ((perm_less rs i hi n hn ht1).trans (hp.trans hp'.symm))⟩, hU, hF⟩
    · subst hn; exact rising_set hs i hi _
    · rcases List.mem_or_eq_of_mem_set hr' with h0 | rfl
      · exact hr r h0
      · show 1 ≤ rs[i].2 - 1; omega

theorem hl_rem_noneP (F : Nat → Prop) (P : Pre) (g : Nat) (l : List Int) (n : Int) (w : World) (h : HistLP w F P g l) (hl : l.length ≤ 900) (hn : n ∉ l) : Calls Try.prog 37 #[.pointer (some ⟨g, 5, none⟩), .int .i64 n] w fun e w' => e = .returned (.bool false) ∧ Below w.heap.size w w' := by
  obtain ⟨v, rs, h1, ⟨hs, hr⟩, hp⟩ := h
  obtain ⟨i, hpl⟩ := place_exists rs n hs
  have hle := rows_le hr
  rw [hp.length_eq] at hle
  refine hi_rem_noneP F P g v _ rs n i w h1 hpl (fun hi e => hn ?_) (by omega)
  exact hp.mem_iff.1 ((place_mem hpl hs hr).2 ⟨hi, e⟩)

theorem hl_rankP (F : Nat → Prop) (P : Pre) (g : Nat) (l : List Int) (k : Nat) (kz : Int) (hkz : kz = k) (o : Option Int) (z : Int) (b : Bool) (w : World) (h : HistLP w F P g l) (hk : 1 ≤ k) (hk2 : k ≤ 9223372036854775807) (ho : (srt l)[k - 1]? = o) (hz : z = o.getD 0) (hb : b = o.isSome) : Calls Try.prog 39 #[.pointer (some ⟨g, 5, none⟩), .int .i64 kz] w fun e w' => e = .returned (.tuple #[.int .i64 z, .bool b]) ∧ Below w.heap.size w w' := by
  subst hb
  obtain ⟨v, rs, h1, h2, hp⟩ := h
  exact hi_rankP F P g v _ rs k o z kz hkz w h1 hk hk2 (by rw [rk_srt h2 hp k hk]; exact ho) hz
theorem hl_rank_lowP (F : Nat → Prop) (P : Pre) (g : Nat) (l : List Int) (k : Int) (w : World) (h : HistLP w F P g l) (hk : k < 1) : Calls Try.prog 39 #[.pointer (some ⟨g, 5, none⟩), .int .i64 k] w fun e w' => e = .returned (.tuple #[.int .i64 0, .bool false]) ∧ Below w.heap.size w w' := by
  obtain ⟨v, rs, h1, h2, hp⟩ := h
  exact hi_rank_lowP F P g v _ rs k w h1 hk
theorem hl_percentP (F : Nat → Prop) (P : Pre) (g : Nat) (l : List Int) (p : Nat) (pz : Int) (hpz : pz = p) (o : Option Int) (z : Int) (b : Bool) (w : World) (h : HistLP w F P g l) (hl : l.length ≤ 900) (hp : p ≤ 100) (ho : (srt l)[prank l.length p - 1]? = o) (hz : z = o.getD 0) (hb : b = o.isSome) : Calls Try.prog 30 #[.pointer (some ⟨g, 5, none⟩), .int .i64 pz] w fun e w' => e = .returned (.tuple #[.int .i64 z, .bool b]) ∧ Below w.heap.size w w' := by
  subst hb
  obtain ⟨v, rs, h1, h2, hpm⟩ := h
  exact hi_percentP F P g v _ rs p pz hpz o z w h1 hp (by omega) (by rw [rk_srt h2 hpm _ (by unfold prank; omega)]; exact ho) hz
end Go.Proofs.Ythpnkjnieljdiaa
