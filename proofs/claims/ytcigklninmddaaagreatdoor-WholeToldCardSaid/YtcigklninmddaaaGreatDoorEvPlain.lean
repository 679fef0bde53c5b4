/- Plain facts: events in words, and read again. -/
import Derived.Test.YtcigklninmddaaaGreatDoorKWord
import Derived.Test.YtcigklninmddaaaGreatDoorKSPlain
import Derived.Test.YtcigklninmddaaaGreatDoorQSign
namespace Go.Proofs.YtcigklninmddaaaGreatDoor.PEv
open Go.Lib
open Go.Proofs.YtcigklninmddaaaGreatDoor
open PWord PSign PHex PQuote
set_option linter.unusedVariables false

abbrev tElement : List UInt8 := [101, 108, 101, 109, 101, 110, 116]
abbrev tLate : List UInt8 := [108, 97, 116, 101]
abbrev tMark : List UInt8 := [109, 97, 114, 107]
abbrev tFault : List UInt8 := [102, 97, 117, 108, 116]

/-- An event. -/
inductive Ev where
  | el (late : Bool) (part kind time : Int) (text : List UInt8)
  | mark (n : Int)
  | fault (part err : Int)
def Ev.ok : Ev → Prop
  | .el _ p k t _ => in64 p ∧ in64 k ∧ in64 t
  | .mark n => in64 n
  | .fault p e => in64 p ∧ in64 e
def elName (late : Bool) : List UInt8 := if late then tLate else tElement
/-- It in words. -/
def eline : Ev → List UInt8
  | .el late p k t x => lineOf (elName late) [p, k, t] ++ 32 :: quote x
  | .mark n => lineOf tMark [n]
  | .fault p e => lineOf tFault [p, e]
/-- What is behind an element's name. -/
def rel (U : List UInt8 → Option (List UInt8)) (late : Bool) (b : List UInt8) : Option Ev :=
  match cuts 32 3 b with
  | [a1, a2, a3, q] => match nums [a1, a2, a3], U q with
    | some [p, k, t], some x => some (.el late p k t x)
    | _, _ => none
  | _ => none
def rmark (b : List UInt8) : Option Ev := match nums (cuts 32 0 b) with
  | some [n] => some (.mark n)
  | _ => none
def rfault (b : List UInt8) : Option Ev := match nums (cuts 32 1 b) with
  | some [p, e] => some (.fault p e)
  | _ => none
def rd2 (U : List UInt8 → Option (List UInt8)) (a b : List UInt8) : Option Ev :=
  if a = tElement then rel U false b else if a = tLate then rel U true b else if a = tMark then rmark b else if a = tFault then rfault b else none
theorem rd2_el (U : List UInt8 → Option (List UInt8)) (b : List UInt8) : rd2 U tElement b = rel U false b := by unfold rd2; rw [if_pos rfl]
theorem rd2_late (U : List UInt8 → Option (List UInt8)) (b : List UInt8) : rd2 U tLate b = rel U true b := by unfold rd2; rw [if_neg (by decide), if_pos rfl]
theorem rd2_mark (U : List UInt8 → Option (List UInt8)) (b : List UInt8) : rd2 U tMark b = rmark b := by unfold rd2; rw [if_neg (by decide), if_neg (by decide), if_pos rfl]
theorem rd2_fault (U : List UInt8 → Option (List UInt8)) (b : List UInt8) : rd2 U tFault b = rfault b := by unfold rd2; rw [if_neg (by decide), if_neg (by decide), if_neg (by decide), if_pos rfl]
/-- The event of a line; U: the text of what stands in marks. -/
def eread (U : List UInt8 → Option (List UInt8)) (s : List UInt8) : Option Ev := rd2 U (cut s [32]).1 (cut s [32]).2.1

theorem glue4 (a b c d : List UInt8) : glue 32 [a, b, c, d] = a ++ 32 :: (b ++ 32 :: (c ++ 32 :: d)) := rfl
theorem rel_some {U : List UInt8 → Option (List UInt8)} (hU : ∀ q x, U q = some x → quote x = q) {late : Bool} {b : List UInt8} {e : Ev} (h : rel U late b = some e) :
    eline e = elName late ++ 32 :: b ∧ e.ok := by
  have hg := glue_cuts 32 3 b
  unfold rel at h
  split at h
  · rename_i a1 a2 a3 q hc
    rw [hc, glue4] at hg
    split at h
    · rename_i p k t x hn hx
      cases h
      obtain ⟨hw, hb⟩ := nums_some hn
      simp only [List.map_cons, List.map_nil, List.cons.injEq, and_true] at hw
      obtain ⟨rfl, rfl, rfl⟩ := hw
      refine ⟨?_, hb p (by simp), hb k (by simp), hb t (by simp)⟩
      simp only [eline]
      rw [lineOf_cons, hU _ _ hx, ← hg]
      simp [glue]
    · cases h
  · cases h
theorem rmark_some {b : List UInt8} {e : Ev} (h : rmark b = some e) : eline e = tMark ++ 32 :: b ∧ e.ok := by
  have hg := glue_cuts 32 0 b
  unfold rmark at h
  split at h
  · rename_i n hn
    cases h
    obtain ⟨hw, hb⟩ := nums_some hn
    rw [hw] at hg
    exact ⟨by simp only [eline]; rw [lineOf_cons, hg], hb n (by simp)⟩
  · cases h
theorem rfault_some {b : List UInt8} {e : Ev} (h : rfault b = some e) : eline e = tFault ++ 32 :: b ∧ e.ok := by
  have hg := glue_cuts 32 1 b
  unfold rfault at h
  split at h
  · rename_i p n hn
    cases h
    obtain ⟨hw, hb⟩ := nums_some hn
    rw [hw] at hg
    exact ⟨by simp only [eline]; rw [lineOf_cons, hg], hb p (by simp), hb n (by simp)⟩
  · cases h
theorem rmark_nil : rmark [] = none := rfl
theorem rfault_nil : rfault [] = none := rfl
theorem rel_nil (U : List UInt8 → Option (List UInt8)) (late : Bool) : rel U late [] = none := rfl
/-- Whatever is read as an event is its line. -/
theorem eread_some {U : List UInt8 → Option (List UInt8)} (hU : ∀ q x, U q = some x → quote x = q) {s : List UInt8} {e : Ev} (h : eread U s = some e) : eline e = s ∧ e.ok := by
  unfold eread rd2 at h
  by_cases hc : (32 : UInt8) ∈ s
  · obtain ⟨a, b, rfl, ha⟩ := part_at 32 s hc
    rw [cut_some 32 a b ha] at h
    simp only at h
    split at h
    · rename_i ha; subst ha; exact rel_some (late := false) hU h
    · split at h
      · rename_i ha; subst ha; exact rel_some (late := true) hU h
      · split at h
        · rename_i ha; subst ha; exact rmark_some h
        · split at h
          · rename_i ha; subst ha; exact rfault_some h
          · cases h
  · rw [cut_none 32 s hc] at h
    simp only [rmark_nil, rfault_nil, rel_nil] at h
    simp at h

theorem quote_cuts (k : Nat) (p : Int) (hp : in64 p) (x : List UInt8) : cuts 32 (k + 1) (itoa p ++ 32 :: x) = itoa p :: cuts 32 k x := cuts_some 32 k _ _ (itoa_32 p)
/-- The text of an event, if it is an element. -/
def etext : Ev → List UInt8
  | .el _ _ _ _ x => x
  | _ => []
/-- An event's line is read as it. -/
theorem eread_line {U : List UInt8 → Option (List UInt8)} (e : Ev) (h : e.ok) (hU : U (quote (etext e)) = some (etext e)) : eread U (eline e) = some e := by
  cases e with
  | el late p k t x =>
    obtain ⟨h1, h2, h3⟩ := h
    have hn : (32 : UInt8) ∉ elName late := by cases late <;> decide
    have hl : eline (.el late p k t x) = elName late ++ 32 :: (itoa p ++ 32 :: (itoa k ++ 32 :: (itoa t ++ 32 :: quote x))) := by
      simp only [eline]
      rw [lineOf_cons]
      simp [glue]
    have hr : rel U late (itoa p ++ 32 :: (itoa k ++ 32 :: (itoa t ++ 32 :: quote x))) = some (.el late p k t x) := by
      have hc : cuts 32 3 (itoa p ++ 32 :: (itoa k ++ 32 :: (itoa t ++ 32 :: quote x))) = [itoa p, itoa k, itoa t, quote x] := by
        rw [quote_cuts 2 p h1, quote_cuts 1 k h2, quote_cuts 0 t h3]
        rfl
      have hnn := nums_map [p, k, t] (by simp [h1, h2, h3])
      simp only [List.map_cons, List.map_nil] at hnn
      unfold rel
      rw [hc]
      have hU' : U (quote x) = some x := hU
      simp only [hnn, hU']
    unfold eread
    rw [hl, cut_some 32 _ _ hn]
    cases late with
    | false => exact (rd2_el U _).trans hr
    | true => exact (rd2_late U _).trans hr
  | mark n =>
    have hl : eline (.mark n) = tMark ++ 32 :: itoa n := rfl
    unfold eread
    rw [hl, cut_some 32 _ _ (by decide)]
    refine (rd2_mark U _).trans ?_
    have hnn := nums_map [n] (by intro y hy; rw [List.mem_singleton] at hy; subst hy; exact h)
    simp only [List.map_cons, List.map_nil] at hnn
    unfold rmark
    rw [show cuts 32 0 (itoa n) = [itoa n] from rfl, hnn]
  | fault p n =>
    obtain ⟨h1, h2⟩ := h
    have hl : eline (.fault p n) = tFault ++ 32 :: (itoa p ++ 32 :: itoa n) := rfl
    unfold eread
    rw [hl, cut_some 32 _ _ (by decide)]
    refine (rd2_fault U _).trans ?_
    have hnn := nums_map [p, n] (by simp [h1, h2])
    simp only [List.map_cons, List.map_nil] at hnn
    unfold rfault
    rw [quote_cuts 0 p h1, show cuts 32 0 (itoa n) = [itoa n] from rfl, hnn]

/-! ### Which signs a line has -/

theorem dig_seen : ∀ d, d < 16 → 32 ≤ (dig d).toNat ∧ (dig d).toNat ≤ 126 := by decide
theorem hex_seen (n : Nat) : ∀ c ∈ hex n, 32 ≤ c.toNat ∧ c.toNat ≤ 126 := by
  intro c hc
  obtain ⟨d, hd, rfl⟩ := hex_mem n hc
  exact dig_seen d hd
theorem told_seen (n : Int) : ∀ c ∈ told n, 32 ≤ c.toNat ∧ c.toNat ≤ 126 := by
  intro c hc
  unfold told at hc
  split at hc
  · rcases List.mem_append.1 hc with h | h
    · simp only [List.mem_cons, List.not_mem_nil, or_false] at h
      rcases h with rfl | rfl <;> decide
    · exact hex_seen _ c h
  · split at hc
    · rcases List.mem_append.1 hc with h | h
      · rcases List.mem_append.1 h with h | h
        · simp only [List.mem_cons, List.not_mem_nil, or_false] at h
          rcases h with rfl | rfl | rfl <;> decide
        · exact hex_seen _ c h
      · simp only [List.mem_cons, List.not_mem_nil, or_false] at h
        subst h
        decide
    · split at hc
      · simp only [List.mem_cons, List.not_mem_nil, or_false] at hc
        rcases hc with rfl | rfl
        · decide
        · rw [UInt8.toNat_ofNat']; omega
      · simp only [List.mem_cons, List.not_mem_nil, or_false] at hc
        subst hc
        rw [UInt8.toNat_ofNat']; omega
theorem quote_seen (l : List UInt8) : ∀ c ∈ quote l, 32 ≤ c.toNat ∧ c.toNat ≤ 126 := by
  intro c hc
  unfold quote at hc
  rcases List.mem_append.1 hc with h | h
  · rcases List.mem_cons.1 h with rfl | h
    · decide
    · unfold toldAll at h
      obtain ⟨n, _, hn⟩ := List.mem_flatMap.1 h
      exact told_seen n c hn
  · simp only [List.mem_cons, List.not_mem_nil, or_false] at h
    subst h
    decide
theorem quote_10 (l : List UInt8) : (10 : UInt8) ∉ quote l := fun h => by have := (quote_seen l _ h).1; revert this; decide
theorem quote_big (l : List UInt8) : (quote l).length ≤ 10 * l.length + 2 := by
  unfold quote
  have h1 := toldAll_len (signs l) (signs_range l)
  have h2 := signs_len l
  simp only [List.length_append, List.length_cons, List.length_nil]
  omega
/-- No line has a line feed. -/
theorem eline_10 (e : Ev) : (10 : UInt8) ∉ eline e := by
  cases e with
  | el late p k t x =>
    simp only [eline]
    intro h
    rcases List.mem_append.1 h with h | h
    · exact lineOf_10 _ _ (by cases late <;> decide) h
    · rcases List.mem_cons.1 h with h | h
      · revert h; decide
      · exact quote_10 x h
  | mark n => exact lineOf_10 _ _ (by decide)
  | fault p n => exact lineOf_10 _ _ (by decide)
theorem eline_len (e : Ev) (h : e.ok) : (eline e).length ≤ 100 + 10 * (etext e).length := by
  cases e with
  | el late p k t x =>
    obtain ⟨h1, h2, h3⟩ := h
    have a := lineOf_len (elName late) [p, k, t] (by cases late <;> decide) (by simp [h1, h2, h3])
    have b := quote_big x
    simp only [List.length_cons, List.length_nil] at a
    simp only [eline, etext]
    rw [List.length_append, List.length_cons]
    omega
  | mark n =>
    have a := lineOf_len tMark [n] (by decide) (by intro y hy; rw [List.mem_singleton] at hy; subst hy; exact h)
    simp only [List.length_cons, List.length_nil] at a
    simp only [eline]
    omega
  | fault p n =>
    obtain ⟨h1, h2⟩ := h
    have a := lineOf_len tFault [p, n] (by decide) (by simp [h1, h2])
    simp only [List.length_cons, List.length_nil] at a
    simp only [eline]
    omega
end Go.Proofs.YtcigklninmddaaaGreatDoor.PEv
