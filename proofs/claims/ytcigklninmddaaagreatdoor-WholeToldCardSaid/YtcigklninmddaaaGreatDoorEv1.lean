/- event: what is read of a line. -/
import Derived.Test.YtcigklninmddaaaGreatDoorEvPlain
import Derived.Test.YtcigklninmddaaaGreatDoorQUn4
import Derived.Test.YtcigklninmddaaaGreatDoorConf1
namespace Go.Proofs.YtcigklninmddaaaGreatDoor
set_option maxRecDepth 4000
open Go.ChangeShapes Go.WideShapes Go.ChangeAt Go.RowKit
open PWord PQuote PSign PEv
open Go.Lib (itoa)
set_option linter.unusedVariables false
set_option linter.unusedSimpArgs false

/-- What the library's own variables hold, for words and for marks. -/
structure EnvE (w : World) : Prop where
  wd : EnvW w
  qu : Env w
theorem EnvE.on {w w' : World} (h : EnvE w) (hb : Below w.heap.size w w') : EnvE w' := ⟨h.wd.on hb, h.qu.on hb⟩

/-- What reads texts in marks: it reads nothing else; and it reads this one. -/
structure Reads (x? : Option (List UInt8)) (U : List UInt8 → Option (List UInt8)) : Prop where
  snd : ∀ q x, U q = some x → quote x = q
  all : ∀ x, x? = some x → U (quote x) = some x

/-- A text out of its marks. -/
def UnqU (x? : Option (List UInt8)) (q : ByteArray) (w : World) (e : Ending) (w' : World) : Prop :=
  ∃ U, Reads x? U ∧ e = .returned (.tuple #[.string (bstr ((U q.data.toList).getD [])), .bool (U q.data.toList).isSome]) ∧ Below w.heap.size w w' ∧ ∀ y, U q.data.toList = some y → y.length ≤ q.size ∨ x? = some y
def Uof (x? : Option (List UInt8)) (q : List UInt8) : Option (List UInt8) := match x? with
  | some x => if q = quote x then some x else none
  | none => none
theorem uof_snd {x? : Option (List UInt8)} {q x : List UInt8} (h : Uof x? q = some x) : quote x = q ∧ x? = some x := by
  unfold Uof at h
  cases x? with
  | none => cases h
  | some y =>
    simp only at h
    split at h
    · rename_i e; cases h; exact ⟨e.symm, rfl⟩
    · cases h
theorem uof_all (x : List UInt8) : Uof (some x) (quote x) = some x := by show (if quote x = quote x then some x else none) = _; rw [if_pos rfl]

theorem unq_is (x? : Option (List UInt8)) (hx : ∀ x, x? = some x → x.length ≤ 4096) (q : ByteArray) (w : World) (he : Env w) (hs : q.size ≤ 4096 ∨ ∃ x, x? = some x ∧ q.data.toList = quote x) :
    Calls Tryz.prog 40 #[.string q] w (UnqU x? q w) := by
  by_cases h : ∃ x, x? = some x ∧ q.data.toList = quote x
  · obtain ⟨x, rfl, hq⟩ := h
    have hqb : q = bstr (quote x) := by rw [← hq]
    subst hqb
    refine (unq_ok x w he (hx x rfl)).mono ?_
    rintro e w' ⟨rfl, hb⟩
    have hu : Uof (some x) (bstr (quote x)).data.toList = some x := uof_all x
    exact ⟨Uof (some x), ⟨fun q y h => (uof_snd h).1, fun y h => by cases h; exact uof_all x⟩, by rw [hu]; rfl, hb, fun y h => .inr (by rw [hu] at h; exact h)⟩
  · have hs' : q.size ≤ 4096 := hs.resolve_right h
    have hno : Uof x? q.data.toList = none := by
      cases hu : Uof x? q.data.toList with
      | none => rfl
      | some y => exact absurd ⟨y, (uof_snd hu).2, (uof_snd hu).1.symm⟩ h
    refine (unq_any q w he hs').mono ?_
    rintro e w' ⟨l, b, rfl, hl, h1, h2, hb⟩
    cases b with
    | false =>
      refine ⟨Uof x?, ⟨fun q y h => (uof_snd h).1, fun y h => by subst h; exact uof_all y⟩, ?_, hb, fun y h => by rw [hno] at h; cases h⟩
      rw [hno, h2 rfl]
      rfl
    | true =>
      refine ⟨fun p => if p = q.data.toList then some l else Uof x? p, ⟨fun p y hp => ?_, fun y hy => ?_⟩, ?_, hb, fun y h => .inl (by simp at h; rw [← h]; exact hl)⟩
      · split at hp
        · rename_i e
          cases hp
          rw [e]; exact h1 rfl
        · exact (uof_snd hp).1
      · split
        · rename_i e
          exact absurd ⟨y, hy, e.symm⟩ h
        · subst hy; exact uof_all y
      · simp

/-- strings.SplitN at a blank. -/
theorem li_splitk (s : ByteArray) (n : Nat) (z : Int) (hz : z = n) (h1 : 1 ≤ n) (hn : n ≤ 1000) (w : World) (hs : s.size ≤ 1000000) (he : EnvW w) :
    Calls Tryz.prog 38 #[.string s, .string ⟨#[32]⟩, .int .i64 z] w (Parted w (cuts 32 (n - 1) s.data.toList)) := by
  subst hz
  obtain ⟨m, hm⟩ := he.max
  refine (Tryz.strings_SplitN s ⟨#[32]⟩ n m w (by omega) hm (by decide) h1 (by omega)).mono ?_
  rintro e w' ⟨rfl, rfl⟩
  have hlen := Lib.splitB_length_le ⟨#[32]⟩ 0 (min n (s.size + 1) - 1) s
  refine ⟨w.heap.size, min n (s.size + 1), _, rfl, ?_, rows_cells w _ _ _, by omega, by omega, Nat.le_refl _, (Below.refl _ _).alloc (Nat.le_refl _) _⟩
  rw [Lib.splitB_data, show min n (s.size + 1) - 1 = min (n - 1) s.data.toList.length by rw [Array.length_toList]; show min n (s.data.size + 1) - 1 = _; omega]
  exact cuts_min 32 (n - 1) s.data.toList

theorem cuts_lim (c : UInt8) : ∀ (k : Nat) (l : List UInt8), (cuts c k l).length ≤ k + 1 ∧ ∀ x ∈ cuts c k l, x.length ≤ l.length := by
  intro k
  induction k with
  | zero => intro l; exact ⟨by show [l].length ≤ _; simp, fun x hx => by have : x ∈ [l] := hx; simp at this; rw [this]; exact Nat.le_refl _⟩
  | succ k ih =>
    intro l
    by_cases hc : c ∈ l
    · obtain ⟨a, b, rfl, ha⟩ := part_at c l hc
      rw [cuts_some c k a b ha]
      obtain ⟨h1, h2⟩ := ih b
      refine ⟨by simp only [List.length_cons]; omega, fun x hx => ?_⟩
      rcases List.mem_cons.1 hx with rfl | hx
      · simp
      · have := h2 x hx; simp; omega
    · rw [cuts_none c _ l hc]
      exact ⟨by simp, fun x hx => by simp at hx; rw [hx]; exact Nat.le_refl _⟩

/-! ### Numbers alone -/

/-- So many numbers, and nothing else. -/
def manyOf (m : Nat) (b : List UInt8) : Option (List Int) := if (cuts 32 (m - 1) b).length < m then none else nums (cuts 32 (m - 1) b)
theorem many_one (b : List UInt8) : (manyOf 1 b = none ∧ rmark b = none) ∨ ∃ n, manyOf 1 b = some [n] ∧ rmark b = some (.mark n) ∧ in64 n := by
  have hc : cuts 32 (1 - 1) b = [b] := rfl
  have hm : manyOf 1 b = nums [b] := by unfold manyOf; rw [hc, if_neg (by simp)]
  have hr : rmark b = match nums [b] with
    | some [n] => some (.mark n)
    | _ => none := rfl
  rw [hm, hr]
  cases hn : nums [b] with
  | none => exact .inl ⟨rfl, rfl⟩
  | some l =>
    obtain ⟨h1, h2⟩ := nums_some hn
    match l, h1 with
    | [n], _ => exact .inr ⟨n, rfl, rfl, h2 n (by simp)⟩
theorem many_two (b : List UInt8) : (manyOf 2 b = none ∧ rfault b = none) ∨ ∃ p n, manyOf 2 b = some [p, n] ∧ rfault b = some (.fault p n) ∧ in64 p ∧ in64 n := by
  have hl := (cuts_lim 32 1 b).1
  have hr : rfault b = match nums (cuts 32 1 b) with
    | some [p, e] => some (.fault p e)
    | _ => none := rfl
  have hm : manyOf 2 b = if (cuts 32 1 b).length < 2 then none else nums (cuts 32 1 b) := rfl
  rw [hm, hr]
  by_cases h : (cuts 32 1 b).length < 2
  · rw [if_pos h]
    refine .inl ⟨rfl, ?_⟩
    cases hn : nums (cuts 32 1 b) with
    | none => rfl
    | some l =>
      obtain ⟨h1, _⟩ := nums_some hn
      rw [h1, List.length_map] at h
      match l, h with
      | [], _ => rfl
      | [_], _ => rfl
  · rw [if_neg h]
    cases hn : nums (cuts 32 1 b) with
    | none => exact .inl ⟨rfl, rfl⟩
    | some l =>
      obtain ⟨h1, h2⟩ := nums_some hn
      rw [h1, List.length_map] at h hl
      match l, h, hl with
      | [p, n], _, _ => exact .inr ⟨p, n, rfl, rfl, h2 p (by simp), h2 n (by simp)⟩
      | [], h, _ => exact absurd (by simp) h
      | [_], h, _ => exact absurd (by simp) h
      | _ :: _ :: _ :: _, _, hl => simp at hl

/-- Numbers, or none. -/
def ManyPost (o : Option (List Int)) (w : World) (e : Ending) (w' : World) : Prop :=
  ∃ v, e = .returned (.tuple #[v, .bool o.isSome]) ∧ (∀ l, o = some l → Sl w.heap.size w' 1 v l.length (iv l)) ∧ Below w.heap.size w w'

set_option maxRecDepth 100000 in
set_option maxHeartbeats 1000000 in
theorem ev_many (s : ByteArray) (m : Nat) (z : Int) (hz : z = m) (h1 : 1 ≤ m) (h2 : m ≤ 10) (w : World) (he : EnvW w) (hs : s.size ≤ 1000000) :
    Calls Tryz.prog 26 #[.string s, .int .i64 z] w (ManyPost (manyOf m s.data.toList) w) := by
  have hsl : s.data.toList.length = s.size := by simp
  obtain ⟨hcl, hcx⟩ := cuts_lim 32 (m - 1) s.data.toList
  rw [hsl] at hcx
  have HS := fun w he => Lib.hid (li_splitk s m z hz h1 (by omega) w hs he)
  obtain ⟨o, ho⟩ : ∃ o, manyOf m s.data.toList = o := ⟨_, rfl⟩
  rw [ho]
  unfold manyOf at ho
  generalize cuts 32 (m - 1) s.data.toList = L at *
  subst hz
  go_enter Tryz.func26, Tryz.ntmps26
  go_wp2_with (go_at_call 38; refine (HS _ he).out.mono ?_)
  rintro e w1 ⟨g, c, ws, rfl, hL, hR, hc, hcm, hg, hb1⟩
  have hwl : ws.length = L.length := by rw [← hL, List.length_map]
  have hcn : ws.length ≤ 1000 := by omega
  have hcs : ∀ x ∈ ws, x.size ≤ 1000000 := fun x hx => by
    have := hcx x.data.toList (by rw [← hL]; exact List.mem_map_of_mem hx)
    simp at this
    have e : x.data.size = x.size := rfl
    omega
  have HN := fun w he hr => Lib.hid (cf_numbers (some ⟨g, 0, none⟩) ws.length c ws w he hr rfl hcn hcs)
  rw [show bl ws = L from hL] at HN
  by_cases hlt : L.length < m
  · rw [if_pos hlt] at ho
    subst ho
    rw [← hwl] at hlt
    clear hcl hcx hL HN hcs hwl
    go_wp2
    go_ret2
    exact ⟨_, rfl, (fun l h => nomatch h), hb1⟩
  · rw [if_neg hlt] at ho
    rw [← hwl] at hlt
    clear hcl hcx hL hcs hwl
    have he1 := he.on hb1
    rw [ho] at HN
    go_wp2_with (first | (go_at_call 39; (with_reducible refine (HN _ he1 hR).out.mono ?_); rintro e w2 ⟨v, rfl, hv, hb2⟩))
    go_ret2
    exact ⟨_, rfl, fun l h => by subst h; exact hv.base hb1.size, on_below hb1 hb2⟩
end Go.Proofs.YtcigklninmddaaaGreatDoor
