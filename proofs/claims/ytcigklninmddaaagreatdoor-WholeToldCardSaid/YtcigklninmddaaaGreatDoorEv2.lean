/- event: an element, read; whatever event a line tells. -/
import Derived.Test.YtcigklninmddaaaGreatDoorEv1
namespace Go.Proofs.YtcigklninmddaaaGreatDoor
set_option maxRecDepth 4000
open Go.ChangeShapes Go.WideShapes Go.ChangeAt Go.RowKit
open PWord PQuote PSign PEv
open Go.Lib (itoa)
set_option linter.unusedVariables false
set_option linter.unusedSimpArgs false

/-- An event's value. -/
def evv : Ev → Value
  | .el late p k t x => .iface 55 (.agg #[.int .i64 p, .int .i64 k, .int .i64 t, .string (bstr x), .bool late])
  | .mark n => .iface 70 (.agg #[.int .i64 n])
  | .fault p e => .iface 40 (.agg #[.int .i64 p, .int .i64 e])
/-- An event, or none. -/
def evo : Option Ev → Value
  | some v => evv v
  | none => .nilIface
/-- What an element's text behind its name is read as. -/
def ElPost (x? : Option (List UInt8)) (late : Bool) (s : List UInt8) (w : World) (e : Ending) (w' : World) : Prop :=
  ∃ U, Reads x? U ∧ e = .returned (.tuple #[evo (rel U late s), .bool (rel U late s).isSome]) ∧ Below w.heap.size w w' ∧ ∀ v, rel U late s = some v → (etext v).length ≤ s.length ∨ x? = some (etext v)

/-- The ways that it can go. -/
theorem rel_ways (late : Bool) (b : List UInt8) : ((cuts 32 3 b).length ≤ 3 ∧ ∀ U, rel U late b = none) ∨ ∃ a1 a2 a3 q, cuts 32 3 b = [a1, a2, a3, q] ∧
    ((nums [a1, a2, a3] = none ∧ ∀ U, rel U late b = none) ∨ ∃ p k t, nums [a1, a2, a3] = some [p, k, t] ∧ in64 p ∧ in64 k ∧ in64 t ∧ ∀ U, rel U late b = (U q).map fun x => .el late p k t x) := by
  have hl := (cuts_lim 32 3 b).1
  have hr : ∀ U, rel U late b = match cuts 32 3 b with
    | [a1, a2, a3, q] => match nums [a1, a2, a3], U q with
      | some [p, k, t], some x => some (.el late p k t x)
      | _, _ => none
    | _ => none := fun _ => rfl
  generalize cuts 32 3 b = L at *
  match L, hl with
  | [], _ => exact .inl ⟨by simp, fun U => by rw [hr]⟩
  | [_], _ => exact .inl ⟨by simp, fun U => by rw [hr]⟩
  | [_, _], _ => exact .inl ⟨by simp, fun U => by rw [hr]⟩
  | [_, _, _], _ => exact .inl ⟨by simp, fun U => by rw [hr]⟩
  | [a1, a2, a3, q], _ =>
    refine .inr ⟨a1, a2, a3, q, rfl, ?_⟩
    cases hn : nums [a1, a2, a3] with
    | none => exact .inl ⟨rfl, fun U => by rw [hr]; simp only [hn]⟩
    | some l =>
      obtain ⟨h1, h2⟩ := nums_some hn
      match l, h1, h2 with
      | [p, k, t], _, h2 =>
        refine .inr ⟨p, k, t, rfl, h2 p (by simp), h2 k (by simp), h2 t (by simp), fun U => ?_⟩
        rw [hr]
        simp only [hn]
        cases U q <;> rfl
  | _ :: _ :: _ :: _ :: _ :: _, hl => simp at hl

theorem bstr_of {s : ByteArray} {l : List UInt8} (h : s.data.toList = l) : s = bstr l := by subst h; rfl
theorem four_of {ws : List ByteArray} {a b c d : List UInt8} (h : ws.map (·.data.toList) = [a, b, c, d]) : ws = [bstr a, bstr b, bstr c, bstr d] := by
  match ws, h with
  | [w1, w2, w3, w4], h =>
    simp only [List.map_cons, List.map_nil, List.cons.injEq, and_true] at h
    obtain ⟨h1, h2, h3, h4⟩ := h
    rw [bstr_of h1, bstr_of h2, bstr_of h3, bstr_of h4]
theorem one_cell_e : ∀ w : World, (Go.sizeOf 9).run Tryz.prog w = .ok 1 w := Tryz.sizeOf9
/-- Three numbers of one's own. -/
theorem three_ints {B : Nat} {w : World} {v : Value} {p k t : Int} (h : Sl B w 1 v 3 (iv [p, k, t])) : ∃ (g o c : Nat), v = .slice (some ⟨g, o, none⟩) 3 c ∧ 3 ≤ c ∧ g < w.heap.size ∧ w.cell? ⟨g, o, none⟩ = some (.int .i64 p) ∧ w.cell? ⟨g, o + 1, none⟩ = some (.int .i64 k) ∧ w.cell? ⟨g, o + 2, none⟩ = some (.int .i64 t) := by
  rcases h.2 with ⟨rfl, h0⟩ | ⟨g, off, cap, rfl, hb, hg, h1, h2, h3, h4⟩
  · cases h0
  · exact ⟨g, off, cap, rfl, h1, hg, h3 0 (by decide), h3 1 (by decide), h3 2 (by decide)⟩

set_option maxRecDepth 100000 in
set_option maxHeartbeats 2000000 in
theorem ev_el (x? : Option (List UInt8)) (hx : ∀ x, x? = some x → x.length ≤ 4096) (s : ByteArray) (late : Bool) (w : World) (he : EnvE w) (hs : s.size ≤ 1000000)
    (hq : ∀ a1 a2 a3 q, cuts 32 3 s.data.toList = [a1, a2, a3, q] → q.length ≤ 4096 ∨ ∃ x, x? = some x ∧ q = quote x) :
    Calls Tryz.prog 25 #[.string s, .bool late] w (ElPost x? late s.data.toList w) := by
  have hsl : s.data.toList.length = s.size := by simp
  have hcx := (cuts_lim 32 3 s.data.toList).2
  rw [hsl] at hcx
  have HS := fun w he => Lib.hid (li_splitk s 4 4 rfl (by decide) (by decide) w hs he)
  rcases rel_ways late s.data.toList with ⟨hL3, hR⟩ | ⟨a1, a2, a3, q, hc4, hW⟩
  · have HR := Lib.hid hR
    clear hR hq hcx hx
    go_enter Tryz.func25, Tryz.ntmps25
    go_wp2_with (go_at_call 38; refine (HS _ he.wd).out.mono ?_)
    rintro e w1 ⟨g, c, ws, rfl, hL, hRow, hc, hcm, hg, hb1⟩
    have hwl : ws.length ≤ 3 := by
      rw [← hL, List.length_map] at hL3
      exact hL3
    clear hL3 hL
    go_wp2
    go_ret2
    exact ⟨Uof x?, ⟨fun q y h => (uof_snd h).1, fun y h => by subst h; exact uof_all y⟩, by rw [HR.out]; rfl, hb1, fun v h => by rw [HR.out] at h; cases h⟩
  · have hqq := hq a1 a2 a3 q hc4
    rw [hc4] at hcx
    rw [show 4 - 1 = 3 from rfl, hc4] at HS
    have h1 := hcx a1 (by simp)
    have h2 := hcx a2 (by simp)
    have h3 := hcx a3 (by simp)
    have h4 := hcx q (by simp)
    clear hcx hq hc4
    have HU : ∀ w', EnvE w' → Hid (Calls Tryz.prog 40 #[.string (bstr q)] w' (UnqU x? (bstr q) w')) := fun w' h => unq_is x? hx (bstr q) w' h.qu (by rw [bstr_len]; exact hqq)
    clear hqq hx
    have HN := fun w (he : EnvW w) g c (hr : RowS w (some ⟨g, 0, none⟩) [bstr a1, bstr a2, bstr a3]) => Lib.hid (cf_numbers (some ⟨g, 0, none⟩) 3 c [bstr a1, bstr a2, bstr a3] w he hr rfl (by simp) (by
      intro x hx
      simp only [List.mem_cons, List.not_mem_nil, or_false] at hx
      rcases hx with rfl | rfl | rfl <;> rw [bstr_len] <;> omega))
    rw [show bl [bstr a1, bstr a2, bstr a3] = [a1, a2, a3] from rfl] at HN
    have HQL : Hid (q.length ≤ s.data.toList.length) := by rw [hsl]; exact h4
    clear h1 h2 h3 h4 hsl
    rcases hW with ⟨hn, hR⟩ | ⟨p, k, t, hn, hp, hk, ht, hR⟩
    · rw [hn] at HN
      have HR := Lib.hid hR
      clear hR hn
      go_enter Tryz.func25, Tryz.ntmps25
      go_wp2_with (go_at_call 38; refine (HS _ he.wd).out.mono ?_)
      rintro e w1 ⟨g, c, ws, rfl, hL, hRow, hc, hcm, hg, hb1⟩
      obtain rfl := four_of hL
      have hru := fun w' => rows_to (P := Tryz.prog) (a := some ⟨g, 0, none⟩) (n := 4) (c := c) hc (by unfold maxLen; omega) Tryz.underlying61 one_cell_e 3 3 rfl (by decide) w'
      have he1 := he.on hb1
      have hr3 : RowS w1 (some ⟨g, 0, none⟩) [bstr a1, bstr a2, bstr a3] := hRow.take 3
      have hc4 := fun w' (h : RowS w' (some ⟨g, 0, none⟩) [bstr a1, bstr a2, bstr a3, bstr q]) => h.cell 3 (by simp)
      simp only [Nat.zero_add, List.getElem_cons_succ, List.getElem_cons_zero] at hc4
      have HROW := Lib.hid hRow
      have HC4 := Lib.hid hc4
      clear hL hc hcm hRow hc4
      go_wp2_with (first | (go_at_call 39; (with_reducible refine (HN _ he1.wd g c hr3).out.mono ?_); rintro e w2 ⟨v, rfl, hv, hb2⟩; have he2 := he1.on hb2; obtain ⟨hgl, hcell⟩ := HC4.out _ (HROW.out.below hb2)) | (go_at_call 40; (with_reducible refine (HU _ he2).out.mono ?_); rintro e w3 ⟨U, hRd, rfl, hb3, hlen⟩))
      go_ret2
      exact ⟨U, hRd, by rw [HR.out]; rfl, on_below (on_below hb1 hb2) hb3, fun v h => by rw [HR.out] at h; cases h⟩
    · rw [hn] at HN
      have HR := Lib.hid hR
      clear hR hn
      go_enter Tryz.func25, Tryz.ntmps25
      go_wp2_with (go_at_call 38; refine (HS _ he.wd).out.mono ?_)
      rintro e w1 ⟨g, c, ws, rfl, hL, hRow, hc, hcm, hg, hb1⟩
      obtain rfl := four_of hL
      have hru := fun w' => rows_to (P := Tryz.prog) (a := some ⟨g, 0, none⟩) (n := 4) (c := c) hc (by unfold maxLen; omega) Tryz.underlying61 one_cell_e 3 3 rfl (by decide) w'
      have he1 := he.on hb1
      have hr3 : RowS w1 (some ⟨g, 0, none⟩) [bstr a1, bstr a2, bstr a3] := hRow.take 3
      have hc4 := fun w' (h : RowS w' (some ⟨g, 0, none⟩) [bstr a1, bstr a2, bstr a3, bstr q]) => h.cell 3 (by simp)
      simp only [Nat.zero_add, List.getElem_cons_succ, List.getElem_cons_zero] at hc4
      have HROW := Lib.hid hRow
      have HC4 := Lib.hid hc4
      clear hL hc hcm hRow hc4
      go_wp2_with (go_at_call 39; refine (HN _ he1.wd g c hr3).out.mono ?_)
      rintro e w2 ⟨v, rfl, hv, hb2⟩
      have he2 := he1.on hb2
      obtain ⟨hgl, hcell⟩ := HC4.out _ (HROW.out.below hb2)
      go_wp2_with (go_at_call 40; refine (HU _ he2).out.mono ?_)
      rintro e w3 ⟨U, hRd, rfl, hb3, hlen⟩
      have hv3 : Sl w1.heap.size w3 1 v 3 (iv [p, k, t]) := hv.onW hb3
      obtain ⟨g4, o4, c4, rfl, hc34, hg4, m0, m1, m2⟩ := three_ints hv3
      have HLN := Lib.hid hlen
      clear hlen
      cases hu : U q with
      | none =>
        have HU2 := Lib.hid hu
        clear hu hv hv3
        go_wp2
        go_ret2
        exact ⟨U, hRd, by rw [HR.out, HU2.out]; rfl, on_below (on_below hb1 hb2) hb3, fun v h => by rw [HR.out, HU2.out] at h; cases h⟩
      | some x =>
        have HU2 := Lib.hid hu
        clear hu hv hv3
        go_wp2
        go_quiet (fail)
        go_wp2
        go_ret2
        exact ⟨U, hRd, by rw [HR.out, HU2.out]; rfl, below_drewN (on_below (on_below hb1 hb2) hb3) _, fun v h => by
          rw [HR.out, HU2.out] at h
          cases h
          exact (HLN.out x HU2.out).imp (fun hx => by rw [bstr_len] at hx; show x.length ≤ _; have := HQL.out; omega) id⟩
end Go.Proofs.YtcigklninmddaaaGreatDoor
