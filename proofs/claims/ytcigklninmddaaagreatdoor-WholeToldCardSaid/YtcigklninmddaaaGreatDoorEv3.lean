/- event: the event of a line. -/
import Derived.Test.YtcigklninmddaaaGreatDoorEv2
namespace Go.Proofs.YtcigklninmddaaaGreatDoor
set_option maxRecDepth 4000
open Go.ChangeShapes Go.WideShapes Go.ChangeAt Go.RowKit
open PWord PQuote PSign PEv
open Go.Lib (itoa)
set_option linter.unusedVariables false
set_option linter.unusedSimpArgs false

/-- What a line is read as. -/
def EvPost (x? : Option (List UInt8)) (s : List UInt8) (w : World) (e : Ending) (w' : World) : Prop :=
  ∃ U, Reads x? U ∧ e = .returned (.tuple #[evo (eread U s), .bool (eread U s).isSome]) ∧ Below w.heap.size w w' ∧ ∀ v, eread U s = some v → (etext v).length ≤ s.length ∨ x? = some (etext v)

theorem one_ints {B : Nat} {w : World} {v : Value} {p : Int} (h : Sl B w 1 v 1 (iv [p])) : ∃ (g o c : Nat), v = .slice (some ⟨g, o, none⟩) 1 c ∧ 1 ≤ c ∧ g < w.heap.size ∧ w.cell? ⟨g, o, none⟩ = some (.int .i64 p) := by
  rcases h.2 with ⟨rfl, h0⟩ | ⟨g, off, cap, rfl, hb, hg, h1, h2, h3, h4⟩
  · cases h0
  · exact ⟨g, off, cap, rfl, h1, hg, h3 0 (by decide)⟩
theorem two_ints {B : Nat} {w : World} {v : Value} {p k : Int} (h : Sl B w 1 v 2 (iv [p, k])) : ∃ (g o c : Nat), v = .slice (some ⟨g, o, none⟩) 2 c ∧ 2 ≤ c ∧ g < w.heap.size ∧ w.cell? ⟨g, o, none⟩ = some (.int .i64 p) ∧ w.cell? ⟨g, o + 1, none⟩ = some (.int .i64 k) := by
  rcases h.2 with ⟨rfl, h0⟩ | ⟨g, off, cap, rfl, hb, hg, h1, h2, h3, h4⟩
  · cases h0
  · exact ⟨g, off, cap, rfl, h1, hg, h3 0 (by decide), h3 1 (by decide)⟩
theorem cut_le (l : List UInt8) : (Lib.cut l [32]).2.1.length ≤ l.length := by
  by_cases h : (32 : UInt8) ∈ l
  · obtain ⟨a, b, rfl, ha⟩ := part_at 32 l h
    rw [cut_some 32 a b ha]
    simp
    omega
  · rw [cut_none 32 l h]
    simp

theorem eread_el (U : List UInt8 → Option (List UInt8)) {s b : List UInt8} {y : Bool} (h : Lib.cut s [32] = (tElement, b, y)) : eread U s = rel U false b := by unfold eread; rw [h]; exact rd2_el U b
theorem eread_late (U : List UInt8 → Option (List UInt8)) {s b : List UInt8} {y : Bool} (h : Lib.cut s [32] = (tLate, b, y)) : eread U s = rel U true b := by unfold eread; rw [h]; exact rd2_late U b
theorem eread_mark (U : List UInt8 → Option (List UInt8)) {s b : List UInt8} {y : Bool} (h : Lib.cut s [32] = (tMark, b, y)) : eread U s = rmark b := by unfold eread; rw [h]; exact rd2_mark U b
theorem eread_fault (U : List UInt8 → Option (List UInt8)) {s b : List UInt8} {y : Bool} (h : Lib.cut s [32] = (tFault, b, y)) : eread U s = rfault b := by unfold eread; rw [h]; exact rd2_fault U b
theorem eread_other (U : List UInt8 → Option (List UInt8)) {s a b : List UInt8} {y : Bool} (h : Lib.cut s [32] = (a, b, y)) (h1 : a ≠ tElement) (h2 : a ≠ tLate) (h3 : a ≠ tMark) (h4 : a ≠ tFault) : eread U s = none := by
  unfold eread; rw [h]; unfold rd2; rw [if_neg h1, if_neg h2, if_neg h3, if_neg h4]

theorem reads_uof (x? : Option (List UInt8)) : Reads x? (Uof x?) := ⟨fun q y h => (uof_snd h).1, fun y h => by subst h; exact uof_all y⟩

set_option maxRecDepth 100000 in
set_option maxHeartbeats 2000000 in
theorem ev_read (x? : Option (List UInt8)) (hx : ∀ x, x? = some x → x.length ≤ 4096) (s : ByteArray) (w : World) (he : EnvE w) (hs : s.size ≤ 1000000)
    (hq : ∀ a1 a2 a3 q, cuts 32 3 (Lib.cut s.data.toList [32]).2.1 = [a1, a2, a3, q] → q.length ≤ 4096 ∨ ∃ x, x? = some x ∧ q = quote x) :
    Calls Tryz.prog 8 #[.string s] w (EvPost x? s.data.toList w) := by
  have hsl : s.data.toList.length = s.size := by simp
  have hcl := cut_le s.data.toList
  have HC := Lib.hid (li_cut s w hs he.wd)
  obtain ⟨a, b, y, hcut⟩ : ∃ a b y, Lib.cut s.data.toList [32] = (a, b, y) := ⟨_, _, _, rfl⟩
  rw [hcut] at hcl hq HC
  simp only at hcl hq HC
  have hbl : (bstr b).size ≤ 1000000 := by rw [bstr_len]; omega
  have hEL : ∀ (late : Bool) w', EnvE w' → Hid (Calls Tryz.prog 25 #[.string (bstr b), .bool late] w' (ElPost x? late b w')) := fun late w' h => ev_el x? hx (bstr b) late w' h hbl hq
  have HCL := Lib.hid hcl
  by_cases k0 : a = tElement
  · subst k0
    have HE := Lib.hid (fun U => eread_el U hcut)
    clear hcut hcl hq hx hbl hsl
    go_enter Tryz.func8, Tryz.ntmps8
    go_wp2_with (first | (go_at_call 24; (with_reducible refine HC.out.mono ?_); rintro e w1 ⟨t1, rfl, hb1⟩; have he1 := he.on hb1) | (go_at_call 25; (with_reducible refine (hEL _ _ he1).out.mono ?_); rintro e w2 ⟨U, hRd, rfl, hb2, hlen⟩))
    go_ret2
    exact ⟨U, hRd, (by rw [HE.out U]; rfl), on_below hb1 hb2, fun v h => by rw [HE.out U] at h; exact (hlen v h).imp (fun hx => Nat.le_trans hx HCL.out) id⟩
  by_cases k1 : a = tLate
  · subst k1
    have HE := Lib.hid (fun U => eread_late U hcut)
    clear hcut hcl hq hx hbl hsl k0
    go_enter Tryz.func8, Tryz.ntmps8
    go_wp2_with (first | (go_at_call 24; (with_reducible refine HC.out.mono ?_); rintro e w1 ⟨t1, rfl, hb1⟩; have he1 := he.on hb1) | (go_at_call 25; (with_reducible refine (hEL _ _ he1).out.mono ?_); rintro e w2 ⟨U, hRd, rfl, hb2, hlen⟩))
    go_ret2
    exact ⟨U, hRd, (by rw [HE.out U]; rfl), on_below hb1 hb2, fun v h => by rw [HE.out U] at h; exact (hlen v h).imp (fun hx => Nat.le_trans hx HCL.out) id⟩
  by_cases k2 : a = tMark
  · subst k2
    have HE := Lib.hid (fun U => eread_mark U hcut)
    have HM := fun w' h => Lib.hid (ev_many (bstr b) 1 1 rfl (by decide) (by decide) w' h hbl)
    rw [show (bstr b).data.toList = b from rfl] at HM
    clear hcut hcl hq hx hbl hsl k0 k1 hEL
    rcases many_one b with ⟨hm, hr⟩ | ⟨n, hm, hr, hn⟩
    · rw [hm] at HM
      have HR := Lib.hid hr
      clear hm hr
      go_enter Tryz.func8, Tryz.ntmps8
      go_wp2_with (first | (go_at_call 24; (with_reducible refine HC.out.mono ?_); rintro e w1 ⟨t1, rfl, hb1⟩; have he1 := he.on hb1) | (go_at_call 26; (with_reducible refine (HM _ he1.wd).out.mono ?_); rintro e w2 ⟨v, rfl, hv, hb2⟩))
      go_ret2
      exact ⟨Uof x?, reads_uof x?, by rw [HE.out, HR.out]; rfl, on_below hb1 hb2, fun v h => by rw [HE.out, HR.out] at h; cases h <;> exact .inl (Nat.zero_le _)⟩
    · rw [hm] at HM
      have HR := Lib.hid hr
      clear hm hr
      go_enter Tryz.func8, Tryz.ntmps8
      go_wp2_with (first | (go_at_call 24; (with_reducible refine HC.out.mono ?_); rintro e w1 ⟨t1, rfl, hb1⟩; have he1 := he.on hb1) | (go_at_call 26; (with_reducible refine (HM _ he1.wd).out.mono ?_); rintro e w2 ⟨v, rfl, hv, hb2⟩; obtain ⟨g4, o4, c4, rfl, hc34, hg4, m0⟩ := one_ints (hv _ rfl)))
      go_ret2
      exact ⟨Uof x?, reads_uof x?, by rw [HE.out, HR.out]; rfl, on_below hb1 hb2, fun v h => by rw [HE.out, HR.out] at h; cases h <;> exact .inl (Nat.zero_le _)⟩
  by_cases k3 : a = tFault
  · subst k3
    have HE := Lib.hid (fun U => eread_fault U hcut)
    have HM := fun w' h => Lib.hid (ev_many (bstr b) 2 2 rfl (by decide) (by decide) w' h hbl)
    rw [show (bstr b).data.toList = b from rfl] at HM
    clear hcut hcl hq hx hbl hsl k0 k1 k2 hEL
    rcases many_two b with ⟨hm, hr⟩ | ⟨p, n, hm, hr, hp, hn⟩
    · rw [hm] at HM
      have HR := Lib.hid hr
      clear hm hr
      go_enter Tryz.func8, Tryz.ntmps8
      go_wp2_with (first | (go_at_call 24; (with_reducible refine HC.out.mono ?_); rintro e w1 ⟨t1, rfl, hb1⟩; have he1 := he.on hb1) | (go_at_call 26; (with_reducible refine (HM _ he1.wd).out.mono ?_); rintro e w2 ⟨v, rfl, hv, hb2⟩))
      go_ret2
      exact ⟨Uof x?, reads_uof x?, by rw [HE.out, HR.out]; rfl, on_below hb1 hb2, fun v h => by rw [HE.out, HR.out] at h; cases h <;> exact .inl (Nat.zero_le _)⟩
    · rw [hm] at HM
      have HR := Lib.hid hr
      clear hm hr
      go_enter Tryz.func8, Tryz.ntmps8
      go_wp2_with (first | (go_at_call 24; (with_reducible refine HC.out.mono ?_); rintro e w1 ⟨t1, rfl, hb1⟩; have he1 := he.on hb1) | (go_at_call 26; (with_reducible refine (HM _ he1.wd).out.mono ?_); rintro e w2 ⟨v, rfl, hv, hb2⟩; obtain ⟨g4, o4, c4, rfl, hc34, hg4, m0, m1⟩ := two_ints (hv _ rfl)))
      go_quiet (fail)
      go_wp2
      go_ret2
      exact ⟨Uof x?, reads_uof x?, by rw [HE.out, HR.out]; rfl, below_drewN (on_below hb1 hb2) _, fun v h => by rw [HE.out, HR.out] at h; cases h; exact .inl (Nat.zero_le _)⟩
  have HE := Lib.hid (fun U => eread_other U hcut k0 k1 k2 k3)
  have e0 : (a == [101, 108, 101, 109, 101, 110, 116]) = false := by rw [beq_eq_false_iff_ne]; exact k0
  have e1 : (a == [108, 97, 116, 101]) = false := by rw [beq_eq_false_iff_ne]; exact k1
  have e2 : (a == [109, 97, 114, 107]) = false := by rw [beq_eq_false_iff_ne]; exact k2
  have e3 : (a == [102, 97, 117, 108, 116]) = false := by rw [beq_eq_false_iff_ne]; exact k3
  clear hcut hcl hq hx hbl hsl k0 k1 k2 k3 hEL
  go_enter Tryz.func8, Tryz.ntmps8
  go_wp2_with (first | (go_at_call 24; (with_reducible refine HC.out.mono ?_); rintro e w1 ⟨t1, rfl, hb1⟩; have he1 := he.on hb1))
  go_ret2
  exact ⟨Uof x?, reads_uof x?, by rw [HE.out]; rfl, hb1, fun v h => by rw [HE.out] at h; cases h⟩
end Go.Proofs.YtcigklninmddaaaGreatDoor
