/- The library's Clone and Reverse, at rows of ints. -/
import Derived.Test.YtlinkbflampanaaSameI
import Derived.Test.YtlinkbflampanaaOwn
import Derived.Test.YtlinkbflampanaaSlots
import Derived.Lib.SliceRun
import Derived.BigRegion
import Derived.Deep.LoopGhost
import Derived.WalkLawsBesides
namespace Go.Proofs.Ytlinkbflampanaa
open Go.ChangeShapes Go.WideShapes Go.ChangeAt Go.RowKit
set_option linter.unusedVariables false
set_option linter.unusedSimpArgs false

def ClonePost (l : List Int) (w : World) (e : Ending) (w' : World) : Prop := ∃ v, e = .returned v ∧ Sl w.heap.size w' 1 v l.length (iv l) ∧ Below w.heap.size w w'
set_option maxHeartbeats 1000000 in
theorem sl_clone (a : Option Addr) (n c : Nat) (l : List Int) (w : World) (hn : n = l.length) (hl : RowI w .i64 a l) (hb : l.length ≤ 100000) :
    Calls Try.prog 21 #[.slice a n c] w (ClonePost l w) := by
  have q22 : ∀ (w : World) (a : Option Addr) (n c n' c' : Nat), (binOp .eql 22 (.slice a n c) (.slice none n' c')).run Try.prog w = .ok (.bool a.isNone) w := fun w a n c n' c' => Lib.run_eql_slice_nil w _ _ a n c n' c' Try.underlying22
  obtain ⟨i0, hi0, hz0, hz1, hz2⟩ := info_parts info_int
  cases a with
  | none =>
    have h0 : l = [] := by
      cases l with
      | nil => rfl
      | cons r rs => obtain ⟨b, off, h1, _⟩ := hl.at_ 0 (by simp); cases h1
    subst h0
    subst hn
    go_enter Try.func21, Try.ntmps21
    go_wp2
    go_ret
    exact ⟨_, rfl, Sl.nil _ _ _, Below.refl _ _⟩
  | some ad =>
    subst hn
    have hsl : Sl w.heap.size (w.alloc (.cells #[] 3)) 1 (.slice (some ⟨w.heap.size, 0, none⟩) 0 0) 0 [] := by
      simpa using Sl.made (B := w.heap.size) w #[] 3 1 0 0 (Nat.le_refl _) (Nat.zero_le _) (Nat.zero_le _) (by simp)
    have hbel : Below w.heap.size w (w.alloc (.cells #[] 3)) := (Below.refl _ _).alloc (Nat.le_refl _) _
    have hl2 := hl.below hbel
    go_enter Try.func21, Try.ntmps21
    go_wp2_with (at_builtin; refine wpList_append_sl _ rfl (.tmp 5) (.tmp 6) 22 22 rfl 3 i0 (.int .i64 0) 8 Try.underlying22 hi0 hz0 hz1 hz2 rfl rfl hsl _ l.length (iv l) rfl (src_ints Try.underlying22 _ _ _ _ l hl2 rfl) (by unfold maxLen; omega) (by omega) (by simp) ?_; intro v1 w1 k1 k2 k3)
    go_ret
    refine ⟨v1, rfl, ?_, hbel.upd k2 hbel.size (fun i _ h => (hsl.lt i h).1)⟩
    simpa using k1

/-- The row with its first p and its last p exchanged. -/
def turnedF (n : Nat) (L : Nat → Value) (p : Nat) (t : Nat) : Value := if t < p ∨ n ≤ t + p then L (n - 1 - t) else L t
theorem Own.turn {w : World} {g off n p : Nat} {L : Nat → Value} (h : Own w g off n (turnedF n L p)) (hp : p + p + 1 < n) : Own ((w.setCell ⟨g, off + p, none⟩ (L (n - 1 - p))).setCell ⟨g, off + (n - 1 - p), none⟩ (L p)) g off n (turnedF n L (p + 1)) := by
  refine ((h.set p (by omega) _).set (n - 1 - p) (by omega) _).congr (fun j hj => ?_)
  unfold turnedF
  by_cases h1 : j = n - 1 - p
  · rw [if_pos h1, if_pos (by omega)]
    exact congrArg L (by omega)
  · rw [if_neg h1]
    by_cases h2 : j = p
    · rw [if_pos h2, if_pos (by omega)]
      exact congrArg L (by omega)
    · rw [if_neg h2]
      by_cases h3 : j < p ∨ n ≤ j + p
      · rw [if_pos h3, if_pos (by omega)]
      · rw [if_neg h3, if_neg (by omega)]

def TurnPost (a : Option Addr) (l : List Int) (B : Nat) (w : World) (e : Ending) (w' : World) : Prop := e = .returned (.tuple #[]) ∧ RowI w' .i64 a l.reverse ∧ Below B w w'
set_option maxHeartbeats 2000000 in
theorem sl_reverse {B : Nat} (v : Value) (l : List Int) (w : World) (h : Sl B w 1 v l.length (iv l)) (hb : ∀ x ∈ l, -9223372036854775808 ≤ x ∧ x ≤ 9223372036854775807) (hs : l.length ≤ 100000) (hB : B ≤ w.heap.size) :
    ∃ a c, v = .slice a l.length c ∧ Calls Try.prog 22 #[v] w (TurnPost a l B w) := by
  have hwf : ∀ x ∈ l, (Lit.int .i64 x).wf = true := fun x hx => by have := hb x hx; simp [Lit.wf, IntKind.min, IntKind.max, IntKind.bits, IntKind.signed]; omega
  rcases h.2 with ⟨rfl, h0⟩ | ⟨g, off, cap, rfl, hg, hgw, h1, h2, h3, h4⟩
  · refine ⟨none, 0, by rw [h0], ?_⟩
    have hl0 : l = [] := List.eq_nil_of_length_eq_zero h0
    subst hl0
    go_enter Try.func22, Try.ntmps22
    go_wp2
    go_loopg [2, 3] 0 (fun _ s2 s3 wr => s2 = .int .i64 0 ∧ s3 = .int .i64 (-1) ∧ wr = w)
    case atStart => exact ⟨rfl, rfl, rfl⟩
    case round =>
      obtain ⟨rfl, rfl, rfl⟩ := hrel
      go_wp2
      go_end0
      exact ⟨rfl, ⟨by simp, fun i hi => by simp at hi, by simp⟩, Below.refl _ _⟩
  · refine ⟨some ⟨g, off, none⟩, cap, rfl, ?_⟩
    obtain ⟨L, hL⟩ : ∃ L : Nat → Value, L = fun t => .int .i64 (l.getD t 0) := ⟨_, rfl⟩
    have hLv : ∀ t, L t = .int .i64 (l.getD t 0) := fun t => by rw [hL]
    have hown : Own w g off l.length (turnedF l.length L 0) := ⟨hgw, fun j hj => by
      rw [h3 j (by omega)]
      unfold turnedF
      rw [if_neg (by omega), hLv]
      simp [iv, hj, List.getD], fun j hj => (h4 j (by omega)).2⟩
    generalize hn : l.length = n at *
    clear hL
    clear h h3 h4
    go_enter Try.func22, Try.ntmps22
    go_wp2
    go_loopg [2, 3] n (fun k s2 s3 wr => ∃ p : Nat, s2 = .int .i64 p ∧ s3 = .int .i64 ((n : Int) - 1 - p) ∧ k = n - p ∧ p + p ≤ n ∧ Own wr g off n (turnedF n L p) ∧ Below B w wr)
    case atStart => exact ⟨0, rfl, by simp, rfl, by omega, hown, Below.refl _ _⟩
    case round =>
      obtain ⟨p, rfl, rfl, rfl, hp, ho, hbw⟩ := hrel
      by_cases hlt : p + p + 1 < n
      · have hlt' : (p : Int) < (n : Int) - 1 - p := by omega
        obtain ⟨q, hq⟩ : ∃ q, q = n - 1 - p := ⟨_, rfl⟩
        have hqz : (n : Int) - 1 - p = (q : Int) := by omega
        have c1 := ho.cell p (by omega)
        have z1 := ho.free p (by omega)
        have c2 := ho.cell q (by omega)
        have z2 := ho.free q (by omega)
        rw [show turnedF n L p p = L p by unfold turnedF; rw [if_neg (by omega)], hLv] at c1
        rw [show turnedF n L p q = L q by unfold turnedF; rw [if_neg (by omega)], hLv] at c2
        have hT := ho.turn hlt
        rw [← hq, hLv, hLv] at hT
        have hpn : p < n := by omega
        have hqn : q < n := by omega
        have hpq : p ≠ q := by omega
        rw [hqz]
        rw [hqz] at hlt'
        have HQZ := Lib.hid hqz
        have HQ := Lib.hid hq
        have HN := Lib.hid hn
        have HTT := Lib.hid hT
        have HO := Lib.hid ho
        clear hqz hq hn hT ho hwf hb
        generalize l.getD p 0 = x at *
        generalize l.getD q 0 = y at *
        go_wp2
        go_region
        go_wp2
        go_roundg (n - (p + 1))
        case measure => omega
        case rel =>
          refine ⟨p + 1, by go_num, by have := HQZ.out; simp; omega, rfl, by omega, HTT.out.drew, ?_⟩
          have hu : Upd (fun k => k = g) _ _ := (((Upd.refl (fun k => k = g) wr).setCell (p := ⟨g, off + p, none⟩) (fun _ => rfl) (.int .i64 y)).setCell (p := ⟨g, off + q, none⟩) (fun _ => rfl) (.int .i64 x)).drew
          exact hbw.upd hu (Nat.le_trans hB hbw.size) (fun i _ h => by omega)
      · have hge : (n : Int) - 1 - p ≤ (p : Int) := by omega
        have HO := Lib.hid ho
        clear ho
        go_wp2
        go_end0
        have ho := HO.out
        refine ⟨rfl, ⟨by unfold maxLen; simp; omega, fun i hi => ⟨g, off, rfl, ho.lt, ?_⟩, fun x hx => hwf x (by simpa using hx)⟩, hbw⟩
        rw [List.length_reverse, hn] at hi
        have hc := ho.cell i hi
        rw [hc, List.getElem_reverse]
        unfold turnedF
        by_cases hc1 : i < p ∨ n ≤ i + p
        · rw [if_pos hc1, hLv]
          simp [List.getD, hn, show n - 1 - i < n by omega]
        · rw [if_neg hc1, hLv]
          have : i = n - 1 - i := by omega
          simp [List.getD, hn, show n - 1 - i < n by omega, hi, ← this]
end Go.Proofs.Ytlinkbflampanaa
