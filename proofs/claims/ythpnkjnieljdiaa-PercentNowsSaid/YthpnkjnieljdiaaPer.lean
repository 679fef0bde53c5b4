/- percent: contracts of its calls. -/
import Derived.Test.YthpnkjnieljdiaaH5L
import Derived.Test.YthpnkjnieljdiaaRing2
import Derived.Test.YthpnkjnieljdiaaBound
namespace Go.Proofs.Ythpnkjnieljdiaa
open Go.ChangeShapes Go.WideShapes Go.ChangeAt Go.RowKit
open PHist PRing PSat PClamp PBound
set_option linter.unusedVariables false
set_option linter.unusedSimpArgs false

/-- The lag that counts, of these; 0 of none. -/
def pick (L : List Int) (p : Nat) : Int := ((srt L)[prank L.length p - 1]?).getD 0

theorem HistLP.redo {w w' : World} {F : Nat → Prop} {P P' : Pre} {g : Nat} {l : List Int} (h : HistLP w F P g l) (hu : Upd (fun k => k = g) w w')
    (hA : ∀ v m, At w g [P.a, P.b, P.c, P.d, P.e, v, m] → At w' g [P'.a, P'.b, P'.c, P'.d, P'.e, v, m]) : HistLP w' F P' g l := by
  obtain ⟨v, rs, h1, h2⟩ := h
  exact ⟨v, rs, ⟨hA _ _ h1.at_, h1.sl.upd hu (fun k hk => (h1.own.2.2 k hk).2), ⟨h1.own.1, fun k hk => Nat.lt_of_lt_of_le (h1.own.2.1 k hk) hu.size, h1.own.2.2⟩⟩, h2⟩
theorem HistLP.cells {w : World} {F : Nat → Prop} {P : Pre} {g : Nat} {l : List Int} (h : HistLP w F P g l) : ∃ v m, At w g [P.a, P.b, P.c, P.d, P.e, v, m] := by
  obtain ⟨v, rs, h1, h2⟩ := h
  exact ⟨_, _, h1.at_⟩
theorem HistLP.mem {w : World} {F : Nat → Prop} {P : Pre} {g : Nat} {l : List Int} (h : HistLP w F P g l) : F g := by
  obtain ⟨v, rs, h1, h2⟩ := h
  exact h1.own.1

/-- Both: the numbers of the last ones, and the last ones. -/
def Both (w : World) (F R : Nat → Prop) (P : Pre) (g G r : Nat) (L : List Int) : Prop := HistLP w F P g L ∧ Ring w R G r (iv L) ∧ (∀ k, F k → ¬ R k)
def BPost (F R : Nat → Prop) (P : Pre) (g G r : Nat) (L : List Int) (w w' : World) : Prop :=
  ∃ F' R', Both w' F' R' P g G r L ∧ Upd (fun k => F k ∨ R k) w w' ∧ (∀ k, F' k → F k ∨ w.heap.size ≤ k) ∧ (∀ k, R' k → R k ∨ w.heap.size ≤ k)

theorem both_push {w w1 : World} {F R : Nat → Prop} {P : Pre} {g G r : Nat} {L L' : List Int} (h : Both w F R P g G r L) (hp : RPush R G r (iv L') w w1) :
    ∃ R', HistLP w1 F P g L ∧ Ring w1 R' G r (iv L') ∧ (∀ k, F k → ¬ R' k) ∧ Upd (fun k => F k ∨ R k) w w1 ∧ (∀ k, R' k → R k ∨ w.heap.size ≤ k) := by
  obtain ⟨R', h1, h2, h3⟩ := hp
  obtain ⟨a1, a2, a3⟩ := h
  refine ⟨R', a1.upd h2 a3, h1, fun k hk hr => ?_, h2.mono (fun k _ hk => .inr hk), h3⟩
  rcases h3 k hr with h | h
  · exact a3 k hk h
  · have := a1.lt k hk; omega
theorem both_hist {w w1 w2 : World} {F R R0 : Nat → Prop} {P : Pre} {g G r : Nat} {L L' : List Int} (hr : Ring w1 R G r (iv L')) (hd : ∀ k, F k → ¬ R k) (hu : Upd (fun k => F k ∨ R0 k) w w1) (hR : ∀ k, R k → R0 k ∨ w.heap.size ≤ k) (hp : HLPostP F P g L w1 w2) :
    ∃ F', HistLP w2 F' P g L ∧ Ring w2 R G r (iv L') ∧ (∀ k, F' k → ¬ R k) ∧ Upd (fun k => F k ∨ R0 k) w w2 ∧ (∀ k, F' k → F k ∨ w.heap.size ≤ k) ∧ (∀ k, F' k → F k ∨ w1.heap.size ≤ k) := by
  obtain ⟨F', h1, h2, h3⟩ := hp
  refine ⟨F', h1, hr.upd h2 (fun k hk hf => hd k hf hk), fun k hk hrk => ?_, hu.trans h2 (fun k _ hk => .inl hk), fun k hk => (h3 k hk).imp id (fun h => Nat.le_trans hu.size h), h3⟩
  rcases h3 k hk with h | h
  · exact hd k h hrk
  · have := hr.lt k hrk; omega

set_option maxHeartbeats 1000000 in
theorem pc_keep (F R : Nat → Prop) (p0 p1 p2 p3 : Value) (g G r : Nat) (L L' : List Int) (x : Int) (w : World) (h : Both w F R ⟨p0, p1, p2, p3, .pointer (some ⟨G, 0, none⟩)⟩ g G r L) (hr : r ≤ 255) (hL : push r L x = L') :
    Calls Try.prog 27 #[.pointer (some ⟨g, 0, none⟩), .int .i64 x] w fun e w' => e = .returned (.tuple #[]) ∧ BPost F R ⟨p0, p1, p2, p3, .pointer (some ⟨G, 0, none⟩)⟩ g G r L' w w' := by
  subst hL
  have hle := h.2.1.len
  rw [iv_len] at hle
  have hgr : ∀ k, k = g → ¬ R k := fun k hk => by subst hk; exact h.2.2 k h.1.mem
  obtain ⟨v, m, hat⟩ := h.1.cells
  have hg := hat.1
  have c4 := (hat.2 4 (by simp)).1
  simp only [List.getElem_cons_zero, List.getElem_cons_succ] at c4
  have HB := Lib.hid h
  by_cases hroom : L.length < r
  · have HP := Lib.hid (ri_push R G r L x 0 false w h.2.1 (by omega) (.inl ⟨hroom, rfl, rfl⟩))
    have HL := Lib.hid (show (x :: L).Perm (push r L x) by unfold push; rw [if_pos hroom]; exact (List.perm_append_singleton x L).symm)
    clear hat h
    go_enter Try.func27, Try.ntmps27
    go_wp2_with (go_at_call 36; refine HP.out.mono ?_; rintro e w1 ⟨rfl, hp1⟩; obtain ⟨R1, a1, a2, a3, a4, a5⟩ := both_push HB.out hp1)
    go_wp2_with (go_at_call 38; refine (hl_addP F _ g L x _ a1 (by omega)).mono ?_; rintro e w2 ⟨rfl, hq⟩; obtain ⟨F2, b1, b2, b3, b4, b5, b6⟩ := both_hist a2 a3 a4 a5 hq)
    go_end0
    exact ⟨rfl, F2, R1, ⟨b1.perm HL.out, b2, b3⟩, b4, b5, a5⟩
  · have hlr : L.length = r := by omega
    have h1r := h.2.1
    obtain ⟨y, T, rfl⟩ : ∃ y T, L = y :: T := by
      cases L with
      | nil => obtain ⟨v, e, xs, hc, _⟩ := h1r; have := hc.one; simp at hlr; omega
      | cons y T => exact ⟨y, T, rfl⟩
    have HP := Lib.hid (ri_push R G r (y :: T) x y true w h.2.1 (by omega) (.inr ⟨by omega, rfl, rfl⟩))
    have HL := Lib.hid (show (x :: T).Perm (push r (y :: T) x) by unfold push; rw [if_neg hroom]; exact (List.perm_append_singleton x T).symm)
    have hlT : T.length ≤ 255 := by simp at hlr; omega
    clear hat h h1r
    go_enter Try.func27, Try.ntmps27
    go_wp2_with (go_at_call 36; refine HP.out.mono ?_; rintro e w1 ⟨rfl, hp1⟩; obtain ⟨R1, a1, a2, a3, a4, a5⟩ := both_push HB.out hp1)
    go_wp2_with (go_at_call 37; refine (hl_remP F _ g (y :: T) T y _ a1 (by simp; omega) (List.Perm.refl _)).mono ?_; rintro e w2 ⟨rfl, hq⟩; obtain ⟨F2, b1, b2, b3, b4, b5, b6⟩ := both_hist a2 a3 a4 a5 hq)
    go_wp2_with (go_at_call 38; refine (hl_addP F2 _ g T x _ b1 (by omega)).mono ?_; rintro e w3 ⟨rfl, hq3⟩)
    go_end0
    obtain ⟨F3, c1, c2, c3⟩ := hq3
    have hs2 := b4.size
    refine ⟨rfl, F3, R1, ⟨c1.perm HL.out, b2.upd c2 (fun k hk hf => b3 k hf hk), fun k hk hrk => ?_⟩, b4.cat c2 (fun _ _ h => h) (fun k hk hf => ?_), fun k hk => ?_, a5⟩
    · rcases c3 k hk with h | h
      · exact b3 k h hrk
      · have := b2.lt k hrk; omega
    · rcases b5 k hf with h | h
      · exact .inl h
      · omega
    · rcases c3 k hk with h | h
      · exact b5 k h
      · exact .inr (by omega)
end Go.Proofs.Ythpnkjnieljdiaa
