/- gen: the three ways as one: what a block holds, and contracts of its calls. -/
import Derived.Test.YteimpeeghjeogaaGenPlain
import Derived.Test.YteimpeeghjeogaaKPer
namespace Go.Proofs.Yteimpeeghjeogaa
set_option maxRecDepth 4000
open Go.ChangeShapes Go.WideShapes Go.ChangeAt Go.RowKit
open PHist PRing PSat PClamp PBound PFrame PSign
set_option linter.unusedVariables false
set_option linter.unusedSimpArgs false

/-- Block g (and all blocks of S) is a way of the dynamic type t, of a rule, behind these records. -/
def GenC (w : World) (S : Nat → Prop) (t : TypeId) (g : Nat) (r : Rul) (l : List R) : Prop :=
  (r.kind = 0 ∧ t = 52 ∧ (∀ k, S k ↔ k = g) ∧ ClampC w g (after (most (-9223372036854775808) (times l)) r.bound) [.int .i64 r.bound]) ∨
  (r.kind = 1 ∧ t = 54 ∧ (∀ k, S k ↔ k = g) ∧ ClampC w g (most (-9223372036854775808) (said r.sign l)) [.int .i64 r.sign]) ∨
  (r.kind = 2 ∧ t = 56 ∧ PerAt w S g r.pct.toNat r.win.toNat (times l) l.length)
def GPost (S : Nat → Prop) (t : TypeId) (g : Nat) (r : Rul) (l : List R) (w w' : World) : Prop := ∃ S', GenC w' S' t g r l ∧ Upd S w w' ∧ ∀ k, S' k → S k ∨ w.heap.size ≤ k

section
variable {S T : Nat → Prop} {w w' : World} {t : TypeId} {g : Nat} {r : Rul} {l : List R}
theorem GenC.upd (h : GenC w S t g r l) (hu : Upd T w w') (hn : ∀ k, S k → ¬ T k) : GenC w' S t g r l := by
  rcases h with ⟨h1, h2, h3, h4⟩ | ⟨h1, h2, h3, h4⟩ | ⟨h1, h2, h3⟩
  · exact .inl ⟨h1, h2, h3, h4.upd hu (hn g ((h3 g).2 rfl))⟩
  · exact .inr (.inl ⟨h1, h2, h3, h4.upd hu (hn g ((h3 g).2 rfl))⟩)
  · exact .inr (.inr ⟨h1, h2, h3.upd hu hn⟩)
theorem GenC.lt (h : GenC w S t g r l) : ∀ k, S k → k < w.heap.size := by
  rcases h with ⟨h1, h2, h3, h4⟩ | ⟨h1, h2, h3, h4⟩ | ⟨h1, h2, h3⟩
  · intro k hk
    rw [(h3 k).1 hk]
    exact h4.lt
  · intro k hk
    rw [(h3 k).1 hk]
    exact h4.lt
  · exact h3.lt
theorem GenC.mem (h : GenC w S t g r l) : S g := by
  rcases h with ⟨h1, h2, h3, h4⟩ | ⟨h1, h2, h3, h4⟩ | ⟨h1, h2, h3⟩
  · exact (h3 g).2 rfl
  · exact (h3 g).2 rfl
  · exact h3.mem
theorem GenC.on (h : GenC w S t g r l) (hb : Below w.heap.size w w') : GenC w' S t g r l :=
  h.upd (T := fun k => w.heap.size ≤ k) (Upd.of_below hb (fun _ _ h => h)) (fun k hk h2 => by have := h.lt k hk; omega)
theorem GenC.alloc (h : GenC w S t g r l) (o : Obj) : GenC (w.alloc o) S t g r l := h.upd (T := fun _ => False) ((Upd.refl _ _).alloc o) (fun _ _ => id)
theorem GenC.drew (h : GenC w S t g r l) : GenC w.drew S t g r l := h.upd (T := fun _ => False) ((Upd.refl _ _).drew) (fun _ _ => id)
theorem GenC.drewN (h : GenC w S t g r l) (n : Nat) : GenC (w.drewN n) S t g r l := h.upd (T := fun _ => False) ((Upd.refl _ _).drewN n) (fun _ _ => id)
theorem GPost.below {a : World} {B : Nat} (h : GPost S t g r l w w') (hb : Below B a w) (hB : B ≤ w.heap.size) (hS : ∀ k, S k → B ≤ k) :
    ∃ S', GenC w' S' t g r l ∧ (∀ k, S' k → B ≤ k) ∧ Below B a w' ∧ Upd S w w' ∧ ∀ k, S' k → S k ∨ w.heap.size ≤ k := by
  obtain ⟨S', h1, h2, h3⟩ := h
  refine ⟨S', h1, fun k hk => ?_, hb.upd h2 hB (fun i _ h => hS i h), h2, h3⟩
  rcases h3 k hk with h | h
  · exact hS k h
  · exact Nat.le_trans hB h
end

/-- Which functions an interface value's methods are. -/
def fSeen (t : TypeId) : FuncId := if t = 52 then 59 else if t = 54 then 63 else 69
theorem GenC.seen {w : World} {S : Nat → Prop} {t : TypeId} {g : Nat} {r : Rul} {l : List R} (h : GenC w S t g r l) : ∀ (n : Nat) (w' : World), (method (n + 1) t (.pointer (some ⟨g, 0, none⟩)) "Seen").run Try.prog w' = .ok (fSeen t, .pointer (some ⟨g, 0, none⟩)) w' := by
  rcases h with ⟨h1, rfl, h3, h4⟩ | ⟨h1, rfl, h3, h4⟩ | ⟨h1, rfl, h3⟩
  · exact fun n w' => by kernel_rfl
  · exact fun n w' => by kernel_rfl
  · exact fun n w' => by kernel_rfl
theorem GenC.enters {w : World} {S : Nat → Prop} {t : TypeId} {g : Nat} {r : Rul} {l : List R} (h : GenC w S t g r l) : ∀ (args : Array Value) (w' : World), (callFunc (fSeen t) args).run Try.prog w' = .ok (.enter (fSeen t) args) w' := by
  rcases h with ⟨h1, rfl, h3, h4⟩ | ⟨h1, rfl, h3, h4⟩ | ⟨h1, rfl, h3⟩
  · exact Try.call59
  · exact Try.call63
  · exact Try.call69
theorem GenC.now {w : World} {S : Nat → Prop} {t : TypeId} {g : Nat} {r : Rul} {l : List R} (h : GenC w S t g r l) : ∀ (n : Nat) (w' : World), (method (n + 1) t (.pointer (some ⟨g, 0, none⟩)) "Now").run Try.prog w' = .ok (58, .pointer (some ⟨g, 0, none⟩)) w' := by
  rcases h with ⟨h1, rfl, h3, h4⟩ | ⟨h1, rfl, h3, h4⟩ | ⟨h1, rfl, h3⟩
  · exact fun n w' => by kernel_rfl
  · exact fun n w' => by kernel_rfl
  · exact fun n w' => by kernel_rfl
theorem GenC.ahead {w : World} {S : Nat → Prop} {t : TypeId} {g : Nat} {r : Rul} {l : List R} (h : GenC w S t g r l) : ∀ (n : Nat) (w' : World), (nilAhead (n + 1) t (.pointer (some ⟨g, 0, none⟩)) "Seen").run Try.prog w' = .ok (some false) w' := by
  rcases h with ⟨h1, rfl, h3, h4⟩ | ⟨h1, rfl, h3, h4⟩ | ⟨h1, rfl, h3⟩
  · exact fun n w' => by kernel_rfl
  · exact fun n w' => by kernel_rfl
  · exact fun n w' => by kernel_rfl

theorem gn_now (S : Nat → Prop) (t : TypeId) (g : Nat) (r : Rul) (l : List R) (w : World) (h : GenC w S t g r l) :
    Calls Try.prog 58 #[.pointer (some ⟨g, 0, none⟩)] w fun e w' => e = .returned (.int .i64 (gnow r l)) ∧ w = w' := by
  unfold gnow
  rcases h with ⟨h1, h2, h3, h4⟩ | ⟨h1, h2, h3, h4⟩ | ⟨h1, h2, h3⟩
  · rw [if_pos h1]
    exact cl_now g _ _ w h4
  · rw [if_neg (by omega), if_pos h1]
    exact cl_now g _ _ w h4
  · rw [if_neg (by omega), if_neg (by omega)]
    exact pc_at_now S g _ _ _ _ w h3

theorem perAt_snoc {w : World} {S : Nat → Prop} {g p win : Nat} {l : List Int} (x : Int) : PerAt w S g p win l l.length ↔ PerAt w S g p win (l ++ [x]) l.length := by
  unfold PerAt
  rw [List.take_left, List.take_length, nowTo_snoc _ _ _ _ _ (Nat.le_refl _)]

set_option maxHeartbeats 1000000 in
theorem gn_seen (S : Nat → Prop) (t : TypeId) (g : Nat) (r : Rul) (l : List R) (x : R) (w : World) (h : GenC w S t g r l) (hok : rcheck r = 0) (hf : r.Fits) (hb : InR l) (hx : (-9223372036854775808 ≤ x.1 ∧ x.1 ≤ 9223372036854775807) ∧ (-9223372036854775808 ≤ x.2.1 ∧ x.2.1 ≤ 9223372036854775807)) (hl : l.length < 800) :
    Calls Try.prog (fSeen t) #[.pointer (some ⟨g, 0, none⟩), .agg #[.int .i64 x.1, .int .i64 x.2.1, .string (bstr x.2.2)]] w fun e w' => e = .returned (.tuple #[]) ∧ GPost S t g r (l ++ [x]) w w' := by
  rcases h with ⟨h1, rfl, h3, h4⟩ | ⟨h1, rfl, h3, h4⟩ | ⟨h1, rfl, h3⟩
  · refine (bo_seen g _ r.bound x.1 x.2.1 (bstr x.2.2) w h4 hf.bound hx.2 _ rfl).mono ?_
    rintro e w' ⟨rfl, a1, a2⟩
    refine ⟨rfl, S, .inl ⟨h1, rfl, h3, ?_⟩, a2.mono (fun k _ e => (h3 k).2 e), fun k hk => .inl hk⟩
    rw [times_snoc, most_snoc]
    exact a1
  · refine (pu_seen g _ r.sign x.1 x.2.1 (bstr x.2.2) w h4 hf.sign _ rfl _ rfl).mono ?_
    rintro e w' ⟨rfl, a1, a2⟩
    refine ⟨rfl, S, .inr (.inl ⟨h1, rfl, h3, ?_⟩), a2.mono (fun k _ e => (h3 k).2 e), fun k hk => .inl hk⟩
    rw [said_snoc]
    unfold rz at a1
    cases hs : saysR r.sign x
    · rw [if_neg (by simp), List.append_nil]
      rw [show says x.1 (bstr x.2.2) r.sign = false from hs] at a1
      simpa using a1
    · rw [if_pos rfl, most_snoc]
      rw [show says x.1 (bstr x.2.2) r.sign = true from hs] at a1
      simpa using a1
  · rcases rcheck_some hok with ⟨h0, _⟩ | ⟨h0, _⟩ | ⟨h0, ⟨hp0, hp1⟩, hw0, hw1⟩
    · omega
    · omega
    have hlen : (times l).length < (times l ++ [x.2.1]).length := by simp
    have hbb : ∀ y ∈ times l ++ [x.2.1], -9223372036854775808 ≤ y ∧ y ≤ 9223372036854775807 := by
      intro y hy
      rcases List.mem_append.1 hy with hy | hy
      · exact hb.times y hy
      · rw [List.mem_singleton.1 hy]; exact hx.2
    rw [← times_len l] at h3
    have hN := pc_next S g r.pct.toNat r.win.toNat (times l ++ [x.2.1]) (times l).length hlen hbb x.1 (bstr x.2.2) w ((perAt_snoc _).1 h3) (by omega) (by omega) (by omega) (by rw [List.length_append, times_len]; simp; omega)
    have hlast : (times l ++ [x.2.1])[(times l).length] = x.2.1 := by simp
    rw [hlast] at hN
    refine hN.mono ?_
    rintro e w' ⟨rfl, S', a1, a2, a3⟩
    refine ⟨rfl, S', .inr (.inr ⟨h1, rfl, ?_⟩), a2, a3⟩
    rw [times_snoc, List.length_append, ← times_len l]
    exact a1
end Go.Proofs.Yteimpeeghjeogaa
