/- percent: a record came; which lag counts. -/
import Derived.Test.YthpnkjnieljdiaaPer
namespace Go.Proofs.Ythpnkjnieljdiaa
open Go.ChangeShapes Go.WideShapes Go.ChangeAt Go.RowKit
open PHist PRing PSat PClamp PBound
set_option linter.unusedVariables false
set_option linter.unusedSimpArgs false

def pre (n : Int) (b : Bool) (p M : Int) (G : Nat) : Pre := ⟨.int .i64 n, .bool b, .int .i64 p, .int .i64 M, .pointer (some ⟨G, 0, none⟩)⟩
/-- Block g is such a way: so many of a hundred, M the latest, m how far time has come, room for r, of these lags; all of it lies in blocks of S. -/
def PerC (w : World) (S : Nat → Prop) (g : Nat) (p M m : Int) (r : Nat) (L : List Int) : Prop :=
  ∃ n b G F R, Both w F R (pre n b p M G) g G r L ∧ (if b = true then n else -9223372036854775808) = m ∧ ∀ k, S k ↔ F k ∨ R k
def PPost (S : Nat → Prop) (g : Nat) (p M m : Int) (r : Nat) (L : List Int) (w w' : World) : Prop :=
  ∃ S', PerC w' S' g p M m r L ∧ Upd S w w' ∧ ∀ k, S' k → S k ∨ w.heap.size ≤ k
theorem Both.upd {S : Nat → Prop} {w w' : World} {F R : Nat → Prop} {P : Pre} {g G r : Nat} {L : List Int} (h : Both w F R P g G r L) (hu : Upd S w w') (hn : ∀ k, F k ∨ R k → ¬ S k) : Both w' F R P g G r L :=
  ⟨h.1.upd hu (fun k hk => hn k (.inl hk)), h.2.1.upd hu (fun k hk => hn k (.inr hk)), h.2.2⟩
theorem PerC.upd {S T : Nat → Prop} {w w' : World} {g : Nat} {p M m : Int} {r : Nat} {L : List Int} (h : PerC w S g p M m r L) (hu : Upd T w w') (hn : ∀ k, S k → ¬ T k) : PerC w' S g p M m r L := by
  obtain ⟨n, b, G, F, R, h1, h2, h3⟩ := h
  exact ⟨n, b, G, F, R, h1.upd hu (fun k hk => hn k ((h3 k).2 hk)), h2, h3⟩
theorem PerC.lt {S : Nat → Prop} {w : World} {g : Nat} {p M m : Int} {r : Nat} {L : List Int} (h : PerC w S g p M m r L) : ∀ k, S k → k < w.heap.size := by
  obtain ⟨n, b, G, F, R, h1, h2, h3⟩ := h
  exact fun k hk => ((h3 k).1 hk).elim (h1.1.lt k) (h1.2.1.lt k)
theorem PerC.mem {S : Nat → Prop} {w : World} {g : Nat} {p M m : Int} {r : Nat} {L : List Int} (h : PerC w S g p M m r L) : S g := by
  obtain ⟨n, b, G, F, R, h1, h2, h3⟩ := h
  exact (h3 g).2 (.inl h1.1.mem)
theorem PerC.on {S : Nat → Prop} {w w' : World} {g : Nat} {p M m : Int} {r : Nat} {L : List Int} (h : PerC w S g p M m r L) (hb : Below w.heap.size w w') : PerC w' S g p M m r L :=
  h.upd (T := fun k => w.heap.size ≤ k) (Upd.of_below hb (fun _ _ h => h)) (fun k hk => by have := h.lt k hk; omega)
theorem PerC.drew {S : Nat → Prop} {w : World} {g : Nat} {p M m : Int} {r : Nat} {L : List Int} (h : PerC w S g p M m r L) : PerC w.drew S g p M m r L := h.upd (T := fun _ => False) ((Upd.refl _ _).drew) (fun _ _ h => h)
theorem PerC.drewN {S : Nat → Prop} {w : World} {g : Nat} {p M m : Int} {r : Nat} {L : List Int} (h : PerC w S g p M m r L) (n : Nat) : PerC (w.drewN n) S g p M m r L := h.upd (T := fun _ => False) ((Upd.refl _ _).drewN n) (fun _ _ h => h)
theorem PerC.alloc {S : Nat → Prop} {w : World} {g : Nat} {p M m : Int} {r : Nat} {L : List Int} (h : PerC w S g p M m r L) (o : Obj) : PerC (w.alloc o) S g p M m r L := h.upd (T := fun _ => False) ((Upd.refl _ _).alloc o) (fun _ _ h => h)
theorem PerC.len {S : Nat → Prop} {w : World} {g : Nat} {p M m : Int} {r : Nat} {L : List Int} (h : PerC w S g p M m r L) : L.length ≤ r := by
  obtain ⟨n, b, G, F, R, h1, h2, h3⟩ := h
  have := h1.2.1.len
  rwa [iv_len] at this
/-- Its cells. -/
theorem PerC.cells {S : Nat → Prop} {w : World} {g : Nat} {p M m : Int} {r : Nat} {L : List Int} (h : PerC w S g p M m r L) : ∃ x : Int × Bool × Value × Value × Value, At w g (.int .i64 x.1 :: .bool x.2.1 :: [.int .i64 p, .int .i64 M, x.2.2.1, x.2.2.2.1, x.2.2.2.2]) ∧ (if x.2.1 = true then x.1 else -9223372036854775808) = m := by
  obtain ⟨n, b, G, F, R, h1, h2, h3⟩ := h
  obtain ⟨v, q, hat⟩ := h1.1.cells
  exact ⟨⟨n, b, _, v, q⟩, hat, h2⟩
theorem PPost.below {S : Nat → Prop} {g B : Nat} {p M m : Int} {r : Nat} {L : List Int} {a w w' : World} (h : PPost S g p M m r L w w') (hb : Below B a w) (hB : B ≤ w.heap.size) (hS : ∀ k, S k → B ≤ k) :
    ∃ S', PerC w' S' g p M m r L ∧ (∀ k, S' k → B ≤ k) ∧ Below B a w' ∧ Upd S w w' ∧ ∀ k, S' k → S k ∨ w.heap.size ≤ k := by
  obtain ⟨S', h1, h2, h3⟩ := h
  exact ⟨S', h1, fun k hk => (h3 k hk).elim (hS k) (fun h => by omega), hb.upd h2 hB (fun i _ hi => hS i hi), h2, h3⟩

def PNew (p : Int) (r : Nat) (w : World) (e : Ending) (w' : World) : Prop :=
  ∃ g S, e = .returned (.pointer (some ⟨g, 0, none⟩)) ∧ PerC w' S g p (-9223372036854775808) (-9223372036854775808) r [] ∧ (∀ k, S k → w.heap.size ≤ k) ∧ Below w.heap.size w w'

theorem HistLP.made (w : World) (P : Pre) (e : TypeId) : HistLP (w.alloc (.cells #[P.a, P.b, P.c, P.d, P.e, .slice none 0 0, .int .i64 0] e)) (fun k => k = w.heap.size) P w.heap.size [] :=
  ⟨.slice none 0 0, [], ⟨At.alloc w [P.a, P.b, P.c, P.d, P.e, .slice none 0 0, .int .i64 0] e, Sl.nil _ _ _, ⟨rfl, fun k hk => by subst hk; simp, fun k hk => by simp [Value.ownBlock] at hk⟩⟩, ⟨List.Pairwise.nil, fun r hr => by cases hr⟩, List.Perm.refl _⟩

set_option maxHeartbeats 1000000 in
theorem pc_new (p : Int) (n : Int) (r : Nat) (hn : n = r) (h1 : 1 ≤ r) (h2 : r ≤ 255) (w : World) : Calls Try.prog 16 #[.int .i64 p, .int .i64 n] w (PNew p r w) := by
  subst hn
  have HN := Lib.hid (ri_new r r (by omega) (by omega) w)
  go_enter Try.func16, Try.ntmps16
  go_wp2_with (go_at_call 26; refine HN.out.mono ?_; rintro e w1 ⟨rfl, hr1, hb1⟩)
  go_ret
  have hlt : w.heap.size < w1.heap.size := hr1.lt _ rfl
  refine ⟨_, fun k => k = w1.heap.size ∨ k = w.heap.size, rfl, ⟨0, false, w.heap.size, (fun k => k = w1.heap.size), (fun k => k = w.heap.size), ⟨?_, ?_, fun k hk hk2 => by omega⟩, rfl, fun k => Iff.rfl⟩, fun k hk => by omega, hb1.alloc hb1.size _⟩
  · exact HistLP.made w1 (pre 0 false p (-9223372036854775808) w.heap.size) _
  · exact hr1.upd (S := fun _ => False) ((Upd.refl _ _).alloc _) (fun _ _ h => h)

set_option maxHeartbeats 1000000 in
theorem pc_now (S : Nat → Prop) (g : Nat) (p M m : Int) (r : Nat) (L : List Int) (w : World) (h : PerC w S g p M m r L) :
    Calls Try.prog 13 #[.pointer (some ⟨g, 0, none⟩)] w fun e w' => e = .returned (.int .i64 m) ∧ w = w' := by
  obtain ⟨x, hat, hm⟩ := h.cells
  exact cl_now g m _ w ⟨_, _, hat, hm⟩

set_option maxHeartbeats 1000000 in
theorem pc_lag (S : Nat → Prop) (g : Nat) (p : Nat) (pz M m : Int) (r : Nat) (L : List Int) (z : Int) (w : World) (h : PerC w S g pz M m r L) (hpz : pz = p) (hp : p ≤ 100) (hr : r ≤ 255) (hz : pick L p = z) :
    Calls Try.prog 18 #[.pointer (some ⟨g, 0, none⟩)] w fun e w' => e = .returned (.int .i64 z) ∧ Below w.heap.size w w' := by
  subst hpz
  have hlen := h.len
  obtain ⟨x, hat, hm⟩ := h.cells
  obtain ⟨n, b, G, F, R, h1, h2, h3⟩ := h
  have HH := fun w' (h : HistLP w' F (pre n b p M G) g L) => Lib.hid (hl_percentP F _ g L p p rfl _ z _ w' h (by omega) hp rfl hz.symm rfl)
  have HL := Lib.hid h1.1
  have hg := hat.1
  have c2 := (hat.2 2 (by simp)).1
  simp only [List.getElem_cons_zero, List.getElem_cons_succ] at c2
  clear hat hm h1 h2 h3 hz
  go_enter Try.func18, Try.ntmps18
  go_wp2
  go_region_with (first | (go_at_call 30; refine (HH _ (HL.out.upd (S := fun _ => False) ((Upd.refl _ _).drew) (fun _ _ h => h))).out.mono ?_; rintro e w1 ⟨rfl, hb1⟩))
  all_goals
    go_wp2
    go_ret
    exact ⟨rfl, on_below ((Below.refl _ _).drew) hb1⟩
end Go.Proofs.Ythpnkjnieljdiaa
