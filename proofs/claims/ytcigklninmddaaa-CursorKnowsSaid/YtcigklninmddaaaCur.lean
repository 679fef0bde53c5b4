/- Contracts of cursor's calls. -/
import Derived.Test.YtcigklninmddaaaCurPlain
import Derived.Test.YtcigklninmddaaaKCrc
import Derived.Test.YtcigklninmddaaaKFrame
import Derived.Test.YtcigklninmddaaaKBase
import Derived.Test.YtcigklninmddaaaCut
import Derived.Deep.DeepCutAuto
import Derived.Deep.QuietTactic
import Derived.Deep.RegionWith
import Derived.BigQuiet
import Derived.Deep.RegionHeld3
namespace Go.Proofs.Ytcigklninmddaaa
set_option maxRecDepth 4000
open Go.ChangeShapes Go.WideShapes Go.ChangeAt Go.RowKit
open PVar PCrc PFrame
set_option linter.unusedVariables false
set_option linter.unusedSimpArgs false

theorem At.four {w : World} {g : Nat} {a b c d : Value} (h : At w g [a, b, c, d]) : g < w.heap.size ∧ w.cell? ⟨g, 0, none⟩ = some a ∧ w.frozen? ⟨g, 0, none⟩ = false ∧ w.cell? ⟨g, 1, none⟩ = some b ∧ w.frozen? ⟨g, 1, none⟩ = false ∧ w.cell? ⟨g, 2, none⟩ = some c ∧ w.frozen? ⟨g, 2, none⟩ = false ∧ w.cell? ⟨g, 3, none⟩ = some d ∧ w.frozen? ⟨g, 3, none⟩ = false :=
  ⟨h.1, (h.2 0 (by simp)).1, (h.2 0 (by simp)).2, (h.2 1 (by simp)).1, (h.2 1 (by simp)).2, (h.2 2 (by simp)).1, (h.2 2 (by simp)).2, (h.2 3 (by simp)).1, (h.2 3 (by simp)).2⟩

/-- Block g is a cursor in these bytes, of which k, and c records, are behind it. -/
def CurC (w : World) (g : Nat) (s : ByteArray) (k c : Nat) : Prop := At w g [.string s, .func (.func 16) #[] #[], .int .i64 k, .int .i64 c]
theorem CurC.upd {S : Nat → Prop} {w w' : World} {g : Nat} {s : ByteArray} {k c : Nat} (h : CurC w g s k c) (hu : Upd S w w') (hn : ¬ S g) : CurC w' g s k c := At.upd h hu hn
theorem CurC.on {w w' : World} {g : Nat} {s : ByteArray} {k c : Nat} (h : CurC w g s k c) (hb : Below w.heap.size w w') : CurC w' g s k c := At.on h hb
theorem CurC.drew {w : World} {g : Nat} {s : ByteArray} {k c : Nat} (h : CurC w g s k c) : CurC w.drew g s k c := At.drew h
theorem CurC.get {w : World} {g : Nat} {s : ByteArray} {k c : Nat} (h : CurC w g s k c) : w.cell? ⟨g, 1, none⟩ = some (.func (.func 16) #[] #[]) := (h.2 1 (by simp)).1
theorem CurC.made {w : World} {g : Nat} {s : ByteArray} {k c : Nat} (h : CurC w g s k c) (o : Obj) : CurC (w.alloc o) g s k c := h.on ((Below.refl _ _).alloc (Nat.le_refl _) o)
theorem CurC.other {w : World} {g : Nat} {s : ByteArray} {k c : Nat} (h : CurC w g s k c) {p : Addr} (hp : p.block ≠ g) (u : Value) : CurC (w.setCell p u) g s k c := At.set_other h hp u
theorem CurC.lt {w : World} {g : Nat} {s : ByteArray} {k c : Nat} (h : CurC w g s k c) : g < w.heap.size := h.1

/-- A new one. -/
def CuNew (s : ByteArray) (w : World) (e : Ending) (w' : World) : Prop := ∃ g : Nat, e = .returned (.pointer (some ⟨g, 0, none⟩)) ∧ w.heap.size ≤ g ∧ CurC w' g s 0 0 ∧ Below w.heap.size w w'
set_option maxHeartbeats 1000000 in
theorem cu_new (s : ByteArray) (w : World) (hs : s.size ≤ 100000) : Calls Try.prog 6 #[.string s] w (CuNew s w) := by
  have HC := Lib.hid (fun w => str_clone s w (by omega))
  go_enter Try.func6, Try.ntmps6
  go_wp2_with (first | (go_at_call 15; refine (HC.out _).mono ?_; rintro e w1 ⟨rfl, hb1⟩))
  go_ret
  exact ⟨_, rfl, by have := hb1.size; simpa using this, At.alloc _ _ _, hb1.alloc hb1.size _⟩

set_option maxHeartbeats 400000 in
theorem cu_at (g : Nat) (s : ByteArray) (k c : Nat) (w : World) (h : CurC w g s k c) :
    Calls Try.prog 10 #[.pointer (some ⟨g, 0, none⟩)] w fun e w' => e = .returned (.int .i64 k) ∧ w = w' := by
  obtain ⟨hg, c0, z0, c1, z1, c2, z2, c3, z3⟩ := At.four h
  go_enter Try.func10, Try.ntmps10
  go_wp2
  go_ret
  exact ⟨rfl, rfl⟩
set_option maxHeartbeats 400000 in
theorem cu_count (g : Nat) (s : ByteArray) (k c : Nat) (w : World) (h : CurC w g s k c) :
    Calls Try.prog 11 #[.pointer (some ⟨g, 0, none⟩)] w fun e w' => e = .returned (.int .i64 c) ∧ w = w' := by
  obtain ⟨hg, c0, z0, c1, z1, c2, z2, c3, z3⟩ := At.four h
  go_enter Try.func11, Try.ntmps11
  go_wp2
  go_ret
  exact ⟨rfl, rfl⟩
set_option maxHeartbeats 400000 in
theorem cu_left (g : Nat) (s : ByteArray) (k c : Nat) (w : World) (h : CurC w g s k c) (hk : k ≤ s.size) :
    Calls Try.prog 18 #[.pointer (some ⟨g, 0, none⟩)] w fun e w' => e = .returned (.string (bstr (s.data.toList.drop k))) ∧ Below w.heap.size w w' := by
  obtain ⟨hg, c0, z0, c1, z1, c2, z2, c3, z3⟩ := At.four h
  have hfrom := fun w => from_run (P := Try.prog) w 9 s k k rfl Try.underlying9 hk
  go_enter Try.func18, Try.ntmps18
  go_wp2
  go_quiet (fail)
  go_wp2
  go_ret
  exact ⟨rfl, rfl, rfl, rfl, Nat.le_refl _, fun _ _ => rfl⟩

theorem drop_small (s : ByteArray) (k : Nat) (hs : s.size ≤ 100000) : (bstr (s.data.toList.drop k)).size ≤ 140737488355328 := by
  rw [size_bstr, List.length_drop, Array.length_toList]
  have : s.data.size = s.size := rfl
  omega

theorem rec_put {B : Nat} {w1 X : World} {G : Nat} {a b c k t x : Value} (hX : At X G [a, b, c]) (hb : Below B w1 X) (hG : B ≤ G) :
    At (((X.setCell ⟨G, 0, none⟩ k).setCell ⟨G, 1, none⟩ t).setCell ⟨G, 2, none⟩ x) G [k, t, x] ∧ Below B w1 (((X.setCell ⟨G, 0, none⟩ k).setCell ⟨G, 1, none⟩ t).setCell ⟨G, 2, none⟩ x) :=
  ⟨((hX.set 0 (by simp) k).set 1 (by simp) t).set 2 (by simp) x, ((hb.setCell hG _).setCell hG _).setCell hG _⟩
set_option maxHeartbeats 1000000 in
theorem cu_err (g : Nat) (s : ByteArray) (k c : Nat) (w : World) (h : CurC w g s k c) (hk : k ≤ s.size) (hs : s.size ≤ 100000) :
    Calls Try.prog 9 #[.pointer (some ⟨g, 0, none⟩)] w fun e w' => e = .returned (.int .i64 (cerr (s.data.toList.drop k) : Nat)) ∧ Below w.heap.size w w' := by
  have HL := fun w h => Lib.hid (cu_left g s k c w h hk)
  have HG := fun w => Lib.hid (fr_get (bstr (s.data.toList.drop k)) w (drop_small s k hs))
  by_cases hn : s.data.toList.drop k = []
  · have e0 : cerr (s.data.toList.drop k) = 0 := by unfold cerr; rw [if_pos hn]
    rw [e0]
    rw [hn] at HL
    have HL0 := HL w h
    clear HG h hk hs e0 hn HL
    go_enter Try.func9, Try.ntmps9
    go_wp2_with (first | (go_at_call 18; refine HL0.out.mono ?_; rintro e w1 ⟨rfl, hb1⟩))
    go_ret
    exact ⟨rfl, hb1⟩
  · have e0 : cerr (s.data.toList.drop k) = (fget (s.data.toList.drop k)).2.2 := by unfold cerr; rw [if_neg hn]
    rw [e0]
    rw [show (bstr (s.data.toList.drop k)).data.toList = s.data.toList.drop k from rfl] at HG
    have HL0 := HL w h
    have HH := Lib.hid h
    clear h hk hs e0
    generalize s.data.toList.drop k = l at *
    generalize fget l = p at *
    obtain ⟨r, n, er⟩ := p
    have hne : (l == []) = false := by rw [beq_eq_false_iff_ne]; exact hn
    clear hn
    go_enter Try.func9, Try.ntmps9
    go_wp2_with (first | (go_at_call 18; refine HL0.out.mono ?_; rintro e w1 ⟨rfl, hb1⟩))
    have HA := Lib.hid (HH.out.on hb1)
    obtain ⟨hg, c0, z0, c1, z1, c2, z2, c3, z3⟩ := At.four HA.out
    go_cut [5] (fun v wx => v = .int .i64 er ∧ Below w1.heap.size w1 wx)
    case first =>
      go_region_held3 (fun wx => wx.cell? ⟨g, 1, none⟩ = some (.func (.func 16) #[] #[])) (first | (with_reducible exact HA.out.drew.get) | (with_reducible exact (HA.out.made _).drew.get) | (with_reducible exact ca) | (with_reducible exact (hAa.made _).get) | (with_reducible exact cb) | (with_reducible exact (hA2.made _).get) | (with_reducible exact ((((hA2.made _).other (Nat.ne_of_gt hA2.lt) _).other (Nat.ne_of_gt hA2.lt) _).other (Nat.ne_of_gt hA2.lt) _).get) | (with_reducible exact (((hA2.other (Nat.ne_of_gt hAa.lt) _).other (Nat.ne_of_gt hAa.lt) _).other (Nat.ne_of_gt hAa.lt) _).get) | (with_reducible exact (((hA2.other (Nat.ne_of_gt HA.out.lt) _).other (Nat.ne_of_gt HA.out.lt) _).other (Nat.ne_of_gt HA.out.lt) _).get) | exact c1 | fail) (first | (go_at_call 18; (first | (with_reducible refine (HL _ HA.out.drew).out.mono ?_) | (with_reducible refine (HL _ (HA.out.made _).drew).out.mono ?_)); rintro e wa ⟨rfl, hba⟩; (first | (with_reducible have hAa := HA.out.drew.on hba) | (with_reducible have hAa := (HA.out.made _).drew.on hba)); (first | (with_reducible have hBa := on_below (Below.refl w1.heap.size w1).drew hba) | (with_reducible have hBa := on_below ((Below.refl w1.heap.size w1).alloc (Nat.le_refl _) _).drew hba)); have ca := hAa.get) | (go_at_call 16; refine (HG _).out.mono ?_; rintro e w2 ⟨rfl, hb2⟩; (first | (with_reducible have hA2 := hAa.on hb2) | (with_reducible have hA2 := (hAa.made _).on hb2)); (first | (with_reducible have hB2 := on_below hBa hb2) | (with_reducible have hB2 := on_below (hBa.alloc hBa.size _) hb2)); have cb := hA2.get; (first | (with_reducible have hG2 := (At.alloc wa [.int .i64 0, .int .i64 0, .string ⟨#[]⟩] 33).on hb2); obtain ⟨q0, q1, q2, q3, q4, q5, q6⟩ := hG2.three | (with_reducible have hG2 := ((At.alloc w1 [.int .i64 0, .int .i64 0, .string ⟨#[]⟩] 33).drew.on hba).on hb2); obtain ⟨q0, q1, q2, q3, q4, q5, q6⟩ := hG2.three | skip)))
      all_goals (go_wp2_with fail; go_meet; first | exact ⟨rfl, hB2.alloc hB2.size _⟩ | exact ⟨rfl, (rec_put hG2 hB2 hBa.size).2⟩ | exact ⟨rfl, (rec_put hG2 hB2 (Nat.le_refl _)).2⟩)
    case rest =>
      obtain ⟨rfl, hb2⟩ := hcut
      go_wp2
      go_ret
      exact ⟨rfl, on_below hb1 hb2⟩

set_option maxHeartbeats 1000000 in
theorem cu_ahead (g : Nat) (s : ByteArray) (k c : Nat) (w : World) (h : CurC w g s k c) (hk : k ≤ s.size) (hs : s.size ≤ 100000) :
    Calls Try.prog 8 #[.pointer (some ⟨g, 0, none⟩)] w fun e w' => e = .returned (.int .i64 (cahead (s.data.toList.drop k) : Nat)) ∧ Below w.heap.size w w' := by
  have HL := Lib.hid (cu_left g s k c w h hk)
  have HE := fun w h => Lib.hid (cu_err g s k c w h hk hs)
  have HH := Lib.hid h
  by_cases hn : s.data.toList.drop k = []
  · have e0 : cahead (s.data.toList.drop k) = 1 := by unfold cahead; rw [if_pos hn]
    rw [e0]
    rw [hn] at HL
    clear HE h hk hs e0 hn
    go_enter Try.func8, Try.ntmps8
    go_wp2_with (first | (go_at_call 18; refine HL.out.mono ?_; rintro e w1 ⟨rfl, hb1⟩))
    go_ret
    exact ⟨rfl, hb1⟩
  · have e0 : cahead (s.data.toList.drop k) = if cerr (s.data.toList.drop k) = 0 then 0 else 2 := by unfold cahead cerr; rw [if_neg hn, if_neg hn]
    rw [e0]
    clear h hk hs e0
    generalize s.data.toList.drop k = l at *
    generalize cerr l = er at *
    have hne : (l == []) = false := by rw [beq_eq_false_iff_ne]; exact hn
    clear hn
    by_cases h0 : er = 0
    · subst h0
      go_enter Try.func8, Try.ntmps8
      go_wp2_with (first | (go_at_call 18; refine HL.out.mono ?_; rintro e w1 ⟨rfl, hb1⟩) | (go_at_call 9; refine (HE _ (HH.out.on hb1)).out.mono ?_; rintro e w2 ⟨rfl, hb2⟩))
      go_ret
      exact ⟨rfl, on_below hb1 hb2⟩
    · rw [if_neg h0]
      have hz : ((er : Int) == 0) = false := by rw [beq_eq_false_iff_ne]; omega
      go_enter Try.func8, Try.ntmps8
      go_wp2_with (first | (go_at_call 18; refine HL.out.mono ?_; rintro e w1 ⟨rfl, hb1⟩) | (go_at_call 9; refine (HE _ (HH.out.on hb1)).out.mono ?_; rintro e w2 ⟨rfl, hb2⟩))
      go_ret
      exact ⟨rfl, on_below hb1 hb2⟩

end Go.Proofs.Ytcigklninmddaaa
