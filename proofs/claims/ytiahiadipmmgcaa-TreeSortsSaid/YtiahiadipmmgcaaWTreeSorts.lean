/- The walk of TreeSorts. -/
import Derived.Test.YtiahiadipmmgcaaTrI
import Derived.Test.YtiahiadipmmgcaaKBase
namespace Go.Proofs.Ytiahiadipmmgcaa
set_option maxRecDepth 4000
open Go.ChangeShapes Go.WideShapes Go.ChangeAt Go.RowKit
open PTree
set_option linter.unusedVariables false
set_option linter.unusedSimpArgs false

/-- How many of the first ones are left out. -/
def outs (out : Nat → Bool) : Nat → Nat
  | 0 => 0
  | j + 1 => outs out j + (if out j then 1 else 0)
theorem outs_le (out : Nat → Bool) : ∀ n, outs out n ≤ n
  | 0 => Nat.le_refl _
  | n + 1 => by have := outs_le out n; unfold outs; split <;> omega
theorem outs_all (out : Nat → Bool) : ∀ n, (∀ j, j < n → out j = true) → outs out n = n
  | 0, _ => rfl
  | n + 1, h => by unfold outs; rw [outs_all out n (fun j hj => h j (by omega)), h n (by omega)]; rfl
theorem outs_full (out : Nat → Bool) : ∀ n, outs out n = n → ∀ j, j < n → out j = true
  | 0, _, j, hj => by omega
  | n + 1, h, j, hj => by
    unfold outs at h
    have hle := outs_le out n
    cases ho : out n
    · rw [ho] at h; simp at h; omega
    · rw [ho] at h
      simp at h
      by_cases e : j = n
      · subst e; exact ho
      · exact outs_full out n h j (by omega)
theorem outs_other (out : Nat → Bool) (i : Nat) (x : Bool) : ∀ n, n ≤ i → outs (put out i x) n = outs out n
  | 0, _ => rfl
  | n + 1, h => by unfold outs; rw [outs_other out i x n (by omega), put_other _ _ _ (by omega)]
theorem outs_put (out : Nat → Bool) (i : Nat) (ho : out i = false) : ∀ n, i < n → outs (put out i true) n = outs out n + 1
  | 0, h => by omega
  | n + 1, h => by
    unfold outs
    by_cases e : i = n
    · subst e
      rw [outs_other out i true i (Nat.le_refl _), put_same, ho]; simp
    · rw [outs_put out i ho n (by omega), put_other _ _ _ (by omega)]; omega

/-- A tree, and a row of the call's own that holds who is left out. -/
structure Ts (w0 w : World) (F : Nat → Prop) (g gb n : Nat) (K : Nat → Int) (out : Nat → Bool) : Prop where
  tr : TreeI w F g n K out
  os : Own w gb 0 n (fun j => .bool (out j))
  fb : ¬ F gb
  f0 : ∀ b, F b → w0.heap.size ≤ b
  b0 : w0.heap.size ≤ gb
  new : Below w0.heap.size w0 w
theorem Ts.seen {w0 w : World} {F : Nat → Prop} {g gb n : Nat} {K : Nat → Int} {out : Nat → Bool} (h : Ts w0 w F g gb n K out) (j : Nat) (hj : j < n) : w.cell? ⟨gb, j, none⟩ = some (.bool (out j)) ∧ w.frozen? ⟨gb, j, none⟩ = false := by
  have h1 := h.os.cell j hj
  have h2 := h.os.free j hj
  rw [Nat.zero_add] at h1 h2
  exact ⟨h1, h2⟩
theorem Ts.tree {w0 w : World} {F : Nat → Prop} {g gb n : Nat} {K : Nat → Int} {out : Nat → Bool} (h : Ts w0 w F g gb n K out) (i : Nat) (x : Bool) : TreeI (w.setCell ⟨gb, i, none⟩ (.bool x)) F g n K out :=
  have hu : Upd (fun k => k = gb) w (w.setCell ⟨gb, i, none⟩ (.bool x)) := (Upd.refl (fun k => k = gb) w).setCell (p := ⟨gb, i, none⟩) (fun _ => rfl) _
  h.tr.upd hu (fun b hb e => h.fb (e ▸ hb))
/-- The row is told first, then the tree. -/
theorem Ts.leave {w0 w w' : World} {F : Nat → Prop} {g gb n : Nat} {K : Nat → Int} {out : Nat → Bool} (h : Ts w0 w F g gb n K out) (i : Nat) (hi : i < n) (x : Bool) (k : TIPost F g n K (put out i x) (w.setCell ⟨gb, i, none⟩ (.bool x)) w') : Ts w0 w' F g gb n K (put out i x) :=
  have hu : Upd (fun k => k = gb) w (w.setCell ⟨gb, i, none⟩ (.bool x)) := (Upd.refl (fun k => k = gb) w).setCell (p := ⟨gb, i, none⟩) (fun _ => rfl) _
  have hb : Below w0.heap.size w0 (w.setCell ⟨gb, i, none⟩ (.bool x)) := h.new.upd hu h.new.size (fun b _ e => by have := h.b0; omega)
  have h1 := h.os.set i hi (.bool x)
  have h2 : Own (w.setCell ⟨gb, i, none⟩ (.bool x)) gb 0 n (fun j => .bool (put out i x j)) := by
    rw [Nat.zero_add] at h1
    exact h1.congr (fun j hj => by unfold put; by_cases e : j = i <;> simp [e])
  ⟨k.1, h2.upd k.2 h.fb, h.fb, h.f0, h.b0, hb.upd k.2 hb.size (fun b _ hb => h.f0 b hb)⟩

set_option maxRecDepth 100000 in
set_option maxHeartbeats 4000000 in
theorem walk_TreeSorts (w : World) (a0 : Option Addr) (n0 c0 : Nat) (l0 : List Int) (w0 : Rd w (.sl (.int .i64)) [.slice a0 n0 c0] l0) :
    Calls Try.prog 6 #[.slice a0 n0 c0] w fun e w' => e = .returned (.bool true) ∧ Below w.heap.size w w' := by
  obtain ⟨rfl, hl⟩ := w0.ints
  clear w0
  by_cases hbig : 200 < l0.length
  · go_enter Try.func6, Try.ntmps6
    go_wp2_with (go_at_call 18; refine (speaks16 _).mono ?_; rintro e w1 ⟨rfl, hb1⟩)
    go_ret
    exact ⟨rfl, hb1⟩
  have hsm : l0.length ≤ 200 := by omega
  clear hbig
  obtain ⟨n, hn⟩ : ∃ n, l0.length = n := ⟨_, rfl⟩
  have HN := Lib.hid hn
  rw [hn] at hsm ⊢
  clear hn
  have hmk2 := run_make_row' (P := Try.prog) 43 4 (.bool false) 1 Try.underlying43 (by kernel_rfl) rfl .i64 .i64 n (by omega) (by omega)
  have HNW := fun w' => Lib.hid (ti_new n n w' (by omega) (by omega))
  go_enter Try.func6, Try.ntmps6
  go_wp2_with (go_at_call 18; refine (speaks16 _).mono ?_; rintro e w1 ⟨rfl, hb1⟩)
  go_wp2_with (go_at_call 19; refine (HNW _).out.mono ?_; intro e w2 h1; obtain ⟨F, g, rfl, i1⟩ := TrI.made hb1 h1)
  clear HNW
  go_loopw [25] (fun i wr => ∃ (k : Nat) (K : Nat → Int), k ≤ n ∧ i = .int .i64 k ∧ TrI w wr F g n K (fun _ => false) ∧ Hid (∀ j (h : j < l0.length), j < k → K (n - 1 - j) = l0[j])) (fun i _ => n - (intOf i).toNat)
  case atStart => exact ⟨0, _, Nat.zero_le _, rfl, i1, Lib.hid (fun j h h0 => by omega)⟩
  case round =>
    obtain ⟨k, K, hk, rfl, hT, HKE⟩ := hrel
    by_cases hlt : k < n
    · have hlt2 : k < l0.length := by rw [HN.out]; exact hlt
      obtain ⟨b, off, rfl, hb', hc⟩ := (hl.below hT.new).at_ k hlt2
      have HX : Hid (∀ (K' : Nat → Int), (∀ j, j ≠ n - 1 - k → K' j = K j) → K' (n - 1 - k) = l0[k] → ∀ j (h : j < l0.length), j < k + 1 → K' (n - 1 - j) = l0[j]) := Lib.hid (fun K' h1 h2 j hj hjk => by
        by_cases e : j = k
        · subst e; exact h2
        · have := HN.out
          rw [h1 _ (by omega)]; exact HKE.out j hj (by omega))
      generalize l0[k] = x at *
      obtain ⟨p, hp⟩ : ∃ p : Nat, (n : Int) - 1 - (k : Int) = p := ⟨n - 1 - k, by omega⟩
      have hw1 : IntKind.i64.wrap ((n : Int) - 1) = (n : Int) - 1 := by rw [IntKind.wrap_i64]; omega
      have hw2 : IntKind.i64.wrap ((n : Int) - 1 - (k : Int)) = (n : Int) - 1 - (k : Int) := by rw [IntKind.wrap_i64]; omega
      have HS := fun w' (h : TrI w w' F g n K (fun _ => false)) => Lib.hid (ti_set F g n K (fun _ => false) p x w' h.tr (by omega))
      rw [← hp] at HS
      have HP := Lib.hid hp
      clear hp
      go_wp2_with (go_at_call 21; (with_reducible refine (HS _ hT).out.mono ?_); rintro e w3 ⟨rfl, h3⟩; have i3 := hT.did h3)
      go_roundw
      case rel => exact ⟨k + 1, put K p x, by omega, by go_num, i3, Lib.hid (HX.out _ (fun j hj => put_other _ _ _ (by have := HP.out; omega)) (by rw [show n - 1 - k = p by have := HP.out; omega]; exact put_same _ _ _))⟩
      case measure => simp [intOf]; omega
    · obtain rfl : k = n := by omega
      have HKK : Hid (∀ i, i < k → ∃ h : k - 1 - i < l0.length, K i = l0[k - 1 - i]) := Lib.hid (fun i hi => by
        have hN := HN.out
        have h1 : k - 1 - i < l0.length := by omega
        refine ⟨h1, ?_⟩
        have := HKE.out (k - 1 - i) h1 (by omega)
        rw [show k - 1 - (k - 1 - i) = i by omega] at this
        exact this)
      clear HKE
      have ho := own_row wr (.bool false) k 4
      have hT2 := hT.alloc (.cells (madeCells #[.bool false] k) 4)
      have hTs : Ts w (wr.alloc (.cells (madeCells #[.bool false] k) 4)) F g wr.heap.size k K (fun _ => false) := ⟨hT2.tr, ho, fun hf => by have := hT.tr.lt _ hf; omega, hT.own, hT.new.size, hT2.new⟩
      clear ho hT2 i1
      go_wp2
      go_loopw [7, 44] (fun la i ws => ∃ (m : Nat) (z : Int) (out : Nat → Bool), m ≤ k ∧ i = .int .i64 m ∧ la = .int .i64 z ∧ Ts w ws F g wr.heap.size k K out ∧ Hid (outs out k = m ∧ (0 < m → ∀ j, j < k → out j = false → z ≤ K j))) (fun _ i _ => k - (intOf i).toNat)
      case atStart =>
        refine ⟨0, 0, _, Nat.zero_le _, rfl, rfl, hTs, Lib.hid ⟨?_, fun h => by omega⟩⟩
        have : ∀ n, outs (fun _ => false) n = 0 := by
          intro n
          induction n with
          | zero => rfl
          | succ n ih => unfold outs; rw [ih]; rfl
        exact this k
      case round =>
        obtain ⟨m, z, out, hm, rfl, rfl, hTs, HO⟩ := hrel
        by_cases hmk : m < k
        · have hsome : (scan K out k).2.2 = true := by
            cases hs : (scan K out k).2.2
            · have := outs_all out k (scan_none K out k hs).2
              have := HO.out.1
              omega
            · rfl
          obtain ⟨i, hsi, hik, hoi, hbi⟩ := scan_some K out k hsome
          have HL := Lib.hid (ti_least F g k K out _ hTs.tr _ _ _ hsi)
          obtain ⟨hkl, hke⟩ := HKK.out i hik
          obtain ⟨b, off, rfl, hb', hc⟩ := (hl.below hTs.new).at_ (k - 1 - i) hkl
          rw [← hke] at hc
          obtain ⟨co, zo⟩ := hTs.seen i hik
          rw [hoi] at co
          have hlt := hTs.os.lt
          have HV := Lib.hid (ti_leave F g k K out i true _ (hTs.tree i true) hik)
          have HT := Lib.hid hTs
          have HI := Lib.hid (And.intro hoi hbi)
          have hw1 : IntKind.i64.wrap ((k : Int) - 1) = (k : Int) - 1 := by rw [IntKind.wrap_i64]; omega
          have hw2 : IntKind.i64.wrap ((k : Int) - 1 - (i : Int)) = (k : Int) - 1 - (i : Int) := by rw [IntKind.wrap_i64]; omega
          have hw3 : ((k : Int) - 1 - (i : Int)).toNat = k - 1 - i := by omega
          have hw4 : (0 : Int) ≤ (k : Int) - 1 - (i : Int) := by omega
          have hw5 : (k : Int) - 1 - (i : Int) < (k : Int) := by omega
          have hle : 0 < m → z ≤ K i := fun h => HO.out.2 h i hik hoi
          have HLE := Lib.hid hle
          have hxx : (K i != K i) = false := by simp
          have HX : Hid (outs (put out i true) k = m + 1 ∧ (0 < m + 1 → ∀ j, j < k → put out i true j = false → K i ≤ K j)) := Lib.hid ⟨by rw [outs_put out i hoi k hik, HO.out.1], fun _ j hj ho => by
            by_cases e : j = i
            · subst e; rw [put_same] at ho; cases ho
            · rw [put_other _ _ _ e] at ho
              have := hbi j hj ho
              unfold Beats at this
              omega⟩
          generalize K i = x at *
          clear hTs hoi hbi hsi hke hsome hle
          by_cases hm0 : 0 < m
          · have hzx : ¬ x < z := by have := HLE.out hm0; omega
            go_wp2_with (first | (go_at_call 23; (with_reducible refine HL.out.mono ?_); rintro e w5 ⟨rfl, rfl⟩) | (go_at_call 20; (with_reducible refine HV.out.mono ?_); rintro e w5 ⟨rfl, h5⟩; have i5 := HT.out.leave i hik true h5))
            go_roundw
            case rel => exact ⟨m + 1, x, put out i true, by omega, by go_num, rfl, i5, HX.out⟩
            case measure => simp [intOf]; omega
          · obtain rfl : m = 0 := by omega
            go_wp2_with (first | (go_at_call 23; (with_reducible refine HL.out.mono ?_); rintro e w5 ⟨rfl, rfl⟩) | (go_at_call 20; (with_reducible refine HV.out.mono ?_); rintro e w5 ⟨rfl, h5⟩; have i5 := HT.out.leave i hik true h5))
            go_roundw
            case rel => exact ⟨0 + 1, x, put out i true, by omega, by go_num, rfl, i5, HX.out⟩
            case measure => simp [intOf]; omega
        · obtain rfl : m = k := by omega
          have hall := outs_full out m HO.out.1
          have hnone : scan K out m = (0, 0, false) := by
            cases hs : (scan K out m).2.2
            · exact (scan_none K out m hs).1
            · obtain ⟨i, _, h2, h3, _⟩ := scan_some K out m hs
              rw [hall i h2] at h3; cases h3
          have HL := Lib.hid (ti_least F g m K out _ hTs.tr _ _ _ hnone)
          have hb9 := hTs.new
          clear hall hnone hTs
          go_wp2_with (go_at_call 23; (with_reducible refine HL.out.mono ?_); rintro e w5 ⟨rfl, rfl⟩)
          go_ret
          exact ⟨rfl, hb9⟩
end Go.Proofs.Ytiahiadipmmgcaa
