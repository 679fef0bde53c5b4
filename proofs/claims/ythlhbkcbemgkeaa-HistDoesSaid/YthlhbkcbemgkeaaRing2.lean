/- The ring laws' smaller calls: a push of whatever kind, rows that are the same, a part of a row that came in. -/
import Derived.Test.YthlhbkcbemgkeaaRing
namespace Go.Proofs.Ythlhbkcbemgkeaa
open Go.ChangeShapes Go.WideShapes Go.ChangeAt Go.RowKit
open PRing
set_option linter.unusedVariables false
set_option linter.unusedSimpArgs false

theorem RPush.below {F : Nat → Prop} {g r B : Nat} {l : List Value} {a w w' : World} (h : RPush F g r l w w') (hb : Below B a w) (hB : B ≤ w.heap.size) (hF : ∀ k, F k → B ≤ k) : ∃ F', Ring w' F' g r l ∧ (∀ k, F' k → B ≤ k) ∧ Below B a w' ∧ Upd F w w' ∧ ∀ k, F' k → F k ∨ w.heap.size ≤ k := by
  obtain ⟨F', h1, h2, h3⟩ := h
  exact ⟨F', h1, fun k hk => (h3 k hk).elim (hF k) (fun h => by omega), hb.upd h2 hB (fun i _ hi => hF i hi), h2, h3⟩

theorem iv_snoc (l : List Int) (x : Int) : iv (l ++ [x]) = iv l ++ [.int .i64 x] := by simp [iv]
theorem iv_drop (l : List Int) (n : Nat) : iv (l.drop n) = (iv l).drop n := by simp [iv]
theorem iv_one (l : List Int) : ∀ u ∈ iv l, u.oneCell' = true := fun u hu => by
  obtain ⟨x, _, rfl⟩ := List.mem_map.1 hu
  rfl

/-- A push, of numbers: what goes, and whether. -/
theorem ri_push (F : Nat → Prop) (g r : Nat) (L : List Int) (x gone : Int) (is : Bool) (w : World) (h : Ring w F g r (iv L)) (h2 : r ≤ 1000) (hg : (L.length < r ∧ gone = 0 ∧ is = false) ∨ (r ≤ L.length ∧ L[0]? = some gone ∧ is = true)) :
    Calls Try.prog 10 #[.pointer (some ⟨g, 0, none⟩), .int .i64 x] w fun z w' => z = .returned (.tuple #[.int .i64 gone, .bool is]) ∧ RPush F g r (iv (push r L x)) w w' := by
  unfold push
  rcases hg with ⟨h1, rfl, rfl⟩ | ⟨h1, h3, rfl⟩
  · rw [if_pos h1, iv_snoc]
    exact ri_push_room F g r (iv L) x w h (by rw [iv_len]; exact h1) h2
  · rw [if_neg (by omega), iv_snoc, iv_drop]
    have hle := h.len
    rw [iv_len] at hle
    exact ri_push_full F g r (iv L) x (.int .i64 gone) w h (by rw [iv_len]; omega) (by simp [iv, h3]) h2

theorem Rd.capI {w : World} {k : IntKind} {a : Option Addr} {n c : Nat} {l : List Int} (h : Rd w (.sl (.int k)) [.slice a n c] l) : n ≤ c := by
  rcases h with ⟨h1, h2⟩ | ⟨x, cap, el, h1, hl, hm, hx⟩
  · simp at h1; omega
  · simp at h1
    obtain ⟨_, rfl, rfl⟩ := h1
    exact hl

/-- A part of a row that came in. -/
theorem row_cut {P : Program} {k : IntKind} {w : World} {a : Option Addr} {n c : Nat} {l : List Int} (h : RowI w k a l) (hn : n = l.length) (hc : n ≤ c) {t e : TypeId} (ht : P.underlying t = some (.slice e)) (hz : ∀ w, (Go.sizeOf e).run P w = .ok 1 w) (lo hi m : Nat) (zl zh : Int) (hzl : zl = lo) (hzh : zh = hi) (hm : m = hi - lo) (h1 : lo ≤ hi) (h2 : hi ≤ n) :
    ∃ a' c', (∀ w', (Instr.slice t (.slice a n c) (some (.int .i64 zl)) (some (.int .i64 zh)) none).run P w' = .ok (.slice a' m c') w') ∧ m ≤ c' ∧ ∀ w', RowI w' k a l → RowI w' k a' ((l.take hi).drop lo) := by
  subst hzl hzh hn hm
  have ht' : P.underlying t = some (.slice (P.elem t)) := by simp [Program.elem, ht]
  have he : P.elem t = e := by simp [Program.elem, ht]
  refine ⟨if c = lo then a else a.map (·.add lo), c - lo, fun w' => ?_, by omega, fun w' h' => ?_⟩
  · rw [run_slice_lh w' t a l.length c ht' .i64 .i64 (lo : Int) (hi : Int) (by omega) (by omega) (by omega), he, hz]
    simp only [Result.andThen, sliced, Int.toNat_natCast, Nat.mul_one]
  · refine ⟨by have := h'.len; rw [List.length_drop, List.length_take]; omega, fun i hi' => ?_, fun x hx => h'.wf x (List.mem_of_mem_take (List.mem_of_mem_drop hx))⟩
    rw [List.length_drop, List.length_take] at hi'
    obtain ⟨b, off, rfl, hb, hcell⟩ := h'.at_ (lo + i) (by omega)
    refine ⟨b, off + lo, ?_, hb, ?_⟩
    · rw [if_neg (by omega)]
      show some ((Addr.mk b off none).add lo) = _
      rw [Addr.add_lit]
    · rw [List.getElem_drop, List.getElem_take, Nat.add_assoc]
      exact hcell

theorem RowI.cell {k : IntKind} {w : World} {b off : Nat} {l : List Int} (h : RowI w k (some ⟨b, off, none⟩) l) (i : Nat) (hi : i < l.length) : b < w.heap.size ∧ w.cell? ⟨b, off + i, none⟩ = some (.int k l[i]) := by
  obtain ⟨b', off', e, h1, h2⟩ := h.at_ i hi
  cases e
  exact ⟨h1, h2⟩
theorem row_part {k : IntKind} {w : World} {b off : Nat} {l : List Int} (h : RowI w k (some ⟨b, off, none⟩) l) (lo hi o : Nat) (ho : o = off + lo) (h2 : hi ≤ l.length) (W : List Int) (hW : W = (l.take hi).drop lo) : RowI w k (some ⟨b, o, none⟩) W := by
  subst ho hW
  refine ⟨by have := h.len; rw [List.length_drop, List.length_take]; omega, fun i hi' => ?_, fun x hx => h.wf x (List.mem_of_mem_take (List.mem_of_mem_drop hx))⟩
  rw [List.length_drop, List.length_take] at hi'
  obtain ⟨hb, hc⟩ := h.cell (lo + i) (by omega)
  refine ⟨b, off + lo, rfl, hb, ?_⟩
  rw [List.getElem_drop, List.getElem_take, Nat.add_assoc]
  exact hc

set_option maxRecDepth 100000 in
set_option maxHeartbeats 1000000 in
theorem ref_sameI (l : List Int) (a1 a2 : Option Addr) (c1 c2 : Nat) (n1 n2 : Nat) (w : World) (k1 : RowI w .i64 a1 l) (k2 : RowI w .i64 a2 l) (hn1 : n1 = l.length) (hn2 : n2 = l.length) (hl : l.length ≤ 4096) :
    Calls Try.prog 13 #[.slice a1 n1 c1, .slice a2 n2 c2] w fun e w' => e = .returned (.bool true) ∧ ∃ n, w' = w.drewN n := by
  subst hn1 hn2
  go_enter Try.func13, Try.ntmps13
  go_wp2
  go_loopw [5] (fun i wr => ∃ k n : Nat, k ≤ l.length ∧ i = .int .i64 k ∧ wr = w.drewN n) (fun i _ => l.length - (intOf i).toNat)
  case atStart => exact ⟨0, 0, Nat.zero_le _, rfl, rfl⟩
  case round =>
    obtain ⟨k, n, hk, rfl, rfl⟩ := hrel
    by_cases hlt : k < l.length
    · obtain ⟨b1, o1, rfl, hb1, hc1⟩ := k1.at_ k hlt
      obtain ⟨b2, o2, rfl, hb2, hc2⟩ := k2.at_ k hlt
      clear k1 k2
      generalize l[k] = z at *
      have hzz : (z == z) = true := by simp
      go_wp2
      go_quiet (fail)
      go_wp2
      go_roundw
      case rel => exact ⟨k + 1, _, by omega, by go_num, rfl⟩
      case measure => simp [intOf]; omega
    · go_wp2
      go_ret
      exact ⟨rfl, n, rfl⟩

theorem RNew.below {g r : Nat} {w w' : World} (h : RNew g r w w') : Below w.heap.size w w' := h.2

set_option maxHeartbeats 1000000 in
theorem speaks7 (w : World) : Calls Try.prog 8 #[] w fun e w' => e = .returned (.bool true) ∧ Below w.heap.size w w' := by
  have e2 : push 2 ([] : List Int) 1 = [1] := by simp [push]
  have e3 : push 2 ([1] : List Int) 2 = [1, 2] := by simp [push]
  have e4 : push 2 ([1, 2] : List Int) 3 = [2, 3] := by simp [push]
  have HA : ∀ F g w, Ring w F g 2 (iv [2, 3]) → Calls Try.prog 15 #[.pointer (some ⟨g, 0, none⟩), .int .i64 1] w fun z w' => z = .returned (.tuple #[.int .i64 3, .bool true]) ∧ ∃ n, w' = w.drewN n := fun F g w h => ri_at F g 2 _ 1 (.int .i64 3) w h (by simp [iv]) (by simp [iv]) (by omega)
  have HL : ∀ F g w, Ring w F g 2 (iv [2, 3]) → Calls Try.prog 11 #[.pointer (some ⟨g, 0, none⟩)] w fun z w' => z = .returned (.int .i64 2) ∧ w = w' := fun F g w h => ri_len F g 2 _ w h
  go_enter Try.func8, Try.ntmps8
  go_wp2_with (go_at_call 9; refine (ri_new 2 2 (by decide) (by omega) _).mono ?_; rintro e w1 ⟨rfl, hr1, b1⟩; change Ring w1 _ _ 2 (iv []) at hr1)
  go_wp2_with (go_at_call 10; with_reducible refine (ri_push _ _ 2 [] 1 0 false _ hr1 (by omega) (.inl ⟨by simp, rfl, rfl⟩)).mono ?_; rintro e w2 ⟨rfl, p2⟩; obtain ⟨F2, hr2, f2, b2, _⟩ := p2.below b1 b1.size (fun k hk => by omega); rw [e2] at hr2)
  go_wp2_with (go_at_call 10; with_reducible refine (ri_push _ _ 2 [1] 2 0 false _ hr2 (by omega) (.inl ⟨by simp, rfl, rfl⟩)).mono ?_; rintro e w3 ⟨rfl, p3⟩; obtain ⟨F3, hr3, f3, b3, _⟩ := p3.below b2 b2.size f2; rw [e3] at hr3)
  go_wp2_with (go_at_call 10; with_reducible refine (ri_push _ _ 2 [1, 2] 3 1 true _ hr3 (by omega) (.inr ⟨by simp, rfl, rfl⟩)).mono ?_; rintro e w4 ⟨rfl, p4⟩; obtain ⟨F4, hr4, f4, b4, _⟩ := p4.below b3 b3.size f3; rw [e4] at hr4)
  go_wp2_with (go_at_call 15; refine (HA _ _ _ hr4).mono ?_; rintro e w5 ⟨rfl, n5, rfl⟩)
  go_wp2_with (first | (go_at_call 11; refine (HL _ _ _ (hr4.drewN _)).mono ?_; rintro e w6 ⟨rfl, rfl⟩) | (go_at_call 12; refine (ri_room _ _ 2 _ _ (hr4.drewN _)).mono ?_; rintro e w6 ⟨rfl, rfl⟩))
  go_ret
  exact ⟨rfl, below_drewN b4 _⟩
end Go.Proofs.Ythlhbkcbemgkeaa
