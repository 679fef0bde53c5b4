/- The other order of partitions: what is the same of both, and an event of the partition at the other end. -/
import Derived.Test.YtoecikeleoaecaaGreatNone12
import Derived.Test.YtoecikeleoaecaaGreatKSt
import Derived.Test.YtoecikeleoaecaaGreatShelfR
import Derived.Lib.SliceRun
import Derived.BigRegion
import Derived.Deep.LoopGhost
import Derived.WalkLawsBesides
import Derived.Test.YtoecikeleoaecaaGreatKSrcA
import Derived.Test.YtoecikeleoaecaaGreatKRefS
import Derived.Test.YtoecikeleoaecaaGreatKSrcC
namespace Go.Proofs.YtoecikeleoaecaaGreat
set_option maxRecDepth 4000
open Go.ChangeShapes Go.WideShapes Go.ChangeAt Go.RowKit
open PHist PRing PSat PClamp PBound PFrame PVar PCrc PSign PTree PEv
set_option linter.unusedVariables false
set_option linter.unusedSimpArgs false

theorem firstErr_zero : ∀ rs : List Rul, firstErr rs = 0 ↔ ∀ r ∈ rs, rcheck r = 0
  | [] => by simp [firstErr]
  | r :: rs => by
    unfold firstErr
    by_cases h : rcheck r = 0
    · rw [if_neg (by omega), firstErr_zero rs]
      simp [h]
    · rw [if_pos h]
      simp [h]
theorem ccheck_rev {rs : List Rul} {t d : Int} : ccheck rs.reverse t d = 0 ↔ ccheck rs t d = 0 := by
  unfold ccheck
  rw [List.length_reverse]
  split
  · exact Iff.rfl
  · split
    · exact Iff.rfl
    · rw [firstErr_zero, firstErr_zero]
      simp
theorem nerr_rev {rs : List Rul} {t d : Int} {m : Nat} : nerr rs.reverse t d m = 0 ↔ nerr rs t d m = 0 := by
  unfold nerr
  rw [List.length_reverse]
  have h := @ccheck_rev rs t d
  by_cases e : ccheck rs t d = 0
  · rw [if_neg (not_not_intro e), if_neg (not_not_intro (h.2 e))]
  · rw [if_pos e, if_pos (fun h' => e (h.1 h'))]
    exact ⟨fun h' => h.1 h', fun h' => h.2 h'⟩
theorem faults_mark (p : Pt) (i : Nat) : ∀ v ∈ faults p i, isMark v = false := by
  unfold faults
  intro v hv
  split at hv
  · cases hv
  · split at hv
    · cases hv
    · rw [List.mem_singleton.1 hv]; rfl
theorem faultsTo_mark (ps : List Pt) : ∀ k, ∀ v ∈ faultsTo ps k, isMark v = false
  | 0 => fun v hv => by cases hv
  | k + 1 => fun v hv => by
    rcases List.mem_append.1 hv with h | h
    · exact faultsTo_mark ps k v h
    · exact faults_mark _ _ v h
theorem elast_faults (l : List Ev) (now : Int) (ps : List Pt) (h : ∀ v ∈ l, isMark v = false) : elast (l ++ marksE now ps) = if least ps ≤ now then -9223372036854775808 else least ps := by
  unfold marksE
  split
  · rw [List.append_nil, elast_none _ h]
  · rw [elast_mark l [] _ (fun v hv => by cases hv)]
theorem elast_rev {t : Int} {rs : List Rul} {ls : List (List UInt8)} (h : ls.length = rs.length) : elast (St.newE t rs.reverse ls.reverse) = elast (St.newE t rs ls) := by
  unfold St.newE
  have e : begun t rs.reverse ls.reverse = (begun t rs ls).reverse := by
    unfold begun
    rw [raws_rev h, List.map_reverse]
  rw [elast_faults _ _ _ (faultsTo_mark _ _), elast_faults _ _ _ (faultsTo_mark _ _), e, least_rev]
theorem over_rev (s : St) : (∀ j, j < s.rev.ps.length → 2 ≤ ss s.rev.ps j) ↔ ∀ j, j < s.ps.length → 2 ≤ ss s.ps j := by
  have hl : s.rev.ps.length = s.ps.length := List.length_reverse
  rw [hl]
  have e : ∀ j, j < s.ps.length → ss s.rev.ps j = ss s.ps (s.ps.length - 1 - j) := fun j hj => by
    unfold ss; show (pat s.ps.reverse _).is = _
    rw [pat_rev hj]
  constructor
  · intro h j hj
    have := h (s.ps.length - 1 - j) (by omega)
    rw [e _ (by omega), show s.ps.length - 1 - (s.ps.length - 1 - j) = j by omega] at this
    exact this
  · intro h j hj
    rw [e j hj]
    exact h _ (by omega)
theorem over_is (s : St) : ∃ o : Bool, o = true ↔ ∀ j, j < s.ps.length → 2 ≤ ss s.ps j := by
  by_cases h : ∀ j, j < s.ps.length → 2 ≤ ss s.ps j
  · exact ⟨true, fun _ => h, fun _ => rfl⟩
  · exact ⟨false, Iff.intro (fun e => by cases e) (fun e => (h e).elim)⟩
/-- Of which of n partitions an event is, if of any. -/
def evIn (n : Nat) : Ev → Prop
  | .el _ p _ _ _ => 0 ≤ p ∧ p < n
  | .mark _ => True
  | .fault p _ => 0 ≤ p ∧ p < n
theorem marks_in (n : Nat) (now : Int) (ps : List Pt) : ∀ v ∈ marksE now ps, evIn n v := by
  unfold marksE
  intro v hv
  split at hv
  · cases hv
  · rw [List.mem_singleton.1 hv]; exact trivial
theorem doE_in (s : St) (x : Bool × Int) : ∀ v ∈ s.doE x, evIn s.ps.length v := by
  unfold St.doE
  intro v hv
  split at hv
  · split at hv
    · cases hv
    · exact marks_in _ _ _ v hv
  · split at hv
    · cases hv
    · rename_i h
      have hr : 0 ≤ x.2 ∧ x.2 < s.ps.length := by
        apply Classical.byContradiction
        intro e
        apply h
        unfold St.refused
        simp [e]
      unfold St.pollE at hv
      rcases List.mem_cons.1 hv with rfl | hv
      · show 0 ≤ ((x.2.toNat : Nat) : Int) ∧ ((x.2.toNat : Nat) : Int) < _
        omega
      · rcases List.mem_append.1 hv with hv | hv
        · unfold faults at hv
          split at hv
          · cases hv
          · split at hv
            · cases hv
            · rw [List.mem_singleton.1 hv]
              show 0 ≤ ((x.2.toNat : Nat) : Int) ∧ ((x.2.toNat : Nat) : Int) < _
              omega
        · exact marks_in _ _ _ v hv
theorem turnE_turnE (n : Nat) (v : Ev) : turnE n (turnE n v) = v := by
  cases v with
  | el late p k t x => show Ev.el _ _ _ _ _ = _; congr 1; omega
  | mark m => rfl
  | fault p m => show Ev.fault _ _ = _; congr 1; omega
theorem turnE_in {n : Nat} {v : Ev} (h : evIn n v) : evIn n (turnE n v) := by
  cases v with
  | el late p k t x => have h' : 0 ≤ p ∧ p < n := h; show 0 ≤ (n : Int) - 1 - p ∧ (n : Int) - 1 - p < n; omega
  | mark m => trivial
  | fault p m => have h' : 0 ≤ p ∧ p < n := h; show 0 ≤ (n : Int) - 1 - p ∧ (n : Int) - 1 - p < n; omega
theorem neq_held {P : Program} (w : World) {t tx : TypeId} {ms : Array (String × TypeId)} (v u : Value) (b : Bool)
    (ht : P.underlying t = some (.interface ms)) (hc : (P.info? tx).map (·.comparable) = some true) (hx : ∀ d : Nat, (Op.equalIn (d + 10) tx v u).run P w = .ok b w) :
    (binOp .neq t (.iface tx v) (.iface tx u)).run P w = .ok (.bool (!b)) w := by
  cases hi : P.info? tx with
  | none => simp [hi] at hc
  | some i =>
    have hcc : i.comparable = true := by simpa [hi] using hc
    have h : ∀ d : Nat, (Op.equalIn (d + 11) t (.iface tx v) (.iface tx u)).run P w = .ok b w := fun d => by
      rw [show d + 11 = (d + 10) + 1 from rfl, Op.equalIn]
      simp [run_underlying ht, typeInfo, hi, hcc, hx d]
    simp only [binOp]
    simp [Op.equal, Op.maxDepth, h 9989]

set_option maxHeartbeats 1000000 in
theorem ev_same (v : Ev) (w : World) : (binOp .neq 67 (evv v) (evv v)).run Tryz.prog w = .ok (.bool false) w := by
  cases v with
  | el late p k t x =>
    refine neq_held w _ _ true Tryz.underlying67 (by kernel_rfl) fun d => ?_
    go_simp
  | mark m =>
    refine neq_held w _ _ true Tryz.underlying67 (by kernel_rfl) fun d => ?_
    go_simp
  | fault p m =>
    refine neq_held w _ _ true Tryz.underlying67 (by kernel_rfl) fun d => ?_
    go_simp
set_option maxRecDepth 100000 in
set_option maxHeartbeats 1000000 in
theorem top_turned (v : Ev) (n : Nat) (hn : n ≤ 8) (hv : evIn n v) (w : World) : Calls Tryz.prog 44 #[evv v, .int .i64 n] w fun e w' => e = .returned (evv (turnE n v)) ∧ Below w.heap.size w w' := by
  have e := fun (w : World) (o : Obj) => (Below.refl w.heap.size w).alloc (Nat.le_refl _) o
  cases v with
  | mark m =>
    have t1 := ta_e_no1 (.agg #[.int .i64 m])
    have t2 := ta_f_no2 (.agg #[.int .i64 m])
    show Calls Tryz.prog 44 #[.iface 65 (.agg #[.int .i64 m]), .int .i64 n] w _
    go_enter Tryz.func44, Tryz.ntmps44
    go_wp2
    go_ret
    exact ⟨rfl, Below.refl _ _⟩
  | fault p m =>
    have hp : 0 ≤ p ∧ p < n := hv
    have t1 := ta_e_no2 (.agg #[.int .i64 p, .int .i64 m])
    have t2 := ta_f_yes p m
    have z1 : IntKind.i64.wrap ((n : Int) - 1) = (n : Int) - 1 := IntWalk.i64_in _ (by omega)
    have z2 : IntKind.i64.wrap ((n : Int) - 1 - p) = (n : Int) - 1 - p := IntWalk.i64_in _ (by omega)
    have hA := (At.alloc w [.int .i64 p, .int .i64 m] 121).two
    obtain ⟨-, c0, f0, c1, f1⟩ := hA
    show Calls Tryz.prog 44 #[.iface 121 (.agg #[.int .i64 p, .int .i64 m]), .int .i64 n] w _
    clear hv
    go_enter Tryz.func44, Tryz.ntmps44
    go_wp2
    go_ret
    exact ⟨rfl, e w _⟩
  | el late p k t x =>
    have hp : 0 ≤ p ∧ p < n := hv
    have t1 := ta_e_yes p k t (bstr x) late
    have z1 : IntKind.i64.wrap ((n : Int) - 1) = (n : Int) - 1 := IntWalk.i64_in _ (by omega)
    have z2 : IntKind.i64.wrap ((n : Int) - 1 - p) = (n : Int) - 1 - p := IntWalk.i64_in _ (by omega)
    have hA := (At.alloc w [.int .i64 p, .int .i64 k, .int .i64 t, .string (bstr x), .bool late] 123).five
    obtain ⟨-, c0, f0, c1, f1, c2, f2, c3, f3, c4, f4⟩ := hA
    show Calls Tryz.prog 44 #[.iface 123 (.agg #[.int .i64 p, .int .i64 k, .int .i64 t, .string (bstr x), .bool late]), .int .i64 n] w _
    clear hv
    go_enter Tryz.func44, Tryz.ntmps44
    go_wp2
    go_ret
    exact ⟨rfl, e w _⟩
end Go.Proofs.YtoecikeleoaecaaGreat

/- The library's Reverse, at rows of rules and of strings. -/
namespace Go.Proofs.YtoecikeleoaecaaGreat
set_option maxRecDepth 4000
open Go.ChangeShapes Go.WideShapes Go.ChangeAt Go.RowKit
open PHist PRing PSat PClamp PBound PFrame PVar PCrc PSign PTree PEv
set_option linter.unusedVariables false
set_option linter.unusedSimpArgs false

/-- The groups of five with the first p and the last p exchanged. -/
def turned5 (n : Nat) (Z : Nat → Int) (p : Nat) (t : Nat) : Value := if t / 5 < p ∨ n ≤ t / 5 + p then .int .i64 (Z ((n - 1 - t / 5) * 5 + t % 5)) else .int .i64 (Z t)
theorem Own.turn5 {w : World} {g off n p q : Nat} {Z : Nat → Int} (h : Own w g off (n * 5) (turned5 n Z p)) (hp : p + p + 1 < n) (hq : q = n - 1 - p) :
    Own ((((((((((w.setCell ⟨g, off + p * 5, none⟩ (.int .i64 (Z (q * 5)))).setCell ⟨g, off + p * 5 + 1, none⟩ (.int .i64 (Z (q * 5 + 1)))).setCell ⟨g, off + p * 5 + 2, none⟩ (.int .i64 (Z (q * 5 + 2)))).setCell ⟨g, off + p * 5 + 3, none⟩ (.int .i64 (Z (q * 5 + 3)))).setCell ⟨g, off + p * 5 + 4, none⟩ (.int .i64 (Z (q * 5 + 4)))).setCell ⟨g, off + q * 5, none⟩ (.int .i64 (Z (p * 5)))).setCell ⟨g, off + q * 5 + 1, none⟩ (.int .i64 (Z (p * 5 + 1)))).setCell ⟨g, off + q * 5 + 2, none⟩ (.int .i64 (Z (p * 5 + 2)))).setCell ⟨g, off + q * 5 + 3, none⟩ (.int .i64 (Z (p * 5 + 3)))).setCell ⟨g, off + q * 5 + 4, none⟩ (.int .i64 (Z (p * 5 + 4)))) g off (n * 5) (turned5 n Z (p + 1)) := by
  have h1 := h.set (p * 5) (by omega) (.int .i64 (Z (q * 5)))
  have h2 := h1.set (p * 5 + 1) (by omega) (.int .i64 (Z (q * 5 + 1)))
  have h3 := h2.set (p * 5 + 2) (by omega) (.int .i64 (Z (q * 5 + 2)))
  have h4 := h3.set (p * 5 + 3) (by omega) (.int .i64 (Z (q * 5 + 3)))
  have h5 := h4.set (p * 5 + 4) (by omega) (.int .i64 (Z (q * 5 + 4)))
  have h6 := h5.set (q * 5) (by omega) (.int .i64 (Z (p * 5)))
  have h7 := h6.set (q * 5 + 1) (by omega) (.int .i64 (Z (p * 5 + 1)))
  have h8 := h7.set (q * 5 + 2) (by omega) (.int .i64 (Z (p * 5 + 2)))
  have h9 := h8.set (q * 5 + 3) (by omega) (.int .i64 (Z (p * 5 + 3)))
  have h10 := h9.set (q * 5 + 4) (by omega) (.int .i64 (Z (p * 5 + 4)))
  refine h10.congr (fun j hj => ?_)
  unfold turned5
  by_cases e1 : j / 5 = q
  · rw [if_pos (show j / 5 < p + 1 ∨ n ≤ j / 5 + (p + 1) by omega)]
    rcases (show j = q * 5 ∨ j = q * 5 + 1 ∨ j = q * 5 + 2 ∨ j = q * 5 + 3 ∨ j = q * 5 + 4 by omega) with e | e | e | e | e
    · rw [if_neg (show ¬ j = q * 5 + 4 by omega), if_neg (show ¬ j = q * 5 + 3 by omega), if_neg (show ¬ j = q * 5 + 2 by omega), if_neg (show ¬ j = q * 5 + 1 by omega), if_pos e]
      exact congrArg (fun t => Value.int .i64 (Z t)) (by omega)
    · rw [if_neg (show ¬ j = q * 5 + 4 by omega), if_neg (show ¬ j = q * 5 + 3 by omega), if_neg (show ¬ j = q * 5 + 2 by omega), if_pos e]
      exact congrArg (fun t => Value.int .i64 (Z t)) (by omega)
    · rw [if_neg (show ¬ j = q * 5 + 4 by omega), if_neg (show ¬ j = q * 5 + 3 by omega), if_pos e]
      exact congrArg (fun t => Value.int .i64 (Z t)) (by omega)
    · rw [if_neg (show ¬ j = q * 5 + 4 by omega), if_pos e]
      exact congrArg (fun t => Value.int .i64 (Z t)) (by omega)
    · rw [if_pos e]
      exact congrArg (fun t => Value.int .i64 (Z t)) (by omega)
  · by_cases e2 : j / 5 = p
    · rw [if_pos (show j / 5 < p + 1 ∨ n ≤ j / 5 + (p + 1) by omega)]
      rcases (show j = p * 5 ∨ j = p * 5 + 1 ∨ j = p * 5 + 2 ∨ j = p * 5 + 3 ∨ j = p * 5 + 4 by omega) with e | e | e | e | e
      · rw [if_neg (show ¬ j = q * 5 + 4 by omega), if_neg (show ¬ j = q * 5 + 3 by omega), if_neg (show ¬ j = q * 5 + 2 by omega), if_neg (show ¬ j = q * 5 + 1 by omega), if_neg (show ¬ j = q * 5 by omega), if_neg (show ¬ j = p * 5 + 4 by omega), if_neg (show ¬ j = p * 5 + 3 by omega), if_neg (show ¬ j = p * 5 + 2 by omega), if_neg (show ¬ j = p * 5 + 1 by omega), if_pos e]
        exact congrArg (fun t => Value.int .i64 (Z t)) (by omega)
      · rw [if_neg (show ¬ j = q * 5 + 4 by omega), if_neg (show ¬ j = q * 5 + 3 by omega), if_neg (show ¬ j = q * 5 + 2 by omega), if_neg (show ¬ j = q * 5 + 1 by omega), if_neg (show ¬ j = q * 5 by omega), if_neg (show ¬ j = p * 5 + 4 by omega), if_neg (show ¬ j = p * 5 + 3 by omega), if_neg (show ¬ j = p * 5 + 2 by omega), if_pos e]
        exact congrArg (fun t => Value.int .i64 (Z t)) (by omega)
      · rw [if_neg (show ¬ j = q * 5 + 4 by omega), if_neg (show ¬ j = q * 5 + 3 by omega), if_neg (show ¬ j = q * 5 + 2 by omega), if_neg (show ¬ j = q * 5 + 1 by omega), if_neg (show ¬ j = q * 5 by omega), if_neg (show ¬ j = p * 5 + 4 by omega), if_neg (show ¬ j = p * 5 + 3 by omega), if_pos e]
        exact congrArg (fun t => Value.int .i64 (Z t)) (by omega)
      · rw [if_neg (show ¬ j = q * 5 + 4 by omega), if_neg (show ¬ j = q * 5 + 3 by omega), if_neg (show ¬ j = q * 5 + 2 by omega), if_neg (show ¬ j = q * 5 + 1 by omega), if_neg (show ¬ j = q * 5 by omega), if_neg (show ¬ j = p * 5 + 4 by omega), if_pos e]
        exact congrArg (fun t => Value.int .i64 (Z t)) (by omega)
      · rw [if_neg (show ¬ j = q * 5 + 4 by omega), if_neg (show ¬ j = q * 5 + 3 by omega), if_neg (show ¬ j = q * 5 + 2 by omega), if_neg (show ¬ j = q * 5 + 1 by omega), if_neg (show ¬ j = q * 5 by omega), if_pos e]
        exact congrArg (fun t => Value.int .i64 (Z t)) (by omega)
    · rw [if_neg (show ¬ j = q * 5 + 4 by omega), if_neg (show ¬ j = q * 5 + 3 by omega), if_neg (show ¬ j = q * 5 + 2 by omega), if_neg (show ¬ j = q * 5 + 1 by omega), if_neg (show ¬ j = q * 5 by omega), if_neg (show ¬ j = p * 5 + 4 by omega), if_neg (show ¬ j = p * 5 + 3 by omega), if_neg (show ¬ j = p * 5 + 2 by omega), if_neg (show ¬ j = p * 5 + 1 by omega), if_neg (show ¬ j = p * 5 by omega)]
      by_cases e3 : j / 5 < p ∨ n ≤ j / 5 + p
      · rw [if_pos e3, if_pos (by omega)]
      · rw [if_neg e3, if_neg (by omega)]
/-- Rules' numbers, one behind another. -/
def ruz (rs : List Rul) (t : Nat) : Int := [(rs.getD (t / 5) ⟨0, 0, 0, 0, 0⟩).kind, (rs.getD (t / 5) ⟨0, 0, 0, 0, 0⟩).bound, (rs.getD (t / 5) ⟨0, 0, 0, 0, 0⟩).pct, (rs.getD (t / 5) ⟨0, 0, 0, 0, 0⟩).win, (rs.getD (t / 5) ⟨0, 0, 0, 0, 0⟩).sign].getD (t % 5) 0
theorem ruz_cells (rs : List Rul) (i j : Nat) (hi : i < rs.length) (hj : j < 5) : (Rul.cells rs[i])[j]? = some (.int .i64 (ruz rs (i * 5 + j))) := by
  have e1 : (i * 5 + j) / 5 = i := by omega
  have e2 : (i * 5 + j) % 5 = j := by omega
  unfold ruz
  rw [e1, e2, show rs.getD i ⟨0, 0, 0, 0, 0⟩ = rs[i] by simp [hi]]
  match j, hj with
  | 0, _ => rfl
  | 1, _ => rfl
  | 2, _ => rfl
  | 3, _ => rfl
  | 4, _ => rfl
def RevU (v : Value) (a : Option Addr) (rs : List Rul) (w : World) (e : Ending) (w' : World) : Prop := e = .returned (.tuple #[]) ∧ RowU w' a rs.reverse ∧ Upd (fun k => v.ownBlock = some k) w w'
set_option maxRecDepth 100000 in
set_option maxHeartbeats 4000000 in
theorem ru_reverse {B : Nat} (v : Value) (n : Nat) (rs : List Rul) (w : World) (h : Sl B w 5 v n (rs.flatMap Rul.cells)) (hn : n = rs.length) (hs : n ≤ 10000) :
    ∃ a c, v = .slice a n c ∧ Calls Tryz.prog 41 #[v] w (RevU v a rs w) := by
  rcases h.2 with ⟨rfl, h0⟩ | ⟨g, off, cap, rfl, hg, hgw, h1, h2, h3, h4⟩
  · refine ⟨none, 0, by rw [h0], ?_⟩
    have hl0 : rs = [] := List.eq_nil_of_length_eq_zero (by omega)
    subst hl0
    clear h hn hs h0
    go_enter Tryz.func41, Tryz.ntmps41
    go_wp2
    go_loopg [2, 3] 0 (fun _ s2 s3 wr => s2 = .int .i64 0 ∧ s3 = .int .i64 (-1) ∧ wr = w)
    case atStart => exact ⟨rfl, rfl, rfl⟩
    case round =>
      obtain ⟨rfl, rfl, rfl⟩ := hrel
      go_wp2
      go_end0
      exact ⟨rfl, ⟨fun i hi => by simp at hi⟩, Upd.refl _ _⟩
  · refine ⟨some ⟨g, off, none⟩, cap, rfl, ?_⟩
    have hown : Own w g off (n * 5) (turned5 n (ruz rs) 0) := ⟨hgw, fun j hj => by
      rw [h3 j hj]
      unfold turned5
      rw [if_neg (by omega), show j = j / 5 * 5 + j % 5 by omega, flat_nth Rul.cells 5 rul_len rs (j / 5) (by omega) (j % 5) (by omega)]
      rw [ruz_cells rs (j / 5) (j % 5) (by omega) (by omega)], fun j hj => (h4 j (by omega)).2⟩
    have HRS : Hid (∀ i j, (hi : i < rs.length) → j < 5 → (Rul.cells rs[i])[j]? = some (.int .i64 (ruz rs (i * 5 + j)))) := ruz_cells rs
    have HN := Lib.hid hn
    clear h h3 h4 hn
    generalize ruz rs = Z at *
    go_enter Tryz.func41, Tryz.ntmps41
    go_wp2
    go_loopg [2, 3] n (fun k s2 s3 wr => ∃ p : Nat, s2 = .int .i64 p ∧ s3 = .int .i64 ((n : Int) - 1 - p) ∧ k = n - p ∧ p + p ≤ n ∧ Own wr g off (n * 5) (turned5 n Z p) ∧ Upd (fun k => k = g) w wr)
    case atStart => exact ⟨0, rfl, by simp, rfl, by omega, hown, Upd.refl _ _⟩
    case round =>
      clear hown
      obtain ⟨p, rfl, rfl, rfl, hp, ho, hbw⟩ := hrel
      by_cases hlt : p + p + 1 < n
      · have hlt' : (p : Int) < (n : Int) - 1 - p := by omega
        obtain ⟨q, hq⟩ : ∃ q, q = n - 1 - p := ⟨_, rfl⟩
        have hqz : (n : Int) - 1 - p = (q : Int) := by omega
        have hcp : ∀ t, t < n * 5 → ¬ (t / 5 < p ∨ n ≤ t / 5 + p) → wr.cell? ⟨g, off + t, none⟩ = some (.int .i64 (Z t)) := fun t ht hc => by
          rw [ho.cell t ht]; unfold turned5; rw [if_neg hc]
        have c0 := hcp (p * 5) (by omega) (by omega)
        have c1 := hcp (p * 5 + 1) (by omega) (by omega)
        have c2 := hcp (p * 5 + 2) (by omega) (by omega)
        have c3 := hcp (p * 5 + 3) (by omega) (by omega)
        have c4 := hcp (p * 5 + 4) (by omega) (by omega)
        have d0 := hcp (q * 5) (by omega) (by omega)
        have d1 := hcp (q * 5 + 1) (by omega) (by omega)
        have d2 := hcp (q * 5 + 2) (by omega) (by omega)
        have d3 := hcp (q * 5 + 3) (by omega) (by omega)
        have d4 := hcp (q * 5 + 4) (by omega) (by omega)
        have y0 := ho.free (p * 5) (by omega)
        have y1 := ho.free (p * 5 + 1) (by omega)
        have y2 := ho.free (p * 5 + 2) (by omega)
        have y3 := ho.free (p * 5 + 3) (by omega)
        have y4 := ho.free (p * 5 + 4) (by omega)
        have z0 := ho.free (q * 5) (by omega)
        have z1 := ho.free (q * 5 + 1) (by omega)
        have z2 := ho.free (q * 5 + 2) (by omega)
        have z3 := ho.free (q * 5 + 3) (by omega)
        have z4 := ho.free (q * 5 + 4) (by omega)
        rw [← Nat.add_assoc] at c1 c2 c3 c4 d1 d2 d3 d4 y1 y2 y3 y4 z1 z2 z3 z4
        have hT := ho.turn5 hlt hq
        have hpn : p < n := by omega
        have hqn : q < n := by omega
        have hpq : p < q := by omega
        have hwu : ∀ (u : World), Upd (fun k => k = g) wr u → Upd (fun k => k = g) w u := fun u hu => hbw.trans hu (fun b _ hb => hb)
        rw [hqz]
        rw [hqz] at hlt'
        have HQZ := Lib.hid hqz
        have HQ := Lib.hid hq
        have HTT := Lib.hid hT
        have HO := Lib.hid ho
        have HWU := Lib.hid hwu
        clear hqz hq hT ho hcp hwu hbw
        generalize Z (p * 5) = x0 at *
        generalize Z (p * 5 + 1) = x1 at *
        generalize Z (p * 5 + 2) = x2 at *
        generalize Z (p * 5 + 3) = x3 at *
        generalize Z (p * 5 + 4) = x4 at *
        generalize Z (q * 5) = t0 at *
        generalize Z (q * 5 + 1) = t1 at *
        generalize Z (q * 5 + 2) = t2 at *
        generalize Z (q * 5 + 3) = t3 at *
        generalize Z (q * 5 + 4) = t4 at *
        go_wp2
        go_region
        go_wp2
        go_roundg (n - (p + 1))
        case measure => omega
        case rel =>
          refine ⟨p + 1, by go_num, by have := HQZ.out; simp; omega, rfl, by omega, HTT.out.drew, HWU.out _ ?_⟩
          exact ((((((((((((Upd.refl (fun k => k = g) wr).setCell (p := ⟨g, off + p * 5, none⟩) (fun _ => rfl) _).setCell (p := ⟨g, off + p * 5 + 1, none⟩) (fun _ => rfl) _).setCell (p := ⟨g, off + p * 5 + 2, none⟩) (fun _ => rfl) _).setCell (p := ⟨g, off + p * 5 + 3, none⟩) (fun _ => rfl) _).setCell (p := ⟨g, off + p * 5 + 4, none⟩) (fun _ => rfl) _).setCell (p := ⟨g, off + q * 5, none⟩) (fun _ => rfl) _).setCell (p := ⟨g, off + q * 5 + 1, none⟩) (fun _ => rfl) _).setCell (p := ⟨g, off + q * 5 + 2, none⟩) (fun _ => rfl) _).setCell (p := ⟨g, off + q * 5 + 3, none⟩) (fun _ => rfl) _).setCell (p := ⟨g, off + q * 5 + 4, none⟩) (fun _ => rfl) _)).drew
      · have hge : (n : Int) - 1 - p ≤ (p : Int) := by omega
        have HO := Lib.hid ho
        have HB := Lib.hid hbw
        clear ho hbw
        go_wp2
        go_end0
        have ho := HO.out
        refine ⟨rfl, ⟨fun i hi => ⟨g, off, rfl, ho.lt, fun j hj => ?_⟩⟩, HB.out.mono fun k _ hk => by rw [hk]; rfl⟩
        rw [List.length_reverse, ← HN.out] at hi
        have hc := ho.cell (i * 5 + j) (by omega)
        rw [show off + i * 5 + j = off + (i * 5 + j) by omega, hc, List.getElem_reverse]
        rw [HRS.out _ j (by rw [← HN.out]; omega) hj]
        unfold turned5
        have e1 : (i * 5 + j) / 5 = i := by omega
        have e2 : (i * 5 + j) % 5 = j := by omega
        rw [e1, e2, ← HN.out]
        by_cases hc1 : i < p ∨ n ≤ i + p
        · rw [if_pos hc1]
        · rw [if_neg hc1]
          exact congrArg (fun t => some (Value.int .i64 (Z t))) (by omega)
theorem upd_rev (g : Nat) : ∀ (vs : List Value) (o : Nat) (w : World), Upd (fun k => k = g) w (w.setCells g o vs)
  | [], _, w => Upd.refl _ w
  | v :: r, o, w => ((Upd.refl (fun k => k = g) w).setCell (p := ⟨g, o, none⟩) (fun _ => rfl) v).trans (upd_rev g r (o + 1) _) (fun _ _ h => h)
def RevS (v : Value) (a : Option Addr) (ls : List ByteArray) (w : World) (e : Ending) (w' : World) : Prop := e = .returned (.tuple #[]) ∧ RowS w' a ls.reverse ∧ Upd (fun k => v.ownBlock = some k) w w'
theorem str_reverse {B : Nat} (v : Value) (n : Nat) (ls : List ByteArray) (w : World) (h : Sl B w 1 v n (sv ls)) (hn : n = ls.length) (hs : n ≤ 10000) :
    ∃ a c, v = .slice a n c ∧ Calls Tryz.prog 42 #[v] w (RevS v a ls w) := by
  rcases h.2 with ⟨rfl, h0⟩ | ⟨g, off, cap, rfl, hg, hgw, h1, h2, h3, h4⟩
  · refine ⟨none, 0, by rw [h0], ?_⟩
    have hl0 : ls = [] := List.eq_nil_of_length_eq_zero (by omega)
    subst hl0
    exact (Tryz.slices_Reverse_string_empty none 0 w).mono fun e w' k => by
      obtain ⟨k1, rfl⟩ := k
      exact ⟨k1, ⟨fun i hi => by simp at hi⟩, Upd.refl _ _⟩
  · refine ⟨some ⟨g, off, none⟩, cap, rfl, ?_⟩
    refine (Tryz.slices_Reverse_string_cells g off n cap (fun i => ls.getD i ⟨#[]⟩) w (by omega) (fun i hi => ?_) (fun j hj => (h4 j (by omega)).2)).mono fun e w' k => ?_
    · rw [h3 i (by omega)]
      simp [sv, List.getD, show i < ls.length by omega]
    · obtain ⟨k1, q, rfl⟩ := k
      have hlen : ((Lib.strsOf (fun i => ls.getD i ⟨#[]⟩) n).reverse.map encStr).length = n := by rw [List.length_map, List.length_reverse, Lib.strsOf_length]
      refine ⟨k1, ⟨fun i hi => ⟨g, off, rfl, ?_, ?_⟩⟩, ?_⟩
      · exact Nat.lt_of_lt_of_le hgw (upd_rev g _ off (w.drewN q)).size
      · rw [List.length_reverse, ← hn] at hi
        rw [World.cell?_setCells_in g _ off _ (fun j hj => ?_) i (by rw [hlen]; exact hi)]
        · simp [Lib.strsOf, List.getElem_reverse, encStr, List.getD, hn]
          rw [List.getElem?_eq_getElem (show ls.length - 1 - i < ls.length by omega)]; rfl
        · rw [hlen] at hj
          show (w.cell? _).isSome = true
          exact (h4 j (by omega)).1
      · exact (((Upd.refl (fun k => k = g) w).drewN q).trans (upd_rev g _ off (w.drewN q)) (fun _ _ h => h)).mono fun k _ hk => by rw [hk]; rfl
end Go.Proofs.YtoecikeleoaecaaGreat

/- A case in the other order, as it lies in memory. -/
namespace Go.Proofs.YtoecikeleoaecaaGreat
set_option maxRecDepth 4000
open Go.ChangeShapes Go.WideShapes Go.ChangeAt Go.RowKit
open PHist PRing PSat PClamp PBound PFrame PVar PCrc PSign PTree PEv
set_option linter.unusedVariables false
set_option linter.unusedSimpArgs false

theorem cl_rules (rs : List Rul) (a : Option Addr) (n c : Nat) (w : World) (h : RowU w a rs) (hn : n = rs.length) (hl : n ≤ 10000) :
    Calls Tryz.prog 39 #[.slice a n c] w (ClPost 5 n (rs.flatMap Rul.cells) w) :=
  cl_ru a n c (rs.flatMap Rul.cells) w (fun w'' hb' => src_rowg Tryz.underlying22 w'' a n c 5 (by omega) Rul.cells rul_len rul_one rs (h.below hb') hn.symm) (fun hx => by subst hx; have := rowg_none h; subst this; exact ⟨hn, rfl⟩) (by omega)
theorem rowg_str {w : World} {a : Option Addr} {ls : List ByteArray} (h : RowS w a ls) : RowG w 1 (fun s => [Value.string s]) a ls :=
  ⟨fun i hi => by
    obtain ⟨b, off, h1, h2, h3⟩ := h.at_ i hi
    refine ⟨b, off, h1, h2, fun j hj => ?_⟩
    obtain rfl : j = 0 := by omega
    rw [show off + i * 1 + 0 = off + i by omega, h3]
    rfl⟩
theorem sv_flat (ls : List ByteArray) : ls.flatMap (fun s => [Value.string s]) = sv ls := by
  unfold sv
  induction ls with
  | nil => rfl
  | cons x l ih => rw [List.flatMap_cons, ih]; rfl
theorem cl_logs (ls : List ByteArray) (a : Option Addr) (n c : Nat) (w : World) (h : RowS w a ls) (hn : n = ls.length) (hl : n ≤ 10000) :
    Calls Tryz.prog 40 #[.slice a n c] w (ClPost 1 n (sv ls) w) := by
  rw [← sv_flat]
  exact cl_str a n c _ w (fun w'' hb' => src_rowg Tryz.underlying25 w'' a n c 1 (by omega) (fun s => [Value.string s]) (fun _ => rfl) (fun x u hu => by rw [List.mem_singleton.1 hu]; rfl) ls ((rowg_str h).below hb') hn.symm) (fun hx => by subst hx; have := rowg_none (rowg_str h); subst this; exact ⟨hn, rfl⟩) (by omega)
/-- The case in the other order is there, before its rows are turned. -/
def TopAt (w0 : World) (n m : Nat) (t d : Int) (rs : List Rul) (ls : List ByteArray) (v : Value) (wx : World) : Prop :=
  ∃ g a c b c2, v = .pointer (some ⟨g, 0, none⟩) ∧ At wx g [.slice a n c, .int .i64 t, .int .i64 d, .slice b m c2, .slice none 0 0] ∧ Sl w0.heap.size wx 5 (.slice a n c) n (rs.flatMap Rul.cells) ∧ Sl w0.heap.size wx 1 (.slice b m c2) m (sv ls) ∧ w0.heap.size ≤ g ∧ (∀ k, (Value.slice a n c).ownBlock = some k → k ≠ g) ∧ (∀ k, (Value.slice b m c2).ownBlock = some k → k ≠ g ∧ (Value.slice a n c).ownBlock ≠ some k) ∧ Below w0.heap.size w0 wx
theorem topAt_of {w0 wx : World} {B1 B2 : Nat} {n m : Nat} {t d : Int} {rs : List Rul} {ls : List ByteArray} {a b : Option Addr} {c c2 : Nat} (T : TypeId) (h1 : Sl B1 wx 5 (.slice a n c) n (rs.flatMap Rul.cells)) (h2 : Sl B2 wx 1 (.slice b m c2) m (sv ls)) (hb1 : w0.heap.size ≤ B1) (hb2 : w0.heap.size ≤ B2)
    (hd : ∀ k, (Value.slice b m c2).ownBlock = some k → (Value.slice a n c).ownBlock ≠ some k) (hB : Below w0.heap.size w0 wx) :
    TopAt w0 n m t d rs ls (.pointer (some ⟨wx.heap.size, 0, none⟩)) (wx.alloc (.cells #[.slice a n c, .int .i64 t, .int .i64 d, .slice b m c2, .slice none 0 0] T)) :=
  ⟨wx.heap.size, a, c, b, c2, rfl, At.alloc wx _ _, (h1.base hb1).onW ((Below.refl _ _).alloc (Nat.le_refl _) _), (h2.base hb2).onW ((Below.refl _ _).alloc (Nat.le_refl _) _), hB.size, fun k hk e => by have := (h1.lt k hk).2; omega, fun k hk => ⟨fun e => by have := (h2.lt k hk).2; omega, hd k hk⟩, hB.alloc hB.size _⟩
theorem topAt_set {w0 wx : World} {B1 B2 g : Nat} {n m : Nat} {t d : Int} {rs : List Rul} {ls : List ByteArray} {a b : Option Addr} {c c2 : Nat} {y0 y1 y2 y3 y4 : Value} (hA : At wx g [y0, y1, y2, y3, y4]) (h1 : Sl B1 wx 5 (.slice a n c) n (rs.flatMap Rul.cells)) (h2 : Sl B2 wx 1 (.slice b m c2) m (sv ls)) (hb1 : w0.heap.size ≤ B1) (hb2 : w0.heap.size ≤ B2) (hg : w0.heap.size ≤ g)
    (k1 : ∀ k, (Value.slice a n c).ownBlock = some k → k ≠ g) (k2 : ∀ k, (Value.slice b m c2).ownBlock = some k → k ≠ g) (hd : ∀ k, (Value.slice b m c2).ownBlock = some k → (Value.slice a n c).ownBlock ≠ some k) (hB : Below w0.heap.size w0 wx) :
    TopAt w0 n m t d rs ls (.pointer (some ⟨g, 0, none⟩)) (((((wx.setCell ⟨g, 0, none⟩ (.slice a n c)).setCell ⟨g, 1, none⟩ (.int .i64 t)).setCell ⟨g, 2, none⟩ (.int .i64 d)).setCell ⟨g, 3, none⟩ (.slice b m c2)).setCell ⟨g, 4, none⟩ (.slice none 0 0)) := by
  have hu := ((((((Upd.refl (fun k => k = g) wx).setCell (p := ⟨g, 0, none⟩) (fun _ => rfl) (.slice a n c)).setCell (p := ⟨g, 1, none⟩) (fun _ => rfl) (.int .i64 t)).setCell (p := ⟨g, 2, none⟩) (fun _ => rfl) (.int .i64 d)).setCell (p := ⟨g, 3, none⟩) (fun _ => rfl) (.slice b m c2)).setCell (p := ⟨g, 4, none⟩) (fun _ => rfl) (.slice none 0 0))
  exact ⟨g, a, c, b, c2, rfl, At.all5 hA _ _ _ _ _, (h1.base hb1).upd hu k1, (h2.base hb2).upd hu k2, hg, k1, fun k hk => ⟨k2 k hk, hd k hk⟩, hB.upd hu hB.size (fun i _ e => by have e' : i = g := e; omega)⟩
end Go.Proofs.YtoecikeleoaecaaGreat

/- Two sources side by side. -/
namespace Go.Proofs.YtoecikeleoaecaaGreat
set_option maxRecDepth 4000
open Go.ChangeShapes Go.WideShapes Go.ChangeAt Go.RowKit
open PHist PRing PSat PClamp PBound PFrame PVar PCrc PSign PTree PEv
set_option linter.unusedVariables false
set_option linter.unusedSimpArgs false

theorem retag_nz {tag : Nat → Nat} {n b : Nat} (h : retag tag n 0 b ≠ 0) : tag b ≠ 0 ∧ b < n := by
  rcases Nat.lt_or_ge b n with hlt | hge
  · rw [retag_old hlt] at h; exact ⟨h, hlt⟩
  · exact absurd (retag_new hge) h
/-- Two sources that share nothing; what lies in F is neither's. -/
def Duo (w7 : World) (F : Nat → Prop) (V1 : SrcV) (g1 : Nat) (V2 : SrcV) (g2 : Nat) (wr : World) (sa sb : St) (na nb : Nat) : Prop :=
  ∃ (tag1 : Nat → Nat) (W1 : Nat → Nat → Prop) (ev1 : Value) (e1 : List Ev) (b1 : Nat) (tag2 : Nat → Nat) (W2 : Nat → Nat → Prop) (ev2 : Value) (e2 : List Ev) (b2 : Nat), SrcI w7 wr tag1 W1 ev1 V1 g1 sa e1 b1 ∧ SrcI w7 wr tag2 W2 ev2 V2 g2 sb e2 b2 ∧ (∀ b, tag1 b ≠ 0 → tag2 b = 0) ∧ (∀ b, F b → tag1 b = 0 ∧ tag2 b = 0) ∧ e1.length ≤ na ∧ e2.length ≤ nb
section
variable {w7 wr w' : World} {F : Nat → Prop} {V1 V2 : SrcV} {g1 g2 : Nat} {sa sb : St} {na nb : Nat}
theorem Duo.on (h : Duo w7 F V1 g1 V2 g2 wr sa sb na nb) (hb : Below wr.heap.size wr w') : Duo w7 F V1 g1 V2 g2 w' sa sb na nb := by
  obtain ⟨tag1, W1, ev1, e1, b1, tag2, W2, ev2, e2, b2, h1, h2, h3⟩ := h
  exact ⟨tag1, W1, ev1, e1, b1, tag2, W2, ev2, e2, b2, h1.on hb, h2.on hb, h3⟩
theorem Duo.below (h : Duo w7 F V1 g1 V2 g2 wr sa sb na nb) : Below w7.heap.size w7 wr := by
  obtain ⟨tag1, W1, ev1, e1, b1, tag2, W2, ev2, e2, b2, h1, h2, h3⟩ := h
  exact h1.new
theorem Duo.weak {F' : Nat → Prop} (h : Duo w7 F V1 g1 V2 g2 wr sa sb na nb) (hF : ∀ b, F' b → F b) : Duo w7 F' V1 g1 V2 g2 wr sa sb na nb := by
  obtain ⟨tag1, W1, ev1, e1, b1, tag2, W2, ev2, e2, b2, h1, h2, h3, h4, h5⟩ := h
  exact ⟨tag1, W1, ev1, e1, b1, tag2, W2, ev2, e2, b2, h1, h2, h3, fun b hb => h4 b (hF b hb), h5⟩
theorem Duo.swap (h : Duo w7 F V1 g1 V2 g2 wr sa sb na nb) : Duo w7 F V2 g2 V1 g1 wr sb sa nb na := by
  obtain ⟨tag1, W1, ev1, e1, b1, tag2, W2, ev2, e2, b2, h1, h2, h3, h4, h5, h6⟩ := h
  exact ⟨tag2, W2, ev2, e2, b2, tag1, W1, ev1, e1, b1, h2, h1, fun b hb => Classical.byContradiction fun hn => hb (h3 b hn), fun b hb => (h4 b hb).symm, h6, h5⟩
/-- What is made from here on is neither's. -/
theorem Duo.fresh (h : Duo w7 F V1 g1 V2 g2 wr sa sb na nb) : Duo w7 (fun b => F b ∨ wr.heap.size ≤ b) V1 g1 V2 g2 wr sa sb na nb := by
  obtain ⟨tag1, W1, ev1, e1, b1, tag2, W2, ev2, e2, b2, h1, h2, h3, h4, h5⟩ := h
  refine ⟨retag tag1 wr.heap.size 0, W1, ev1, e1, b1, retag tag2 wr.heap.size 0, W2, ev2, e2, b2, ⟨h1.src.retag 0, fun b hb => h1.own b (retag_nz hb).1, h1.new, h1.ok⟩, ⟨h2.src.retag 0, fun b hb => h2.own b (retag_nz hb).1, h2.new, h2.ok⟩, fun b hb => ?_, fun b hb => ?_, h5⟩
  · obtain ⟨h, hl⟩ := retag_nz hb
    rw [retag_old hl]
    exact h3 b h
  · rcases Nat.lt_or_ge b wr.heap.size with hlt | hge
    · rw [retag_old hlt, retag_old hlt]
      exact hb.elim (h4 b) (fun e => by omega)
    · exact ⟨retag_new hge, retag_new hge⟩
theorem Duo.upd (h : Duo w7 F V1 g1 V2 g2 wr sa sb na nb) (hu : Upd F wr w') (hB : ∀ b, F b → w7.heap.size ≤ b) : Duo w7 F V1 g1 V2 g2 w' sa sb na nb := by
  obtain ⟨tag1, W1, ev1, e1, b1, tag2, W2, ev2, e2, b2, h1, h2, h3, h4, h5⟩ := h
  exact ⟨tag1, W1, ev1, e1, b1, tag2, W2, ev2, e2, b2, ⟨h1.src.upd hu (fun b _ hb => (h4 b hb).1), h1.own, h1.new.upd hu h1.new.size (fun i _ hi => hB i hi), h1.ok⟩, ⟨h2.src.upd hu (fun b _ hb => (h4 b hb).2), h2.own, h2.new.upd hu h2.new.size (fun i _ hi => hB i hi), h2.ok⟩, h3, h4, h5⟩
/-- A choice of the first. -/
theorem Duo.one (h : Duo w7 F V1 g1 V2 g2 wr sa sb na nb) (hF : ∀ b, wr.heap.size ≤ b → F b) (x : Bool × Int) (hx : in64 x.2) (hb : na ≤ 90000) :
    Calls Tryz.prog 21 #[.pointer (some ⟨g1, 0, none⟩), .agg #[.bool x.1, .int .i64 x.2]] wr fun e w' => ∃ v, e = .returned v ∧ Sl wr.heap.size w' 1 v (sa.doE x).length ((sa.doE x).map evv) ∧ Duo w7 (fun b => (F b ∧ b < wr.heap.size) ∨ v.ownBlock = some b) V1 g1 V2 g2 w' (sa.doS x) sb (na + 20) nb ∧ Upd (fun b => ¬ F b) wr w' := by
  obtain ⟨tag1, W1, ev1, e1, b1, tag2, W2, ev2, e2, b2, h1, h2, h3, h4, h5, h6⟩ := h
  refine (so_do tag1 W1 ev1 V1 g1 sa e1 b1 x.1 x.2 wr h1.src h1.ok hx (by omega)).mono fun e w' k => ?_
  obtain ⟨v, tag', W', ev', k1, k2, k3, k4, k5, k6⟩ := k
  have hl : (sa.doE x).length ≤ 20 := by have := doE_len sa x; omega
  refine ⟨v, k1, k2, ⟨tag', W', ev', _, b1, tag2, W2, ev2, e2, b2, ⟨k3, fun b hb => (k5 b hb).elim (h1.own b) (Nat.le_trans h1.new.size), h1.new.upd k4 h1.new.size (fun i _ hi => h1.own i hi), h1.ok.do x⟩, ⟨h2.src.upd k4 (fun b _ hb => h3 b hb), h2.own, h2.new.upd k4 h2.new.size (fun i _ hi => h1.own i hi), h2.ok⟩, fun b hb => ?_, fun b hb => ?_, by rw [List.length_append]; have : (sa.doE (x.1, x.2)).length ≤ 20 := hl; omega, h6⟩, k4.mono fun b _ hn hF' => hn (h4 b hF').1⟩
  · rcases k5 b hb with q | q
    · exact h3 b q
    · exact (h4 b (hF b q)).2
  · rcases hb with ⟨q1, q2⟩ | q
    · refine ⟨Classical.byContradiction fun hn => ?_, (h4 b q1).2⟩
      rcases k5 b hn with q | q
      · exact q (h4 b q1).1
      · omega
    · exact ⟨k6 b q, (h4 b (hF b (k2.lt b q).1)).2⟩
theorem Duo.now (h : Duo w7 F V1 g1 V2 g2 wr sa sb na nb) : Calls Tryz.prog 22 #[.pointer (some ⟨g1, 0, none⟩)] wr fun e w' => e = .returned (.int .i64 sa.now) ∧ wr = w' := by
  obtain ⟨tag1, W1, ev1, e1, b1, tag2, W2, ev2, e2, b2, h1, -⟩ := h
  exact so_now tag1 W1 ev1 V1 g1 _ wr h1.src
theorem Duo.over (h : Duo w7 F V1 g1 V2 g2 wr sa sb na nb) (o : Bool) (ho : o = true ↔ ∀ j, j < sa.ps.length → 2 ≤ ss sa.ps j) : Calls Tryz.prog 31 #[.pointer (some ⟨g1, 0, none⟩)] wr fun e w' => e = .returned (.bool o) ∧ Below wr.heap.size wr w' := by
  obtain ⟨tag1, W1, ev1, e1, b1, tag2, W2, ev2, e2, b2, h1, -⟩ := h
  exact so_over tag1 W1 ev1 V1 g1 _ o wr h1.src (Nat.le_refl _) h1.is ho
end
theorem Duo.of_new {w7 w8 w9 : World} {tag1 tag2 : Nat → Nat} {W1 W2 : Nat → Nat → Prop} {ev1 ev2 : Value} {V1 V2 : SrcV} {g1 g2 : Nat} {sa sb : St} {e1 e2 : List Ev} {b1 b2 : Nat} (h1 : SrcI w7 w8 tag1 W1 ev1 V1 g1 sa e1 b1) (h2 : SrcI w8 w9 tag2 W2 ev2 V2 g2 sb e2 b2) : Duo w7 (fun _ => False) V1 g1 V2 g2 w9 sa sb e1.length e2.length :=
  ⟨retag tag1 w8.heap.size 0, W1, ev1, e1, b1, tag2, W2, ev2, e2, b2, (⟨h1.src.retag 0, fun b hb => h1.own b (retag_nz hb).1, h1.new, h1.ok⟩ : SrcI w7 w8 _ W1 ev1 V1 g1 sa e1 b1).on h2.new, ⟨h2.src, fun b hb => Nat.le_trans h1.new.size (h2.own b hb), on_below h1.new h2.new, h2.ok⟩, fun b hb => Classical.byContradiction fun hn => by have := (retag_nz hb).2; have := h2.own b hn; omega, fun b hb => hb.elim, Nat.le_refl _, Nat.le_refl _⟩
theorem SrcI.begins {w0 w : World} {tag : Nat → Nat} {W : Nat → Nat → Prop} {ev : Value} {V : SrcV} {g : Nat} {s : St} {evs : List Ev} (h : SrcI w0 w tag W ev V g s evs evs.length) (hl : evs.length ≤ 100000) (n : Nat) (hn : n = evs.length) : Calls Tryz.prog 19 #[.pointer (some ⟨g, 0, none⟩)] w (ClPost 1 n (evs.map evv) w) := by
  subst hn
  have h : Calls Tryz.prog 19 #[.pointer (some ⟨g, 0, none⟩)] w (ClPost 1 evs.length ((evs.take evs.length).map evv) w) := so_begin tag W ev V g _ w h.src hl (Nat.le_refl _)
  rw [List.take_length] at h
  exact h
theorem last_of {B : Nat} {l : List Ev} {a : Option Addr} {n c : Nat} {w : World} (h : Sl B w 1 (.slice a n c) n (l.map evv)) (hn : l.length = n) (hl : n ≤ 100000) (z : Int) (hz : elast l = z) : Calls Tryz.prog 43 #[.slice a n c] w fun e w' => e = .returned (.int .i64 z) ∧ Below w.heap.size w w' := by
  subst hn hz
  obtain ⟨-, a', c', hv, hr⟩ := rowe_of_sl h
  cases hv
  exact ev_last a l.length c l w rfl (by omega) hr
theorem Duo.le {w7 wr : World} {F : Nat → Prop} {V1 V2 : SrcV} {g1 g2 : Nat} {sa sb : St} {na nb na' nb' : Nat} (h : Duo w7 F V1 g1 V2 g2 wr sa sb na nb) (h1 : na ≤ na') (h2 : nb ≤ nb') : Duo w7 F V1 g1 V2 g2 wr sa sb na' nb' := by
  obtain ⟨tag1, W1, ev1, e1, b1, tag2, W2, ev2, e2, b2, k1, k2, k3, k4, k5, k6⟩ := h
  exact ⟨tag1, W1, ev1, e1, b1, tag2, W2, ev2, e2, b2, k1, k2, k3, k4, Nat.le_trans k5 h1, Nat.le_trans k6 h2⟩
theorem turnC_64 {m : Nat} {x : Bool × Int} (hm : m ≤ 8) (hx : in64 x.2) : in64 (turnC m x).2 := by
  obtain ⟨t, i⟩ := x
  unfold turnC
  cases t
  · simp only [Bool.false_eq_true, if_false]
    unfold in64
    split <;> omega
  · exact hx
/-- Behind both choices. -/
def Did (w7 : World) (V1 : SrcV) (ga : Nat) (V2 : SrcV) (gb : Nat) (s5 : St) (x : Bool × Int) (m : Nat) (na : Nat) (v12 v13 : Value) (wx : World) : Prop :=
  ∃ a12 c12 a13 c13, v12 = .slice a12 (s5.doE x).length c12 ∧ v13 = .slice a13 (s5.doE x).length c13 ∧ RowE wx a12 (s5.doE x) ∧ RowE wx a13 ((s5.doE x).map (turnE m)) ∧ Duo w7 (fun _ => False) V1 ga V2 gb wx (s5.doS x) (s5.doS x).rev na na
theorem did_of {w7 w13 w14 : World} {V1 V2 : SrcV} {ga gb : Nat} {s5 : St} {x y : Bool × Int} {m na : Nat} {F' F'' : Nat → Prop} {v13 v14 : Value} {B1 B2 : Nat} {n1 n2 : Nat}
    (hps : s5.ps.length = m) (hy : y = turnC m x) (h13 : Sl B1 w13 1 v13 (s5.doE x).length ((s5.doE x).map evv)) (hu : Upd (fun b => ¬ F' b) w13 w14) (hF : ∀ k, v13.ownBlock = some k → F' k)
    (h14 : Sl B2 w14 1 v14 (s5.rev.doE y).length ((s5.rev.doE y).map evv)) (hD : Duo w7 F'' V2 gb V1 ga w14 (s5.rev.doS y) (s5.doS x) n1 n2) (hn1 : n1 ≤ na) (hn2 : n2 ≤ na) : Did w7 V1 ga V2 gb s5 x m na v13 v14 w14 := by
  subst hy hps
  have hr := do_rev s5 x
  rw [hr.2] at h14
  rw [hr.1] at hD
  have h13' := h13.upd hu (fun k hk hn => hn (hF k hk))
  rw [List.length_map] at h14
  obtain ⟨-, a12, c12, e1, r1⟩ := rowe_of_sl h13'
  have h14' : Sl B2 w14 1 v14 ((s5.doE x).map (turnE s5.ps.length)).length (((s5.doE x).map (turnE s5.ps.length)).map evv) := by rw [List.length_map]; exact h14
  obtain ⟨-, a13, c13, e2, r2⟩ := rowe_of_sl h14'
  rw [List.length_map] at e2
  exact ⟨a12, c12, a13, c13, e1, e2, r1, r2, (hD.swap.weak (fun _ h => h.elim)).le hn2 hn1⟩
theorem second_do {w7 w13 : World} {V1 V2 : SrcV} {ga gb : Nat} {s5 : St} {x : Bool × Int} {y1 : Bool} {y2 : Int} {m na : Nat} {F : Nat → Prop} {v13 : Value} {B1 : Nat} {n1 n2 : Nat}
    (hps : s5.ps.length = m) (hy : (y1, y2) = turnC m x) (hyin : in64 y2) (hD : Duo w7 F V1 ga V2 gb w13 (s5.doS x) s5.rev n1 n2) (h13 : Sl B1 w13 1 v13 (s5.doE x).length ((s5.doE x).map evv)) (hF : ∀ k, v13.ownBlock = some k → F k) (hn2 : n2 ≤ 90000) (hna : n2 + 20 ≤ na) (hnb : n1 ≤ na) :
    Calls Tryz.prog 21 #[.pointer (some ⟨gb, 0, none⟩), .agg #[.bool y1, .int .i64 y2]] w13 fun e w' => ∃ v, e = .returned v ∧ Did w7 V1 ga V2 gb s5 x m na v13 v w' ∧ Upd (fun b => ¬ (F b ∨ w13.heap.size ≤ b)) w13 w' :=
  (hD.fresh.swap.one (fun b hb => Or.inr hb) (y1, y2) hyin hn2).mono fun e w' k => by
    obtain ⟨v, k1, k2, k3, k4⟩ := k
    exact ⟨v, k1, did_of hps hy h13 k4 (fun k hk => Or.inl (hF k hk)) k2 k3 hna hnb, k4⟩
theorem ev_guard (v : Ev) (w : World) : (eqGuard .neq 67 (.tmp 134) (.tmp 140) (evv v) (evv v)).run Tryz.prog w = .ok () w := by
  cases v with
  | el late p k t x => kernel_rfl
  | mark m => kernel_rfl
  | fault p m => kernel_rfl
end Go.Proofs.YtoecikeleoaecaaGreat
