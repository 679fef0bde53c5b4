/- Events as plain data, and back. -/
import Derived.Test.YtcigklninmddaaaGreatDoorEv8
namespace Go.Proofs.YtcigklninmddaaaGreatDoor
set_option maxRecDepth 4000
open Go.ChangeShapes Go.WideShapes Go.ChangeAt Go.RowKit
open PWord PQuote PSign PEv
open Go.Lib (itoa)
set_option linter.unusedVariables false
set_option linter.unusedSimpArgs false

/-- What plain data tell. -/
def evof (kind part rk rt : Int) (x : List UInt8) (late : Bool) (at_ er : Int) : Ev :=
  if kind = 1 then .mark at_ else if kind = 2 then .fault part er else .el late part rk rt x
theorem evof_ok {kind part rk rt : Int} {x : List UInt8} {late : Bool} {at_ er : Int} (h1 : in64 part) (h2 : in64 rk) (h3 : in64 rt) (h4 : in64 at_) (h5 : in64 er) : (evof kind part rk rt x late at_ er).ok := by
  unfold evof
  split
  · exact h4
  · split
    · exact ⟨h1, h5⟩
    · exact ⟨h1, h2, h3⟩
theorem evof_text (kind part rk rt : Int) (x : List UInt8) (late : Bool) (at_ er : Int) : (etext (evof kind part rk rt x late at_ er)).length ≤ x.length := by
  unfold evof
  split
  · exact Nat.zero_le _
  · split
    · exact Nat.zero_le _
    · exact Nat.le_refl _

set_option maxRecDepth 100000 in
set_option maxHeartbeats 1000000 in
theorem law_of (v : Ev) (w : World) : Calls Tryz.prog 7 #[evr v] w fun e w' => e = .returned (evv v) ∧ Below w.heap.size w w' := by
  cases v with
  | mark n =>
    show Calls Tryz.prog 7 #[.agg #[.int .i64 1, .int .i64 0, .int .i64 0, .int .i64 0, .string ⟨#[]⟩, .bool false, .int .i64 n, .int .i64 0]] w _
    go_enter Tryz.func7, Tryz.ntmps7
    go_wp2
    go_ret
    exact ⟨rfl, (Below.refl _ _).alloc (Nat.le_refl _) _⟩
  | fault p n =>
    show Calls Tryz.prog 7 #[.agg #[.int .i64 2, .int .i64 p, .int .i64 0, .int .i64 0, .string ⟨#[]⟩, .bool false, .int .i64 0, .int .i64 n]] w _
    go_enter Tryz.func7, Tryz.ntmps7
    go_wp2
    go_ret
    exact ⟨rfl, (Below.refl _ _).alloc (Nat.le_refl _) _⟩
  | el late p k t x =>
    show Calls Tryz.prog 7 #[.agg #[.int .i64 0, .int .i64 p, .int .i64 k, .int .i64 t, .string (bstr x), .bool late, .int .i64 0, .int .i64 0]] w _
    go_enter Tryz.func7, Tryz.ntmps7
    go_wp2
    go_ret
    exact ⟨rfl, (Below.refl _ _).alloc (Nat.le_refl _) _⟩

set_option maxRecDepth 100000 in
set_option maxHeartbeats 1000000 in
theorem law_tidy (kind part rk rt : Int) (x : List UInt8) (late : Bool) (at_ er : Int) (w : World) :
    Calls Tryz.prog 6 #[.agg #[.int .i64 kind, .int .i64 part, .int .i64 rk, .int .i64 rt, .string (bstr x), .bool late, .int .i64 at_, .int .i64 er]] w fun e w' => e = .returned (evr (evof kind part rk rt x late at_ er)) ∧ Below w.heap.size w w' := by
  unfold evof
  have hB : ∀ o1 o2 : Obj, Below w.heap.size w ((w.alloc o1).alloc o2) := fun o1 o2 => ((Below.refl _ _).alloc (Nat.le_refl _) _).alloc (by simp) _
  by_cases k1 : kind = 1
  · rw [if_pos k1]
    subst k1
    go_enter Tryz.func6, Tryz.ntmps6
    go_wp2
    exact bodyPost_ret (v := evr (.mark at_)) (by simp [results, Tryz.results6, go_sem, evr, evc]) rfl ⟨rfl, hB _ _⟩
  · rw [if_neg k1]
    have e1 : ((kind : Int) == 1) = false := by rw [beq_eq_false_iff_ne]; exact k1
    by_cases k2 : kind = 2
    · rw [if_pos k2]
      subst k2
      clear k1 e1
      go_enter Tryz.func6, Tryz.ntmps6
      go_wp2
      exact bodyPost_ret (v := evr (.fault part er)) (by simp [results, Tryz.results6, go_sem, evr, evc]) rfl ⟨rfl, hB _ _⟩
    · rw [if_neg k2]
      have e2 : ((kind : Int) == 2) = false := by rw [beq_eq_false_iff_ne]; exact k2
      clear k1 k2
      go_enter Tryz.func6, Tryz.ntmps6
      go_wp2
      exact bodyPost_ret (v := evr (.el late part rk rt x)) (by simp [results, Tryz.results6, go_sem, evr, evc]) rfl ⟨rfl, hB _ _⟩

/-! ### Plain -/

theorem evc_len (v : Ev) : (evc v).length = 8 := by cases v <;> rfl
theorem evc_one (v : Ev) : ∀ u ∈ evc v, u.oneCell' = true := by
  intro u hu
  cases v <;> (simp only [evc, List.mem_cons, List.not_mem_nil, or_false] at hu; rcases hu with rfl | rfl | rfl | rfl | rfl | rfl | rfl | rfl <;> rfl)
def evcs (l : List Ev) : List Value := l.flatMap evc
theorem evcs_snoc (l : List Ev) (v : Ev) : evcs (l ++ [v]) = evcs l ++ evc v := by simp [evcs]
theorem info_evr : (Tryz.prog.info? 25).map (fun i => (i.zero, i.size, i.bytes)) = some (some (.agg #[.int .i64 0, .int .i64 0, .int .i64 0, .int .i64 0, .string ByteArray.empty, .bool false, .int .i64 0, .int .i64 0]), 8, 72) := by kernel_rfl
theorem src_cells {P : Program} {tx e' : TypeId} (hk : P.underlying tx = some (.slice e')) (w : World) (L : List Value) (e : TypeId) (N : Nat) (hN : w.heap.size = N) (m : Nat) (hm : L.length = m) (ho : ∀ u ∈ L, u.oneCell' = true) :
    Src P m tx (.slice (some ⟨N, 0, none⟩) 1 1) 1 L (w.alloc (.cells L.toArray e)) := by
  subst hN
  refine Src.ofSlice _ hk ⟨w.heap.size, 0, none⟩ 1 1 L (by rw [hm, Nat.one_mul]) (fun j u hx => ?_) ho
  have ha := At.alloc w L e
  obtain ⟨hj, rfl⟩ := List.getElem?_eq_some_iff.1 hx
  rw [Addr.add_lit, Nat.zero_add]
  exact (ha.2 j hj).1

theorem ta_f_yes (p n : Int) (w : World) : (Instr.typeAssert (.iface 40 (.agg #[.int .i64 p, .int .i64 n])) 29 40 true).run Tryz.prog w = .ok (.tuple #[.agg #[.int .i64 p, .int .i64 n], .bool true]) w := by kernel_rfl
theorem ta_f_no1 (v : Value) (w : World) : (Instr.typeAssert (.iface 55 v) 29 40 true).run Tryz.prog w = .ok (.tuple #[.agg #[.int .i64 0, .int .i64 0], .bool false]) w := by kernel_rfl
theorem ta_f_no2 (v : Value) (w : World) : (Instr.typeAssert (.iface 70 v) 29 40 true).run Tryz.prog w = .ok (.tuple #[.agg #[.int .i64 0, .int .i64 0], .bool false]) w := by kernel_rfl
theorem ta_e_yes (p k t : Int) (x : ByteArray) (late : Bool) (w : World) : (Instr.typeAssert (.iface 55 (.agg #[.int .i64 p, .int .i64 k, .int .i64 t, .string x, .bool late])) 29 55 true).run Tryz.prog w = .ok (.tuple #[.agg #[.int .i64 p, .int .i64 k, .int .i64 t, .string x, .bool late], .bool true]) w := by kernel_rfl
theorem ta_e_no1 (v : Value) (w : World) : (Instr.typeAssert (.iface 70 v) 29 55 true).run Tryz.prog w = .ok (.tuple #[.agg #[.int .i64 0, .int .i64 0, .int .i64 0, .string ⟨#[]⟩, .bool false], .bool false]) w := by kernel_rfl
theorem ta_e_no2 (v : Value) (w : World) : (Instr.typeAssert (.iface 40 v) 29 55 true).run Tryz.prog w = .ok (.tuple #[.agg #[.int .i64 0, .int .i64 0, .int .i64 0, .string ⟨#[]⟩, .bool false], .bool false]) w := by kernel_rfl

/-- Plain data of events. -/
def PlainPost (l : List Ev) (w : World) (e : Ending) (w' : World) : Prop :=
  ∃ v, e = .returned v ∧ Sl w.heap.size w' 8 v l.length (evcs l) ∧ Below w.heap.size w w'
end Go.Proofs.YtcigklninmddaaaGreatDoor
