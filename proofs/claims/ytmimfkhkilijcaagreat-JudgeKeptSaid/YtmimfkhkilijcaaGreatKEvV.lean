/- Events, as plain data of the proof's own. -/
import Derived.Test.YtmimfkhkilijcaaGreatKRul
import Derived.Test.YtmimfkhkilijcaaGreatKBase
import Derived.RangeFuncBox
import Derived.RangeFuncLeaves
import Derived.Shelf.Abstract
import Derived.OwnWalkIn
import Derived.TacticsInMore
import Derived.LoopNIn
import Derived.LoopIn
namespace Go.Proofs.YtmimfkhkilijcaaGreat.PEv
open Go.Proofs.YtmimfkhkilijcaaGreat
set_option linter.unusedVariables false

/-- An event. -/
inductive Ev where
  | el (late : Bool) (part kind time : Int) (text : List UInt8)
  | mark (n : Int)
  | fault (part err : Int)
def Ev.ok : Ev → Prop
  | .el _ p k t _ => in64 p ∧ in64 k ∧ in64 t
  | .mark n => in64 n
  | .fault p e => in64 p ∧ in64 e
def etext : Ev → List UInt8
  | .el _ _ _ _ x => x
  | _ => []
end Go.Proofs.YtmimfkhkilijcaaGreat.PEv

/- Events as values, rows of them, and events as plain data. -/
namespace Go.Proofs.YtmimfkhkilijcaaGreat
set_option maxRecDepth 4000
open Go.ChangeShapes Go.WideShapes Go.ChangeAt Go.RowKit
open PEv
set_option linter.unusedVariables false
set_option linter.unusedSimpArgs false

theorem cell_kept {w w' : World} (hb : Below w.heap.size w w') {p : Addr} {v : Value} (h : w.cell? p = some v) : w'.cell? p = some v := (hb.cell (cell_lt h)).trans h
/-- An event's value. -/
def evv : Ev → Value
  | .el late p k t x => .iface 81 (.agg #[.int .i64 p, .int .i64 k, .int .i64 t, .string (bstr x), .bool late])
  | .mark n => .iface 79 (.agg #[.int .i64 n])
  | .fault p e => .iface 123 (.agg #[.int .i64 p, .int .i64 e])
/-- An event as plain data: its cells. -/
def evc : Ev → List Value
  | .el late p k t x => [.int .i64 0, .int .i64 p, .int .i64 k, .int .i64 t, .string (bstr x), .bool late, .int .i64 0, .int .i64 0]
  | .mark n => [.int .i64 1, .int .i64 0, .int .i64 0, .int .i64 0, .string ⟨#[]⟩, .bool false, .int .i64 n, .int .i64 0]
  | .fault p e => [.int .i64 2, .int .i64 p, .int .i64 0, .int .i64 0, .string ⟨#[]⟩, .bool false, .int .i64 0, .int .i64 e]
def evr (v : Ev) : Value := .agg (evc v).toArray
/-- A row of events that can be read, from this place on. -/
structure RowE (w : World) (a : Option Addr) (l : List Ev) : Prop where
  at_ : ∀ (i : Nat) (h : i < l.length), ∃ b off, a = some ⟨b, off, none⟩ ∧ b < w.heap.size ∧ w.cell? ⟨b, off + i, none⟩ = some (evv l[i])
theorem RowE.on {w w' : World} {a : Option Addr} {l : List Ev} (h : RowE w a l) (hb : Below w.heap.size w w') : RowE w' a l :=
  ⟨fun i hi => by
    obtain ⟨b, off, h1, h2, h3⟩ := h.at_ i hi
    exact ⟨b, off, h1, Nat.lt_of_lt_of_le h2 hb.size, by rw [hb.cell (p := ⟨b, off + i, none⟩) h2]; exact h3⟩⟩
theorem RowE.nil (w : World) (a : Option Addr) : RowE w a [] := ⟨fun i h => by cases h⟩
theorem ta_m_yes (n : Int) (w : World) : (Instr.typeAssert (.iface 79 (.agg #[.int .i64 n])) 61 79 true).run Tryz.prog w = .ok (.tuple #[.agg #[.int .i64 n], .bool true]) w := by kernel_rfl
theorem ta_m_no1 (v : Value) (w : World) : (Instr.typeAssert (.iface 81 v) 61 79 true).run Tryz.prog w = .ok (.tuple #[.agg #[.int .i64 0], .bool false]) w := by kernel_rfl
theorem ta_m_no2 (v : Value) (w : World) : (Instr.typeAssert (.iface 123 v) 61 79 true).run Tryz.prog w = .ok (.tuple #[.agg #[.int .i64 0], .bool false]) w := by kernel_rfl
theorem evc_len (v : Ev) : (evc v).length = 8 := by cases v <;> rfl
theorem evc_one (v : Ev) : ∀ u ∈ evc v, u.oneCell' = true := by
  intro u hu
  cases v <;> (simp only [evc, List.mem_cons, List.not_mem_nil, or_false] at hu; rcases hu with rfl | rfl | rfl | rfl | rfl | rfl | rfl | rfl <;> rfl)
def evcs (l : List Ev) : List Value := l.flatMap evc
theorem evcs_snoc (l : List Ev) (v : Ev) : evcs (l ++ [v]) = evcs l ++ evc v := by simp [evcs]
theorem info_evr : (Tryz.prog.info? 59).map (fun i => (i.zero, i.size, i.bytes)) = some (some (.agg #[.int .i64 0, .int .i64 0, .int .i64 0, .int .i64 0, .string ByteArray.empty, .bool false, .int .i64 0, .int .i64 0]), 8, 72) := by kernel_rfl
theorem src_cells {P : Program} {tx e' : TypeId} (hk : P.underlying tx = some (.slice e')) (w : World) (L : List Value) (e : TypeId) (N : Nat) (hN : w.heap.size = N) (m : Nat) (hm : L.length = m) (ho : ∀ u ∈ L, u.oneCell' = true) :
    Src P m tx (.slice (some ⟨N, 0, none⟩) 1 1) 1 L (w.alloc (.cells L.toArray e)) := by
  subst hN
  refine Src.ofSlice _ hk ⟨w.heap.size, 0, none⟩ 1 1 L (by rw [hm, Nat.one_mul]) (fun j u hx => ?_) ho
  have ha := At.alloc w L e
  obtain ⟨hj, rfl⟩ := List.getElem?_eq_some_iff.1 hx
  rw [Addr.add_lit, Nat.zero_add]
  exact (ha.2 j hj).1
theorem ta_f_yes (p n : Int) (w : World) : (Instr.typeAssert (.iface 123 (.agg #[.int .i64 p, .int .i64 n])) 61 123 true).run Tryz.prog w = .ok (.tuple #[.agg #[.int .i64 p, .int .i64 n], .bool true]) w := by kernel_rfl
theorem ta_f_no1 (v : Value) (w : World) : (Instr.typeAssert (.iface 81 v) 61 123 true).run Tryz.prog w = .ok (.tuple #[.agg #[.int .i64 0, .int .i64 0], .bool false]) w := by kernel_rfl
theorem ta_f_no2 (v : Value) (w : World) : (Instr.typeAssert (.iface 79 v) 61 123 true).run Tryz.prog w = .ok (.tuple #[.agg #[.int .i64 0, .int .i64 0], .bool false]) w := by kernel_rfl
theorem ta_e_yes (p k t : Int) (x : ByteArray) (late : Bool) (w : World) : (Instr.typeAssert (.iface 81 (.agg #[.int .i64 p, .int .i64 k, .int .i64 t, .string x, .bool late])) 61 81 true).run Tryz.prog w = .ok (.tuple #[.agg #[.int .i64 p, .int .i64 k, .int .i64 t, .string x, .bool late], .bool true]) w := by kernel_rfl
theorem ta_e_no1 (v : Value) (w : World) : (Instr.typeAssert (.iface 79 v) 61 81 true).run Tryz.prog w = .ok (.tuple #[.agg #[.int .i64 0, .int .i64 0, .int .i64 0, .string ⟨#[]⟩, .bool false], .bool false]) w := by kernel_rfl
theorem ta_e_no2 (v : Value) (w : World) : (Instr.typeAssert (.iface 123 v) 61 81 true).run Tryz.prog w = .ok (.tuple #[.agg #[.int .i64 0, .int .i64 0, .int .i64 0, .string ⟨#[]⟩, .bool false], .bool false]) w := by kernel_rfl
/-- Plain data of events. -/
def PlainPost (l : List Ev) (w : World) (e : Ending) (w' : World) : Prop :=
  ∃ v, e = .returned v ∧ Sl w.heap.size w' 8 v l.length (evcs l) ∧ Below w.heap.size w w'
theorem evv_ifc (v : Ev) : ∃ t x, evv v = .iface t x := by cases v <;> exact ⟨_, _, rfl⟩
theorem rowe_of_sl {B : Nat} {w : World} {v : Value} {n : Nat} {l : List Ev} (h : Sl B w 1 v n (l.map evv)) : n = l.length ∧ ∃ a c, v = .slice a l.length c ∧ RowE w a l := by
  have hl := h.1
  rw [List.length_map] at hl
  have hn : n = l.length := by omega
  subst hn
  refine ⟨rfl, ?_⟩
  rcases h.2 with ⟨rfl, h0⟩ | ⟨g, off, cap, rfl, hb, hg, h1, h2, h3, h4⟩
  · exact ⟨_, _, by rw [h0], ⟨fun i hi => by omega⟩⟩
  · exact ⟨_, _, rfl, ⟨fun i hi => ⟨g, off, rfl, hg, by rw [h3 i (by omega)]; simp [hi]⟩⟩⟩
end Go.Proofs.YtmimfkhkilijcaaGreat

/- event: Last. -/
namespace Go.Proofs.YtmimfkhkilijcaaGreat
set_option maxRecDepth 4000
open Go.ChangeShapes Go.WideShapes Go.ChangeAt Go.RowKit Go.Shelf
open PEv
set_option linter.unusedVariables false
set_option linter.unusedSimpArgs false

attribute [local go_sem] Oper.semAt_some

def isMark : Ev → Bool
  | .mark _ => true
  | _ => false
/-- How far time has come. -/
def elast (l : List Ev) : Int := l.foldl (fun s v => match v with | .mark n => n | _ => s) (-9223372036854775808)
theorem elast_snoc (l : List Ev) (v : Ev) : elast (l ++ [v]) = match v with | .mark n => n | _ => elast l := by
  unfold elast
  rw [List.foldl_append]
  rfl
theorem efold_none : ∀ (l : List Ev) (s : Int), (∀ v ∈ l, isMark v = false) → l.foldl (fun s v => match v with | .mark n => n | _ => s) s = s
  | [], _, _ => rfl
  | v :: l, s, h => by
    have hv := h v (by simp)
    have ih := efold_none l s (fun x hx => h x (by simp [hx]))
    cases v with
    | mark n => cases hv
    | _ => exact ih
theorem elast_none (l : List Ev) (h : ∀ v ∈ l, isMark v = false) : elast l = -9223372036854775808 := efold_none l _ h
theorem elast_mark (l r : List Ev) (n : Int) (h : ∀ v ∈ r, isMark v = false) : elast (l ++ Ev.mark n :: r) = n := by
  unfold elast
  rw [List.foldl_append, List.foldl_cons]
  exact efold_none r _ h
/-- What has come when k rounds are over. -/
def back (l : List Ev) (j : Nat) : Nat × Ev := (l.length - 1 - j, l[l.length - 1 - j]?.getD (.mark 0))
def upto {α : Type} (f : Nat → α) (k : Nat) : List α := (List.range k).map f
theorem upto_succ {α : Type} (f : Nat → α) (k : Nat) : upto f (k + 1) = upto f k ++ [f k] := by simp [upto, List.range_succ]
theorem upto_length {α : Type} (f : Nat → α) (k : Nat) : (upto f k).length = k := by simp [upto]
set_option maxRecDepth 100000 in
set_option maxHeartbeats 2000000 in
/-- slices.Backward's closure. -/
theorem back_in (F : Fence) (n : Nat) (h7 : F.fn 130) (hro : F.round = none) (hn : 1 ≤ n) (l Bs n₀ cap : Nat) (a : Option Addr) (zs : List Ev) (hreach : zs.length ≤ 1000000) (J Jx : List (Nat × Ev) → World → Prop)
    (hY : ∀ pre x W, J pre W → pre.length < zs.length → YieldAt F (n - 1) Tryz.prog l #[.int .i64 (x.1 : Int), evv x.2] W fun e W' =>
      (e = .returned (.bool true) ∧ J (pre ++ [x]) W' ∧ Below n₀ W W') ∨ (e = .returned (.bool false) ∧ Jx (pre ++ [x]) W'))
    (W : World) (hBn : Bs < n₀) (hBs : W.cell? ⟨Bs, 0, none⟩ = some (.slice a zs.length cap)) (hc : ∀ j (h : j < zs.length), ∃ b off, a = some ⟨b, off, none⟩ ∧ b < n₀ ∧ W.cell? ⟨b, off + j, none⟩ = some (evv zs[j])) (h0 : J [] W) :
    CallsIn F n Tryz.prog 130 #[.func (.yield l) #[] #[], .pointer (some ⟨Bs, 0, none⟩)] W fun e W' => (∃ v, e = .returned v) ∧
      ((∃ ys, ys = upto (back zs) zs.length ∧ J ys W') ∨ (∃ pre, (∃ k, k ≤ zs.length ∧ pre = upto (back zs) k) ∧ Jx pre W')) := by
  refine callsIn_of_wp Tryz.func130 rfl h7 ?_ hro
  simp only [Tryz.ntmps130, List.size_toArray, List.length_cons, List.length_nil, Nat.reduceAdd, Nat.reduceSub, Array.replicate_succ, Array.replicate_zero, List.push_toArray, List.append_toArray, List.nil_append, List.cons_append]
  gi_wp2
  gi_loopw [3] (fun i wr => ∃ k : Nat, k ≤ zs.length ∧ i = .int .i64 ((zs.length : Int) - 1 - k) ∧ J (upto (back zs) k) wr ∧ Below n₀ W wr)
    (fun i _ => (intOf i + 1).toNat)
  case atStart => exact ⟨0, Nat.zero_le _, by simp, h0, Below.refl _ _⟩
  case round =>
    obtain ⟨k, hk, rfl, hJs, hnx⟩ := hrel
    have hBs' := (hnx.cell (p := ⟨Bs, 0, none⟩) hBn).trans hBs
    by_cases hlt : k < zs.length
    · obtain ⟨m, hm⟩ : ∃ m : Nat, zs.length - 1 - k = m := ⟨_, rfl⟩
      have hmz : (zs.length : Int) - 1 - k = (m : Int) := by omega
      have hml : m < zs.length := by omega
      have hbk : back zs k = (m, zs[m]) := by unfold back; rw [hm]; simp [hml]
      obtain ⟨fn, tmps, assign, body, hy, hR⟩ := hY _ (m, zs[m]) wr hJs (by rw [upto_length]; exact hlt)
      dsimp only at hy
      obtain ⟨b, off, rfl, hb, hcm⟩ := hc m hml
      have hcx' := (hnx.cell (p := ⟨b, off + m, none⟩) hb).trans hcm
      rw [hmz]
      gi_wp2
      refine hR.mono ?_
      rintro e W3 (⟨rfl, hJ3, hk3⟩ | ⟨rfl, hJx3⟩)
      · gi_wp2
        go_roundw
        case rel => exact ⟨k + 1, hlt, by congr 1 <;> omega, by rw [upto_succ, hbk]; exact hJ3, hnx.trans hk3⟩
        case measure => simp [intOf] <;> omega
      · gi_wp2
        refine bodyPost_ret (results_none rfl _ _ _) rfl ?_
        exact ⟨⟨_, rfl⟩, .inr ⟨_, ⟨k + 1, hlt, by rw [upto_succ, hbk]⟩, hJx3⟩⟩
    · obtain rfl : k = zs.length := by omega
      rw [show (zs.length : Int) - 1 - zs.length = -1 by omega]
      gi_wp2
      go_end0
      exact ⟨⟨_, rfl⟩, .inl ⟨_, rfl, hJs⟩⟩
set_option maxHeartbeats 1000000 in
theorem back_new (F : Fence) (n : Nat) (h5 : F.fn 98) (hro : F.round = none) (a : Option Addr) (len cap : Nat) (w : World) :
    CallsIn F n Tryz.prog 98 #[.slice a len cap] w fun e w' => e = .returned (.func (.func 130) #[] #[.pointer (some ⟨w.heap.size, 0, none⟩)]) ∧ w' = w.alloc (.cells #[.slice a len cap] 31) := by
  refine callsIn_of_wp Tryz.func98 rfl h5 ?_ hro
  simp only [Tryz.ntmps98, List.size_toArray, List.length_cons, List.length_nil, Nat.reduceAdd, Nat.reduceSub, Array.replicate_succ, Array.replicate_zero, List.push_toArray, List.append_toArray, List.nil_append, List.cons_append]
  gi_wp2
  go_ret
  exact ⟨rfl, rfl⟩
theorem back_stops (F : Fence) (n : Nat) (h8 : F.fn 130) (hro : F.round = none) (hn : 1 ≤ n) (Bs cap : Nat) (a : Option Addr) (zs : List Ev) (hreach : zs.length ≤ 1000000) (w : World) (hBs : Bs < w.heap.size)
    (hc : w.cell? ⟨Bs, 0, none⟩ = some (.slice a zs.length cap)) (hI : RowE w a zs) :
    SeqStopsK F n Tryz.prog 130 #[.pointer (some ⟨Bs, 0, none⟩)] (fun x : Nat × Ev => #[Value.int .i64 (x.1 : Int), evv x.2]) (Below w.heap.size) (fun ys => ys = upto (back zs) zs.length)
      (fun pre => ∃ k, k ≤ zs.length ∧ pre = upto (back zs) k) zs.length w := fun l J Jx W hW _ _ hY h0 => by
  have hc' := (hW.cell (p := ⟨Bs, 0, none⟩) hBs).trans hc
  exact back_in F n h8 hro hn l Bs w.heap.size cap a zs hreach J Jx hY W hBs hc' (fun j hj => by
    obtain ⟨b, off, h1, h2, h3⟩ := hI.at_ j hj
    exact ⟨b, off, h1, h2, (hW.cell (p := ⟨b, off + j, none⟩) h2).trans h3⟩) h0
/-- What all rounds, or those till a mark, say of the whole. -/
theorem back_none (l : List Ev) (h : ∀ p ∈ upto (back l) l.length, isMark p.2 = false) : elast l = -9223372036854775808 := by
  refine elast_none l fun v hv => ?_
  obtain ⟨i, hi, rfl⟩ := List.getElem_of_mem hv
  have := h (back l (l.length - 1 - i)) (by simp only [upto, List.mem_map, List.mem_range]; exact ⟨_, by omega, rfl⟩)
  unfold back at this
  rw [show l.length - 1 - (l.length - 1 - i) = i by omega] at this
  simpa [hi] using this
theorem back_some (l : List Ev) (k : Nat) (hk : k ≤ l.length) (ini : List (Nat × Ev)) (i : Nat) (n : Int) (e : upto (back l) k = ini ++ [(i, .mark n)]) (h : ∀ p ∈ ini, isMark p.2 = false) : elast l = n := by
  obtain ⟨k', rfl⟩ : ∃ k', k = k' + 1 := by
    cases k with
    | zero => simp [upto] at e
    | succ k' => exact ⟨k', rfl⟩
  rw [upto_succ] at e
  obtain ⟨rfl, e5⟩ := List.append_inj' e rfl
  have e6 : back l k' = (i, .mark n) := by simpa using e5
  obtain ⟨m, hm⟩ : ∃ m, l.length - 1 - k' = m := ⟨_, rfl⟩
  have hml : m < l.length := by omega
  have hbm : l[m] = .mark n := by
    have := congrArg Prod.snd e6
    unfold back at this
    rw [hm] at this
    simpa [hml] using this
  have hsp : l = l.take m ++ Ev.mark n :: l.drop (m + 1) := by
    conv => lhs; rw [← List.take_append_drop m l]
    rw [List.drop_eq_getElem_cons hml, hbm]
  rw [hsp]
  refine elast_mark _ _ n fun v hv => ?_
  obtain ⟨j, hj, rfl⟩ := List.getElem_of_mem hv
  rw [List.length_drop] at hj
  rw [List.getElem_drop]
  have := h (back l (l.length - 1 - (m + 1 + j))) (by simp only [upto, List.mem_map, List.mem_range]; exact ⟨_, by omega, rfl⟩)
  unfold back at this
  rw [show l.length - 1 - (l.length - 1 - (m + 1 + j)) = m + 1 + j by omega] at this
  have hjl : m + 1 + j < l.length := by omega
  simpa [hjl] using this
set_option maxRecDepth 100000 in
set_option maxHeartbeats 2000000 in
theorem last_in (F : Fence) (n : Nat) (h3 : F.fn 55) (h5 : F.fn 98) (h8 : F.fn 130) (hro : F.round = none) (hn : 3 ≤ n) (a : Option Addr) (cap : Nat) (zs : List Ev) (hreach : zs.length ≤ 1000000) (w : World) (hI : RowE w a zs) :
    CallsIn F n Tryz.prog 55 #[.slice a zs.length cap] w fun e W' => e = .returned (.int .i64 (elast zs)) ∧ Below w.heap.size w W' := by
  have h1 : 1 ≤ n := by omega
  refine callsIn_of_wp_marks Tryz.func55 rfl h3 ?_ hro
  simp only [Tryz.ntmps55, List.size_toArray, List.length_cons, List.length_nil, Nat.reduceAdd, Nat.reduceSub, Array.replicate_succ, Array.replicate_zero, List.push_toArray, List.append_toArray, List.nil_append, List.cons_append]
  gi_wp2_with (gi_at_call 98; refine (back_new F (n - 1) h5 hro _ _ _ _).mono ?_; rintro e w' ⟨rfl, rfl⟩)
  have bR := Boxed.new w 3 (.int .i64 0)
  have bR2 := bR.alloc (.cells #[.slice a zs.length cap] 31)
  have bN := Boxed.new (w.alloc (.cells #[.int .i64 0] 3)) 31 (.slice a zs.length cap)
  rw [World.size_alloc] at bN
  have hB0 : Below w.heap.size w ((w.alloc (.cells #[.int .i64 0] 3)).alloc (.cells #[.slice a zs.length cap] 31)) := ((Below.refl _ w).alloc (Nat.le_refl _) _).alloc (by simp) _
  have hsz : ((w.alloc (.cells #[.int .i64 0] 3)).alloc (.cells #[.slice a zs.length cap] 31)).heap.size = w.heap.size + 2 := by simp
  have hI2 := hI.on hB0
  clear bR
  obtain ⟨w2, hw2⟩ : ∃ w2, (w.alloc (.cells #[.int .i64 0] 3)).alloc (.cells #[.slice a zs.length cap] 31) = w2 := ⟨_, rfl⟩
  rw [hw2] at bR2 bN hB0 hsz hI2 ⊢
  clear hw2
  refine wpIn_rangeFunc_ownG hro h1 (gf := 130) (lb := #[.pointer (some ⟨w.heap.size + 1, 0, none⟩)]) rfl h8 (enters_of Tryz.func130 (by kernel_rfl) rfl)
    (back_stops F (n - 1) h8 hro (by omega) (w.heap.size + 1) cap a zs hreach w2 (by omega) bN.cell hI2) belowK_t (belowK_b (Nat.le_refl _)) (Below.refl _ _) (fun _ => rfl)
    (fun pre W => (∀ p ∈ pre, isMark p.2 = false) ∧ Below w2.heap.size w2 W)
    (fun c pre W => (c = .ret ∧ ∃ (ini : List (Nat × Ev)) (i : Nat) (n : Int), pre = ini ++ [(i, Ev.mark n)] ∧ (∀ p ∈ ini, isMark p.2 = false) ∧ W.cell? ⟨w.heap.size, 0, none⟩ = some (.int .i64 n)) ∧ Below w.heap.size w W)
    (OwnFrom.and (Own.from (fun s A B row hs hg hr => hs) _) (ownFrom_below (Nat.le_refl _) (Nat.le_refl _)))
    (fun c => OwnFrom.and (Own.from (fun s A B row hs hg hr => by obtain ⟨hc, ini, i, n, e1, e2, e4⟩ := hs; exact ⟨hc, ini, i, n, e1, e2, Go.cell_kept e4 hg hr⟩) _) (ownFrom_below (Nat.le_refl _) (by omega)))
    ⟨by simp, Below.refl _ _⟩
    (fun x => { tmps := #[.slice a zs.length cap, undef, .pointer (some ⟨w.heap.size, 0, none⟩), undef, evv x.2, undef, undef, .slice a zs.length cap, .func (.func 130) #[] #[.pointer (some ⟨w.heap.size + 1, 0, none⟩)], .int .i64 (x.1 : Int), evv x.2, undef, undef, undef, undef, undef, undef, undef, undef], defers := [] }) ?assign ?body ?done ?stop
  case assign =>
    intro l x W K hK
    gi_wp2
    exact hK
  case body =>
    rintro l pre ⟨i, v⟩ W ⟨hp, hB⟩ _
    have hc0 := (hB.cell (p := ⟨w.heap.size, 0, none⟩) (by show w.heap.size < w2.heap.size; omega)).trans bR2.cell
    have hf0 := (hB.frozen (p := ⟨w.heap.size, 0, none⟩) (by show w.heap.size < w2.heap.size; omega)).trans bR2.frozen
    have hwW : w.heap.size < W.heap.size := by have := hB.size; omega
    cases v with
    | mark n =>
      have ta := ta_m_yes n
      simp only [evv]
      gi_wp2
      have hset := World.cell?_setCell_same' W ⟨w.heap.size, 0, none⟩ (.int .i64 n) (by rw [hc0]; rfl)
      exact ⟨(((KeepsOthers.setCell _ _ _).trans (KeepsOthers.alloc _ _)).from _), ⟨rfl, pre, i, n, rfl, hp, cell_kept ((Below.refl _ _).alloc (Nat.le_refl _) _) hset⟩, ((hB0.trans (hB.mono hB0.size)).setCell (p := ⟨w.heap.size, 0, none⟩) (Nat.le_refl _) _).alloc (by simp; omega) _⟩
    | fault p n =>
      have ta := ta_m_no2 (.agg #[.int .i64 p, .int .i64 n])
      simp only [evv]
      gi_wp2
      exact ⟨((KeepsOthers.alloc _ _).from _), (Below.refl _ W).alloc hB.size _, fun q hq => (List.mem_append.1 hq).elim (hp q) (fun e => by simp at e; subst e; rfl), hB.alloc hB.size _⟩
    | el late p k t x =>
      have ta := ta_m_no1 (.agg #[.int .i64 p, .int .i64 k, .int .i64 t, .string (bstr x), .bool late])
      simp only [evv]
      gi_wp2
      exact ⟨((KeepsOthers.alloc _ _).from _), (Below.refl _ W).alloc hB.size _, fun q hq => (List.mem_append.1 hq).elim (hp q) (fun e => by simp at e; subst e; rfl), hB.alloc hB.size _⟩
  case done =>
    rintro D ys W hD rfl ⟨hne, hB⟩ hK
    have hc0 := (hB.cell (p := ⟨w.heap.size, 0, none⟩) (by show w.heap.size < w2.heap.size; omega)).trans bR2.cell
    have hf0 := (hB.frozen (p := ⟨w.heap.size, 0, none⟩) (by show w.heap.size < w2.heap.size; omega)).trans bR2.frozen
    gi_wp2
    have hK' := (KeepsOthers.setCell W ⟨w.heap.size, 0, none⟩ (.int .i64 (-9223372036854775808))).same D _ hK rfl
    refine ⟨by simp, .inl ⟨_, _, rfl, run_takeDeferred hK', ?_⟩⟩
    have hc5 := Go.cell_kept (World.cell?_setCell_same' W ⟨w.heap.size, 0, none⟩ (.int .i64 (-9223372036854775808)) (by rw [hc0]; rfl)) (grownBy_putObj' _ D (.deferred none)) (fun r e => by cases e; exact ⟨_, hK', rfl⟩)
    refine ⟨.int .i64 (-9223372036854775808), ?_, by rw [back_none zs hne], ((hB0.trans (hB.mono hB0.size)).setCell (p := ⟨w.heap.size, 0, none⟩) (Nat.le_refl _) _).trans (belowK_b (w := w) (Nat.le_refl _) _ D _ _ (by omega) hK' rfl rfl)⟩
    simp [results, Tryz.f55, go_sem, hc5]
  case stop =>
    rintro D c pre W hD ⟨k, hk, rfl⟩ ⟨⟨rfl, ini, i, n, e1, e2, hcr⟩, hB⟩ hK
    gi_wp2
    refine ⟨by simp, .inl ⟨_, _, rfl, run_takeDeferred hK, ?_⟩⟩
    have hc5 := Go.cell_kept hcr (grownBy_putObj' _ D (.deferred none)) (fun r e => by cases e; exact ⟨_, hK, rfl⟩)
    refine ⟨.int .i64 n, ?_, by rw [back_some zs k hk ini i n e1 e2], hB.trans (belowK_b (w := w) (Nat.le_refl _) W D _ _ (by omega) hK rfl rfl)⟩
    simp [results, Tryz.f55, go_sem, hc5]
theorem ev_last (a : Option Addr) (n c : Nat) (l : List Ev) (w : World) (hn : n = l.length) (hl : l.length ≤ 1000000) (hI : RowE w a l) :
    Calls Tryz.prog 55 #[.slice a n c] w fun e w' => e = .returned (.int .i64 (elast l)) ∧ Below w.heap.size w w' := by
  subst hn
  exact (callsIn_wide (n := 3)).1 (last_in Fence.wide 3 trivial trivial trivial rfl (Nat.le_refl _) a c l hl w hI)
end Go.Proofs.YtmimfkhkilijcaaGreat
