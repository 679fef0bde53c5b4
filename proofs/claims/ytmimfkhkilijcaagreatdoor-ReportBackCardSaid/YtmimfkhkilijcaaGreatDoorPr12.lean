/- QBuild; Conf1; RepLine: what is reached of them. -/
import Derived.BigQuiet
import Derived.Deep.DeepCutAuto
import Derived.Deep.QuietTactic
import Derived.Handy
import Derived.IntWalk
import Derived.OpenShut
import Derived.Outline
import Derived.ProofKit
import Derived.Shelf.Strings.Builder1
import Derived.Shelf.Strings.BuilderK
import Derived.Test.YtmimfkhkilijcaaGreatDoorPr01
import Derived.Test.YtmimfkhkilijcaaGreatDoorPr03
import Derived.Test.YtmimfkhkilijcaaGreatDoorPr11
import Derived.WalkKit
import Derived.WalkLawsBesides
namespace Go.Proofs.YtmimfkhkilijcaaGreatDoor
set_option maxRecDepth 4000
open Go.ChangeShapes Go.WideShapes Go.ChangeAt Go.RowKit
set_option linter.unusedVariables false

/-- A builder of the call's own, in block b, with these bytes. -/
def Bld (B b : Nat) (l : List UInt8) (w : World) : Prop := Lib.IsBuilderF 81 5 B b (Lib.byteCells l) w
def BldOn (B b : Nat) (l : List UInt8) (w w' : World) : Prop := Bld B b l w' ∧ Below B w w' ∧ Lib.OthersKept 5 (some b) w w'

set_option maxRecDepth 100000 in
set_option maxHeartbeats 1000000 in
theorem b_fresh (b : Nat) (w : World) (h0 : w.cell? ⟨b, 0, none⟩ = some (.pointer none)) (hsh : w.shape? b = some (81, 2)) (hfz : w.frozen? ⟨b, 0, none⟩ = false) :
    Calls Tryz.prog 79 #[.pointer (some ⟨b, 0, none⟩)] w fun e w' => e = .returned (.tuple #[]) ∧ w' = w.setCell ⟨b, 0, none⟩ (.pointer (some ⟨b, 0, none⟩)) := by
  have hx : (Tryz.prog.info? 81).map (·.size) = some 2 := by kernel_rfl
  obtain ⟨j, hj, hjs⟩ := Option.map_eq_some_iff.1 hx
  clear hx
  go_enter Tryz.func79, Tryz.ntmps79
  go_wp2
  rw [Lib.run_to_unsafe w ⟨b, 0, none⟩ Tryz.underlying78 Tryz.underlying210 hj (by rw [hjs]; decide) hsh (Nat.zero_lt_succ 1)]
  simp only [Result.andThen]
  rw [Oper.upon_value]
  go_wp2
  rw [run_callFunc_extern Tryz.func131 (by kernel_rfl) (by kernel_rfl) (by kernel_rfl) (e := Extern.AbiNoEscape.same) (by kernel_rfl)]
  rw [Lib.run_noEscape]
  simp only [Result.andThen]
  rw [Oper.upon_value]
  go_wp2
  rw [Lib.run_from_unsafe w ⟨b, 0, none⟩ Tryz.underlying210 Tryz.underlying78 hj hsh (by kernel_rfl)]
  simp only [Result.andThen]
  rw [Oper.upon_value]
  go_wp2
  go_end0
  exact ⟨rfl, rfl⟩

set_option maxHeartbeats 1000000 in
theorem b_used (b : Nat) (w : World) (h0 : w.cell? ⟨b, 0, none⟩ = some (.pointer (some ⟨b, 0, none⟩))) :
    Calls Tryz.prog 79 #[.pointer (some ⟨b, 0, none⟩)] w fun e w' => e = .returned (.tuple #[]) ∧ w' = w := by
  have hx : (Tryz.prog.info? 81).map (·.size) = some 2 := by kernel_rfl
  obtain ⟨j, hj, _⟩ := Option.map_eq_some_iff.1 hx
  clear hx
  go_enter Tryz.func79, Tryz.ntmps79
  go_wp2
  rw [Lib.run_neq_ptr_same w _ Tryz.underlying78 hj]
  go_wp2
  go_end0
  exact ⟨rfl, rfl⟩

theorem b_check (B b : Nat) (bs : List Value) (w : World) (h : Lib.IsBuilderF 81 5 B b bs w) :
    Calls Tryz.prog 79 #[.pointer (some ⟨b, 0, none⟩)] w fun e w' => e = .returned (.tuple #[]) ∧ (Lib.BuilderAtF 81 5 B b (.pointer (some ⟨b, 0, none⟩)) bs w' ∧ Below B w w' ∧ Lib.OthersKept 5 (some b) w w') := by
  rcases h with h | h
  · refine (b_fresh b w h.cell0 h.shape h.frozen0).mono ?_
    rintro e w' ⟨rfl, rfl⟩
    exact ⟨rfl, h.used _, (Below.refl B w).setCell (p := ⟨b, 0, none⟩) h.1 _, (Lib.OthersKept.refl _ _ w).setCell ⟨b, 0, none⟩ rfl _⟩
  · refine (b_used b w h.cell0).mono ?_
    rintro e w' ⟨rfl, rfl⟩
    exact ⟨rfl, h, Below.refl B _, Lib.OthersKept.refl _ _ _⟩

theorem byte_info : (Tryz.prog.info? 5).map (fun i => (i.zero, i.size, i.bytes)) = some (some (.int .u8 0), 1, 1) := by kernel_rfl

set_option maxRecDepth 100000 in
set_option maxHeartbeats 2000000 in
theorem b_write (B b : Nat) (l : List UInt8) (s : ByteArray) (w : World) (h : Bld B b l w) (hlen : l.length + s.size ≤ 140737488355328) (hBw : B ≤ w.heap.size) :
    Calls Tryz.prog 36 #[.pointer (some ⟨b, 0, none⟩), .string s] w fun e w' => e = .returned (.tuple #[.int .i64 s.size, .nilIface]) ∧ BldOn B b (l ++ s.data.toList) w w' := by
  obtain ⟨i0, hi, hz0, hz1, hz2⟩ := info_parts byte_info
  have hbl : (Lib.byteCells l).length = l.length := by simp [Lib.byteCells]
  have hcat : Lib.byteCells l ++ Lib.strCells s = Lib.byteCells (l ++ s.data.toList) := by simp [Lib.byteCells, Lib.strCells]
  have HCAT := Lib.hid hcat
  clear hcat
  have h' : Lib.IsBuilderF 81 5 B b (Lib.byteCells l) w := h
  clear h
  have HL := Lib.hid hbl
  clear hbl
  generalize Lib.byteCells l = bs at *
  go_enter Tryz.func36, Tryz.ntmps36
  go_wp2_with (go_at_call 79; refine (b_check B b bs _ h').mono ?_)
  rintro e w1 ⟨rfl, ⟨hB, v, hbk, hown, hne⟩, hb1, hk1⟩
  have c0 : w1.cell? ⟨b, 0, none⟩ = some (.pointer (some ⟨b, 0, none⟩)) := by rw [Lib.cell_of_heap hbk]; rfl
  have c1 : w1.cell? ⟨b, 1, none⟩ = some v := by rw [Lib.cell_of_heap hbk]; rfl
  have hbs : B ≤ w1.heap.size := Nat.le_trans hBw hb1.size
  have hll : bs.length + s.size ≤ 140737488355328 := by rw [HL.out]; exact hlen
  go_wp2_with (at_builtin; refine Lib.wpList_append_own_stringF _ rfl _ _ 79 9 rfl B 5 i0 Tryz.underlying79 Tryz.underlying9 hi hz0 hz1 hz2 _ _ _ rfl hown s rfl (by unfold maxLen; omega) hll hbs ?_)
  intro v' w2 hown' hgrow hnil
  have hlt : b < w1.heap.size := (Array.getElem?_eq_some_iff.1 hbk).1
  have hb2 : w2.heap[b]? = some (.cells #[.pointer (some ⟨b, 0, none⟩), v] 81 (0, 0)) := by
    rw [hgrow.block b hlt (fun e => hne e.symm)]
    exact hbk
  have d0 : w2.cell? ⟨b, 0, none⟩ = some (.pointer (some ⟨b, 0, none⟩)) := by rw [Lib.cell_of_heap hb2]; rfl
  have d1 : w2.cell? ⟨b, 1, none⟩ = some v := by rw [Lib.cell_of_heap hb2]; rfl
  have f1 : w2.frozen? ⟨b, 1, none⟩ = false := Lib.frozen_of_heap hb2 1
  obtain ⟨ao, n', cap, rfl⟩ : ∃ ao n' cap, v' = .slice ao n' cap := by
    rcases hown'.2 with ⟨hv, _⟩ | ⟨g, cap, cur, fz, hv, _⟩
    · exact ⟨_, _, _, hv⟩
    · exact ⟨_, _, _, hv⟩
  go_wp2
  go_ret2
  refine ⟨rfl, .inr ?_, (hb1.grown hgrow hbs (fun k hk => (hown.lt k hk).1)).setCell (p := ⟨b, 1, none⟩) hB _, (hk1.grown hgrow (Lib.ownsRowF_kind hown)).setCell ⟨b, 1, none⟩ rfl _⟩
  rw [← HCAT.out]
  exact Lib.BuilderAtF.put (T := 81) (e := 5) hB hb2 (bs' := bs ++ Lib.strCells s) (by simpa [Lib.strCells_length] using hown') (by decide)

/-- The zero builder. -/
theorem b_zero (w : World) : Bld w.heap.size w.heap.size [] (w.alloc (.cells #[.pointer none, .slice none 0 0] 81)) := by
  refine .inl ⟨Nat.le_refl _, .slice none 0 0, heap_alloc_new w _, ?_, by simp [Value.ownBlock]⟩
  exact ⟨by simp [Lib.byteCells], .inl ⟨rfl, rfl⟩⟩

theorem b_text (B b : Nat) (l : List UInt8) (w : World) (h : Bld B b l w) (hBw : B ≤ w.heap.size) :
    Calls Tryz.prog 40 #[.pointer (some ⟨b, 0, none⟩)] w fun e w' => e = .returned (.string (bstr l)) ∧ Below B w w' :=
  (Tryz.Builder_String_any_f B b l w h hBw).mono fun e w' h => ⟨h.1, h.2.2⟩

/-- A builder stays what it is while older blocks stand. -/
theorem bld_on {B b : Nat} {l : List UInt8} {w w' : World} (h : Bld B b l w) (hb : Below w.heap.size w w') : Bld B b l w' := by
  have keep : ∀ k o, w.heap[k]? = some o → w'.heap[k]? = some o := fun k o hk => by rw [hb.block k (Array.getElem?_eq_some_iff.1 hk).1]; exact hk
  have at_ : ∀ p, Lib.BuilderAtF 81 5 B b p (Lib.byteCells l) w → Lib.BuilderAtF 81 5 B b p (Lib.byteCells l) w' := by
    intro p ⟨hB, v, hbk, hown, hne⟩
    refine ⟨hB, v, keep _ _ hbk, ⟨hown.1, ?_⟩, hne⟩
    rcases hown.2 with h0 | ⟨g, cap, cur, fz, h1, h2, h3, h4⟩
    · exact .inl h0
    · exact .inr ⟨g, cap, cur, fz, h1, h2, keep _ _ h3, h4⟩
  exact h.elim (fun x => .inl (at_ _ x)) (fun x => .inr (at_ _ x))
end Go.Proofs.YtmimfkhkilijcaaGreatDoor
namespace Go.Proofs.YtmimfkhkilijcaaGreatDoor
set_option maxRecDepth 4000
open Go.ChangeShapes Go.WideShapes Go.ChangeAt Go.RowKit
open PWord
open Go.Lib (itoa)
set_option linter.unusedVariables false
set_option linter.unusedSimpArgs false

/-- Numbers, or none. -/
def NumPost (o : Option (List Int)) (w : World) (e : Ending) (w' : World) : Prop :=
  ∃ v, e = .returned (.tuple #[v, .bool o.isSome]) ∧ Sl w.heap.size w' 1 v (o.getD []).length (iv (o.getD [])) ∧ Below w.heap.size w w'

abbrev bl (ws : List ByteArray) : List (List UInt8) := ws.map (·.data.toList)
theorem bl_at {ws : List ByteArray} {k : Nat} (hk : k < ws.length) : bl ws = bl (ws.take k) ++ (ws[k].data.toList :: bl (ws.drop (k + 1))) := by
  have h1 : ws.take k ++ ws[k] :: ws.drop (k + 1) = ws := by rw [← List.drop_eq_getElem_cons hk, List.take_append_drop]
  have h2 := congrArg bl h1
  simp only [bl, List.map_append, List.map_cons] at h2 ⊢
  exact h2.symm
theorem nums_stop {ws : List ByteArray} {k : Nat} (hk : k < ws.length) (h : PWord.numOf ws[k].data.toList = none) : nums (bl ws) = none := by
  rw [bl_at hk, nums_append, nums_cons, h]
  cases nums (bl (ws.take k)) <;> rfl
theorem nums_go {ws : List ByteArray} {k : Nat} {xs : List Int} {n : Int} (hk : k < ws.length) (h1 : nums (bl (ws.take k)) = some xs) (h : PWord.numOf ws[k].data.toList = some n) : nums (bl (ws.take (k + 1))) = some (xs ++ [n]) := by
  have e : bl (ws.take (k + 1)) = bl (ws.take k) ++ [ws[k].data.toList] := by
    rw [List.take_succ_eq_append_getElem hk]
    simp only [bl, List.map_append, List.map_cons, List.map_nil]
  rw [e, nums_append, h1, nums_cons, h]
  rfl

set_option maxRecDepth 100000 in
set_option maxHeartbeats 1000000 in
theorem cf_numbers (a : Option Addr) (n c : Nat) (ws : List ByteArray) (w : World) (he : EnvW w) (hr : RowS w a ws) (hn : n = ws.length) (hl : ws.length ≤ 1000) (hs : ∀ s ∈ ws, s.size ≤ 1000000) :
    Calls Tryz.prog 126 #[.slice a n c] w (NumPost (nums (bl ws)) w) := by
  have HN := Lib.hid hn
  rw [← hn] at hl
  clear hn
  obtain ⟨i0, hi, hz0, hz1, hz2⟩ := info_parts info_int
  obtain ⟨o, ho⟩ : ∃ o, nums (bl ws) = o := ⟨_, rfl⟩
  rw [ho]
  have HO := Lib.hid ho
  clear ho
  have HS := Lib.hid hs
  clear hs
  have h0 : Sl w.heap.size w 1 (.slice none 0 0) 0 (iv []) := Sl.nil _ _ _
  have hB0 := Below.refl w.heap.size w
  go_enter Tryz.func126, Tryz.ntmps126
  go_wp2
  go_loopw [4, 11] (fun l i wr => ∃ (k : Nat) (xs : List Int), i = .int .i64 k ∧ k ≤ n ∧ Hid (nums (bl (ws.take k)) = some xs) ∧ Hid (xs.length = k) ∧ Sl w.heap.size wr 1 l k (iv xs) ∧ Below w.heap.size w wr) (fun _ i _ => n - (intOf i).toNat)
  case atStart => exact ⟨0, [], rfl, Nat.zero_le _, rfl, rfl, h0, hB0⟩
  case round =>
    clear h0 hB0
    obtain ⟨k, xs, rfl, hk, HX, HXL, hsl, hb⟩ := hrel
    by_cases hlt : k < n
    · have hk1 : k < ws.length := by rw [← HN.out]; exact hlt
      obtain ⟨b, off, rfl, hbl, p0⟩ := (hr.below hb).at_ k hk1
      have hsz : ws[k].size ≤ 1000000 := HS.out _ (List.getElem_mem hk1)
      have heW := he.on hb
      have hm1 : k + 1 ≤ maxLen := by unfold maxLen; omega
      have hwB : w.heap.size ≤ wr.heap.size := hb.size
      have HSTOP := Lib.hid (nums_stop (ws := ws) hk1)
      have HGO := Lib.hid (fun (n : Int) => nums_go (n := n) hk1 HX.out)
      generalize hwk : ws[k] = s at *
      clear hwk hk1 hr
      by_cases hok : ∃ m, Lib.atoiAll s.data.toList = .ok m
      · obtain ⟨m, hm⟩ := hok
        have hmb : in64 m := Lib.atoiAll_bounds hm
        have hA := li_atoi_ok s m hsz hm wr
        have HA := Lib.hid hA
        have HI := Lib.hid (fun w he => li_itoa m hmb w he)
        have hno : PWord.numOf s.data.toList = if itoa m = s.data.toList then some m else none := by unfold PWord.numOf; rw [hm]
        clear hA hm
        by_cases heq : itoa m = s.data.toList
        · rw [if_pos heq] at hno
          have hx1 := HGO.out m hno
          have HX1 := Lib.hid hx1
          obtain rfl : s = bstr (itoa m) := by rw [heq]
          clear hno hx1 heq HGO HSTOP
          generalize bstr (itoa m) = s at *
          go_wp2_with (first | (go_at_call 185; refine HA.out.mono ?_; rintro e w1 ⟨rfl, hb1⟩; have he1 := heW.on hb1; have hs1 := hsl.onW hb1) | (go_at_call 84; refine (HI.out _ he1).mono ?_; rintro e w2 ⟨rfl, hb2⟩; have hs2 := (hs1.onW hb2).alloc (.cells #[.int .i64 m] 3); have hw2 : w.heap.size ≤ w2.heap.size := Nat.le_trans hwB (Nat.le_trans hb1.size hb2.size)) | (at_builtin; refine wpList_append_sl _ rfl (.tmp 28) (.tmp 30) 106 106 rfl 3 i0 (.int .i64 0) 8 Tryz.underlying106 hi hz0 hz1 hz2 rfl rfl hs2 _ 1 [.int .i64 m] rfl (src_oneN Tryz.underlying106 _ (.int .i64 m) _ _ (by simp) rfl) hm1 (by omega) (by simp; omega) ?_; intro v1 w3 k1 k2 k3))
          go_roundw
          case rel => exact ⟨k + 1, xs ++ [m], by go_num, by omega, HX1.out, (by show _ = _; rw [List.length_append, HXL.out]; rfl), (by rw [iv_snoc]; exact k1), ((on_below (on_below hb hb1) hb2).alloc (by omega) _).upd k2 (by simp; omega) (fun i _ hi => by have := (hsl.lt i hi).1; omega)⟩
          case measure => simp [intOf]; omega
        · rw [if_neg heq] at hno
          obtain rfl : o = none := by rw [← HO.out]; exact HSTOP.out hno
          have hne : ((bstr (itoa m)).toList == s.toList) = false := by
            rw [Lib.toList_data, Lib.toList_data, beq_eq_false_iff_ne]
            exact heq
          clear hno heq HGO HSTOP
          generalize bstr (itoa m) = t at *
          go_wp2_with (first | (go_at_call 185; refine HA.out.mono ?_; rintro e w1 ⟨rfl, hb1⟩; have he1 := heW.on hb1) | (go_at_call 84; refine (HI.out _ he1).mono ?_; rintro e w2 ⟨rfl, hb2⟩))
          go_ret2
          exact ⟨_, rfl, Sl.nil _ _ _, on_below (on_below hb hb1) hb2⟩
      · have hno : PWord.numOf s.data.toList = none := by
          unfold PWord.numOf
          split
          · rename_i m hm; exact absurd ⟨m, hm⟩ hok
          · rfl
        obtain rfl : o = none := by rw [← HO.out]; exact HSTOP.out hno
        have hA := li_atoi_none s hsz (fun n h => hok ⟨n, h⟩) wr heW
        have HA := Lib.hid hA
        clear hA hno hok HGO HSTOP
        go_wp2_with (first | (go_at_call 185; refine HA.out.mono ?_; rintro e w1 ⟨v, N, rfl, hb1⟩))
        go_ret2
        exact ⟨_, rfl, Sl.nil _ _ _, on_below hb hb1⟩
    · have hk2 : k = n := by omega
      have ho2 : some xs = o := by
        rw [← HO.out, ← HX.out, List.take_of_length_le (by have := HN.out; omega)]
      subst ho2
      have hxl := HXL.out
      go_wp2
      go_ret2
      exact ⟨_, rfl, by simpa [hxl] using hsl, hb⟩
end Go.Proofs.YtmimfkhkilijcaaGreatDoor
namespace Go.Proofs.YtmimfkhkilijcaaGreatDoor
set_option maxRecDepth 4000
open Go.ChangeShapes Go.WideShapes Go.ChangeAt Go.RowKit
open PWord
open Go.Lib (itoa)
set_option linter.unusedVariables false
set_option linter.unusedSimpArgs false

def nsT (ns : List Int) : List UInt8 := (ns.map fun n => 32 :: itoa n).flatten
theorem nsT_snoc (ns : List Int) (n : Int) : nsT (ns ++ [n]) = nsT ns ++ (32 :: itoa n) := by simp [nsT]
theorem glue_nsT : ∀ (x : List UInt8) (ns : List Int), glue 32 (x :: ns.map itoa) = x ++ nsT ns
  | x, [] => by simp [glue, nsT]
  | x, n :: ns => by
    rw [List.map_cons, glue_cons, glue_nsT (itoa n) ns]
    simp [nsT]
theorem lineOf_nsT (name : List UInt8) (ns : List Int) : lineOf name ns = name ++ nsT ns := glue_nsT name ns
theorem nsT_len : ∀ (ns : List Int), (∀ n ∈ ns, in64 n) → (nsT ns).length ≤ ns.length * 22
  | [], _ => by simp [nsT]
  | n :: ns, h => by
    have h1 := nsT_len ns (fun m hm => h m (by simp [hm]))
    have h2 := itoa_len (h n (by simp))
    have : nsT (n :: ns) = (32 :: itoa n) ++ nsT ns := rfl
    rw [this, List.length_append, List.length_cons, List.length_cons, Nat.succ_mul]
    omega
set_option maxRecDepth 100000 in
set_option maxHeartbeats 2000000 in
theorem re_line (name : List UInt8) (ns : List Int) (a : Option Addr) (n c : Nat) (w : World) (he : EnvW w) (hr : RowI w .i64 a ns) (hn : n = ns.length) (hl : n ≤ 10) (hna : name.length ≤ 21) :
    Calls Tryz.prog 47 #[.string (bstr name), .slice a n c] w fun e w' => e = .returned (.string (bstr (lineOf name ns ++ [10]))) ∧ Below w.heap.size w w' := by
  have hb64 : ∀ x ∈ ns, in64 x := fun x hx => bounds_i64 (hr.wf x hx)
  have HLL : Hid (∀ k, (nsT (ns.take k)).length ≤ 220) := fun k => by
    have h1 := nsT_len (ns.take k) (fun m hm => hb64 m (List.mem_of_mem_take hm))
    have h2 := List.length_take_le k ns
    have h3 : (ns.take k).length ≤ ns.length := by rw [List.length_take]; omega
    have : (ns.take k).length * 22 ≤ 10 * 22 := Nat.mul_le_mul_right 22 (by omega)
    omega
  have HB := Lib.hid hb64
  have HN := Lib.hid hn
  have hz := b_zero w
  have hb0 : Below w.heap.size w (w.alloc (.cells #[.pointer none, .slice none 0 0] 81)) := (Below.refl _ _).alloc (Nat.le_refl _) _
  have HW0 := Lib.hid (fun w' (h : Bld w.heap.size w.heap.size [] w') (hB : w.heap.size ≤ w'.heap.size) => b_write w.heap.size w.heap.size [] (bstr name) w' h (by rw [tx_size]; simp only [List.length_nil]; omega) hB)
  have HLN := Lib.hid (lineOf_nsT name ns)
  clear hb64 hn
  go_enter Tryz.func47, Tryz.ntmps47
  go_wp2_with (go_at_call 36; (with_reducible refine (HW0.out _ hz hb0.size).mono ?_); rintro e w1 ⟨rfl, hon1⟩; have hbl1 : Bld w.heap.size w.heap.size (name ++ nsT (ns.take 0)) w1 := (by simpa [nsT] using hon1.1); have hbw1 := hb0.trans hon1.2.1)
  clear hz HW0
  go_loopw [12] (fun i wr => ∃ k : Nat, i = .int .i64 k ∧ k ≤ n ∧ Bld w.heap.size w.heap.size (name ++ nsT (ns.take k)) wr ∧ Below w.heap.size w wr) (fun i _ => n - (intOf i).toNat)
  case atStart => exact ⟨0, rfl, Nat.zero_le _, hbl1, hbw1⟩
  case round =>
    clear hb0 hon1 hbl1 hbw1
    obtain ⟨k, rfl, hk, hbl, hb⟩ := hrel
    have hwB := hb.size
    have hln := HLL.out k
    by_cases hlt : k < n
    · have hk1 : k < ns.length := by rw [← HN.out]; exact hlt
      have hri := hr.below hb
      obtain ⟨b, off, rfl, hbb, q0⟩ := hri.at_ k hk1
      have HT : Hid (name ++ nsT (ns.take (k + 1)) = name ++ nsT (ns.take k) ++ (32 :: itoa ns[k])) := by
        refine Lib.hid ?_
        rw [List.take_succ_eq_append_getElem hk1, nsT_snoc, List.append_assoc]
      have hx := HB.out _ (List.getElem_mem hk1)
      have hil := itoa_len hx
      have HI := Lib.hid (li_itoa _ hx wr (he.on hb))
      clear hri
      generalize ns[k] = x at *
      clear hk1 hx
      have hcat := fun w => tx_run w [32] (itoa x) (by simp only [List.length_cons, List.length_nil]; omega)
      obtain ⟨u, hu⟩ : ∃ u, bstr ([32] ++ itoa x) = u := ⟨_, rfl⟩
      have hwr := fun w' (h : Bld w.heap.size w.heap.size (name ++ nsT (ns.take k)) w') (hB : w.heap.size ≤ w'.heap.size) => b_write w.heap.size w.heap.size (name ++ nsT (ns.take k)) (bstr ([32] ++ itoa x)) w' h (by rw [tx_size, List.length_append]; simp only [List.length_append, List.length_cons, List.length_nil]; omega) hB
      rw [show (bstr ([32] ++ itoa x)).data.toList = 32 :: itoa x from rfl, ← HT.out] at hwr
      have HW := Lib.hid hwr
      rw [hu] at hcat HW
      clear hwr hu HT
      generalize itoa x = ix at *
      go_wp2_with (first | (go_at_call 84; (with_reducible refine HI.out.mono ?_); rintro e w2 ⟨rfl, hb2⟩; have hbl2 := bld_on hbl hb2; have hbw2 := on_below hb hb2) | (go_at_call 36; (with_reducible refine (HW.out _ hbl2 hbw2.size).mono ?_); rintro e w3 ⟨rfl, hon3⟩))
      go_roundw
      case rel => exact ⟨k + 1, by go_num, hlt, hon3.1, hbw2.trans hon3.2.1⟩
      case measure => simp [intOf]; omega
    · obtain rfl : k = n := by omega
      rw [List.take_of_length_le (by rw [← HN.out]; exact Nat.le_refl _)] at hbl hln
      have HW := Lib.hid (b_write w.heap.size w.heap.size (name ++ nsT ns) ⟨#[10]⟩ wr hbl (by rw [List.length_append]; show _ + 1 ≤ _; omega) hwB)
      rw [show (⟨#[10]⟩ : ByteArray).data.toList = [10] from rfl] at HW
      have HT := fun w' h hB => Lib.hid (b_text w.heap.size w.heap.size (name ++ nsT ns ++ [10]) w' h hB)
      go_wp2_with (first | (go_at_call 36; (with_reducible refine HW.out.mono ?_); rintro e w3 ⟨rfl, hon3⟩; have hb3 := hb.trans hon3.2.1; have hB3 := hon3.1) | (go_at_call 40; (with_reducible refine (HT _ hB3 hb3.size).out.mono ?_); rintro e w5 ⟨rfl, hb5⟩))
      go_ret
      exact ⟨by rw [HLN.out, List.append_assoc]; rfl, hb3.trans hb5⟩
end Go.Proofs.YtmimfkhkilijcaaGreatDoor
