/- What the library's own variables, and config's names, hold. -/
import Derived.Test.YtcigklninmddaaaGreatDoorKBase
import Derived.Test.YtcigklninmddaaaGreatDoorShelf
import Derived.Lib.AppendIntMem
import Derived.Test.YtcigklninmddaaaGreatDoorKWord
import Derived.Lib.Join
namespace Go.Proofs.YtcigklninmddaaaGreatDoor
set_option maxRecDepth 4000
open Go.ChangeShapes Go.WideShapes Go.ChangeAt Go.RowKit
set_option linter.unusedVariables false

/-- What the library's own variables hold. -/
structure EnvW (w : World) : Prop where
  pow : Lib.TabIs Tryz.prog w "internal/strconv.uint64pow10" .u64 Lib.pow10Tab
  syn : ∃ v, w.cell? ⟨3, 0, none⟩ = some v ∧ (v = .nilIface ∨ ∃ te pe, v = .iface te pe)
  rng : ∃ v, w.cell? ⟨4, 0, none⟩ = some v ∧ (v = .nilIface ∨ ∃ te pe, v = .iface te pe)
  max : ∃ m, w.cell? ⟨0, 0, none⟩ = some (.int .i64 m)
theorem cell_stays {w w' : World} (hb : Below w.heap.size w w') {p : Addr} {v : Value} (h : w.cell? p = some v) : w'.cell? p = some v := (hb.cell (cell_lt h)).trans h
theorem EnvW.on {w w' : World} (h : EnvW w) (hb : Below w.heap.size w w') : EnvW w' :=
  ⟨Lib.tabBelow_of_tabIs h.pow w' hb, h.syn.imp fun v hv => ⟨cell_stays hb hv.1, hv.2⟩, h.rng.imp fun v hv => ⟨cell_stays hb hv.1, hv.2⟩, h.max.imp fun m hm => cell_stays hb hm⟩

end Go.Proofs.YtcigklninmddaaaGreatDoor

/- The library's texts and numbers, in plain words. -/
namespace Go.Proofs.YtcigklninmddaaaGreatDoor
set_option maxRecDepth 4000
open Go.ChangeShapes Go.WideShapes Go.ChangeAt Go.RowKit
open PWord
open Go.Lib (itoa)
set_option linter.unusedVariables false

theorem grow_upon (w : World) (k : Nat) (os : Array Obj) : Below w.heap.size w (Sort.grow (w.drewN k) os) := by
  refine ⟨rfl, rfl, rfl, ?_, fun j hj => ?_⟩
  · show w.heap.size ≤ (w.heap ++ os).size
    simp
  · show (w.heap ++ os)[j]? = _
    rw [Array.getElem?_append_left hj]

/-- strconv.Itoa. -/
theorem li_itoa (n : Int) (hn : in64 n) (w : World) (he : EnvW w) : Calls Tryz.prog 59 #[.int .i64 n] w fun e w' => e = .returned (.string (bstr (itoa n))) ∧ Below w.heap.size w w' :=
  (Tryz.strconv_Itoa n hn.1 hn.2 w he.pow).mono fun e w' ⟨h, k, os, hw⟩ => ⟨h, by rw [hw]; exact grow_upon w k os⟩

/-- strconv.Atoi: a number. -/
theorem li_atoi_ok (s : ByteArray) (n : Int) (hs : s.size ≤ 1000000) (h : Lib.atoiAll s.data.toList = .ok n) (w : World) :
    Calls Tryz.prog 58 #[.string s] w fun e w' => e = .returned (.tuple #[.int .i64 n, .nilIface]) ∧ Below w.heap.size w w' :=
  (Tryz.strconv_Atoi_ok s (by omega) n h w).mono fun e w' ⟨he, hw⟩ => ⟨he, by
    rcases hw with rfl | ⟨t, rfl⟩
    · exact Below.refl _ _
    · exact bytes_below (Below.refl _ _) (Nat.le_refl _) t _⟩
/-- None: some number, and an error. -/
def NoNum (w : World) (e : Ending) (w' : World) : Prop := ∃ (v : Int) (N : Nat), e = .returned (.tuple #[.int .i64 v, .iface 146 (.pointer (some ⟨N, 0, none⟩))]) ∧ Below w.heap.size w w'
theorem li_atoi_none (s : ByteArray) (hs : s.size ≤ 1000000) (h : ∀ n, Lib.atoiAll s.data.toList ≠ .ok n) (w : World) (he : EnvW w) :
    Calls Tryz.prog 58 #[.string s] w (NoNum w) := by
  rcases hx : Lib.atoiAll s.data.toList with n | _ | _
  · exact absurd hx (h n)
  · obtain ⟨ev, h1, h2⟩ := he.syn
    have hc : Calls Tryz.prog 58 #[.string s] w _ := Any.strconv_Atoi_syntax Tryz.laysC172 s (by omega) hx ev w h1 h2
    exact hc.mono fun e w' ⟨N, h, _, _, hb⟩ => ⟨_, N, h, hb⟩
  · obtain ⟨ev, h1, h2⟩ := he.rng
    exact (Tryz.strconv_Atoi_range s (by omega) hx ev w h1 h2).mono fun e w' ⟨N, h, _, _, hb⟩ => ⟨_, N, h, hb⟩

/-- A row of texts of the call's own, newly made: what a parting gives. -/
def Parted (w : World) (L : List (List UInt8)) (e : Ending) (w' : World) : Prop :=
  ∃ (g c : Nat) (ws : List ByteArray), e = .returned (.slice (some ⟨g, 0, none⟩) ws.length c) ∧ ws.map (·.data.toList) = L ∧ RowS w' (some ⟨g, 0, none⟩) ws ∧ ws.length ≤ c ∧ c ≤ 100000 ∧ w.heap.size ≤ g ∧ Below w.heap.size w w'

theorem rows_cells (w : World) (ws : List ByteArray) (N : Nat) (e : TypeId) : RowS (w.alloc (.cells (Lib.cellsOf ws N) e)) (some ⟨w.heap.size, 0, none⟩) ws :=
  ⟨fun i hi => ⟨w.heap.size, 0, rfl, by simp, by
    rw [cell_of_row _ w.heap.size (0 + i) _ e (0, 0) (heap_alloc_new w _)]
    simp only [Lib.cellsOf, Nat.zero_add, List.getElem?_toArray]
    rw [List.getElem?_append_left (by simpa using hi)]
    simp [hi]⟩⟩

/-- strings.SplitN at a blank, four parts at most. -/
theorem li_splitn (s : ByteArray) (w : World) (hs : s.size ≤ 1000000) (he : EnvW w) :
    Calls Tryz.prog 38 #[.string s, .string ⟨#[32]⟩, .int .i64 4] w (Parted w (cuts 32 3 s.data.toList)) := by
  obtain ⟨m, hm⟩ := he.max
  refine (Tryz.strings_SplitN s ⟨#[32]⟩ 4 m w (by omega) hm (by decide) (by decide) (by decide)).mono ?_
  rintro e w' ⟨rfl, rfl⟩
  refine ⟨w.heap.size, min 4 (s.size + 1), _, rfl, ?_, rows_cells w _ _ _, ?_, by omega, Nat.le_refl _, (Below.refl _ _).alloc (Nat.le_refl _) _⟩
  · rw [Lib.splitB_data, show min 4 (s.size + 1) - 1 = min 3 s.data.toList.length by rw [Array.length_toList]; show min 4 (s.data.size + 1) - 1 = _; omega]
    exact cuts_min 32 3 s.data.toList
  · have := Lib.splitB_length_le ⟨#[32]⟩ 0 (min 4 (s.size + 1) - 1) s
    omega

/-- strings.Split at line feeds. -/
theorem li_split (s : ByteArray) (L : List (List UInt8)) (w : World) (hs : s.size ≤ 90000) (he : EnvW w) (hL : cuts 10 (s.data.toList.count 10) s.data.toList = L) :
    Calls Tryz.prog 19 #[.string s, .string ⟨#[10]⟩] w (Parted w L) := by
  obtain ⟨m, hm⟩ := he.max
  have hcb : Lib.countB s ⟨#[10]⟩ = s.data.toList.count 10 := Lib.count_one 10 s.data.toList
  have hlen := Lib.splitB_all ⟨#[10]⟩ (by decide) 0 _ s rfl
  have hle := Lib.countB_le ⟨#[10]⟩ (by decide) _ s (Nat.le_refl _)
  refine (Tryz.strings_Split s ⟨#[10]⟩ m w (by omega) hm (by decide)).mono ?_
  rintro e w' ⟨rfl, rfl⟩
  refine ⟨w.heap.size, Lib.countB s ⟨#[10]⟩ + 1, Lib.splitB ⟨#[10]⟩ 0 (Lib.countB s ⟨#[10]⟩) s, by rw [hlen], ?_, ?_, by omega, by omega, Nat.le_refl _, (Below.refl _ _).alloc (Nat.le_refl _) _⟩
  · rw [Lib.splitB_data, hcb]
    exact hL
  · rw [← Lib.cellsOf_full]
    exact rows_cells w _ _ _

theorem glue_tail (c : UInt8) : ∀ (x : List UInt8) (r : List (List UInt8)), glue c (x :: r) = x ++ Lib.joinTail [c] r
  | x, [] => by simp [glue, Lib.joinTail]
  | x, y :: r => by
    rw [glue_cons, glue_tail c y r]
    simp [Lib.joinTail]
theorem join_glue (c : UInt8) (ws : List (List UInt8)) : Lib.join ws [c] = glue c ws := by
  cases ws with
  | nil => rfl
  | cons x r => rw [Lib.join_cons, glue_tail]

/-- strings.Join with blanks. -/
theorem li_join (g o c : Nat) (xs : List ByteArray) (w : World) (hr : RowS w (some ⟨g, o, none⟩) xs) (h0 : 0 < xs.length) (hn : xs.length ≤ 1000) (hc : xs.length ≤ c) (hlen : (glue 32 (xs.map (·.data.toList))).length ≤ 1000000) :
    Calls Tryz.prog 142 #[.slice (some ⟨g, o, none⟩) xs.length c, .string ⟨#[32]⟩] w fun e w' => e = .returned (.string (bstr (glue 32 (xs.map (·.data.toList))))) ∧ Below w.heap.size w w' := by
  have hj : Lib.join (xs.map (·.data.toList)) (⟨#[32]⟩ : ByteArray).data.toList = glue 32 (xs.map (·.data.toList)) := join_glue 32 _
  refine (Tryz.strings_Join g o c xs ⟨#[32]⟩ w (fun j x hx => ?_) (hr.cell 0 h0).1 (by omega) hc (by rw [hj]; omega)).mono ?_
  · obtain ⟨hj, rfl⟩ := List.getElem?_eq_some_iff.1 hx
    exact (hr.cell j hj).2
  · rintro e w' ⟨rfl, hb⟩
    exact ⟨by rw [hj], hb⟩

/-- strings.Cut at a blank. -/
def CutPost (w : World) (a b : List UInt8) (e : Ending) (w' : World) : Prop := ∃ (t : Bool), e = .returned (.tuple #[.string (bstr a), .string (bstr b), .bool t]) ∧ Below w.heap.size w w'
theorem li_cut (s : ByteArray) (w : World) (hs : s.size ≤ 1000000) (he : EnvW w) :
    Calls Tryz.prog 24 #[.string s, .string ⟨#[32]⟩] w (CutPost w (Lib.cut s.data.toList [32]).1 (Lib.cut s.data.toList [32]).2.1) := by
  obtain ⟨m, hm⟩ := he.max
  refine (Tryz.strings_Cut s ⟨#[32]⟩ m w (by omega) hm).mono ?_
  rintro e w' ⟨rfl, n, rfl⟩
  exact ⟨_, rfl, ⟨rfl, rfl, rfl, Nat.le_refl _, fun _ _ => rfl⟩⟩
end Go.Proofs.YtcigklninmddaaaGreatDoor
