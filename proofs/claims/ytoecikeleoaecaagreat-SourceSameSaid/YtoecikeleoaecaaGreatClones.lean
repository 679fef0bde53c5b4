/- The library's Clone, at four types of elements. -/
import Derived.Test.YtoecikeleoaecaaGreatKBase
import Derived.Lib.SliceRun
import Derived.BigRegion
namespace Go.Proofs.YtoecikeleoaecaaGreat
set_option maxRecDepth 4000
open Go.ChangeShapes Go.WideShapes Go.ChangeAt Go.RowKit
set_option linter.unusedVariables false
set_option linter.unusedSimpArgs false

/-- A row like it, of one's own. -/
def ClPost (m n : Nat) (xs : List Value) (w : World) (e : Ending) (w' : World) : Prop := ∃ v, e = .returned v ∧ Sl w.heap.size w' m v n xs ∧ Below w.heap.size w w'

theorem info_cl_ev : (Tryz.prog.info? 67).map (fun i => (i.zero, i.size, i.bytes)) = some (some (.nilIface), 1, 16) := by kernel_rfl
set_option maxHeartbeats 1000000 in
theorem cl_ev (a : Option Addr) (n c : Nat) (xs : List Value) (w : World) (hs : ∀ w', Below w.heap.size w w' → Src Tryz.prog 1 41 (.slice a n c) n xs w') (ha : a = none → n = 0 ∧ xs = []) (hb : n ≤ 100000) :
    Calls Tryz.prog 58 #[.slice a n c] w (ClPost 1 n xs w) := by
  have q22 : ∀ (w : World) (a : Option Addr) (n c n' c' : Nat), (binOp .eql 41 (.slice a n c) (.slice none n' c')).run Tryz.prog w = .ok (.bool a.isNone) w := fun w a n c n' c' => Lib.run_eql_slice_nil w _ _ a n c n' c' Tryz.underlying41
  obtain ⟨i0, hi0, hz0, hz1, hz2⟩ := info_parts info_cl_ev
  cases a with
  | none =>
    obtain ⟨rfl, rfl⟩ := ha rfl
    clear hs ha
    go_enter Tryz.func58, Tryz.ntmps58
    go_wp2
    go_ret
    exact ⟨_, rfl, Sl.nil _ _ _, Below.refl _ _⟩
  | some ad =>
    have hsl : Sl w.heap.size (w.alloc (.cells #[] 67)) 1 (.slice (some ⟨w.heap.size, 0, none⟩) 0 0) 0 [] := by
      simpa using Sl.made (B := w.heap.size) w #[] 67 1 0 0 (Nat.le_refl _) (Nat.zero_le _) (Nat.zero_le _) (by simp)
    have hbel : Below w.heap.size w (w.alloc (.cells #[] 67)) := (Below.refl _ _).alloc (Nat.le_refl _) _
    have hl2 := hs _ hbel
    clear hs ha
    go_enter Tryz.func58, Tryz.ntmps58
    go_wp2_with (at_builtin; refine wpList_append_sl _ rfl (.tmp 5) (.tmp 6) 41 41 rfl 67 i0 (.nilIface) 16 Tryz.underlying41 hi0 hz0 hz1 hz2 rfl rfl hsl _ n xs rfl hl2 (by unfold maxLen; omega) (by omega) (by simp) ?_; intro v1 w1 k1 k2 k3)
    go_ret
    refine ⟨v1, rfl, ?_, hbel.upd k2 hbel.size (fun i _ h => (hsl.lt i h).1)⟩
    simpa using k1

theorem info_cl_ru : (Tryz.prog.info? 55).map (fun i => (i.zero, i.size, i.bytes)) = some (some (.agg #[.int .i64 0, .int .i64 0, .int .i64 0, .int .i64 0, .int .i64 0]), 5, 40) := by kernel_rfl
set_option maxHeartbeats 1000000 in
theorem cl_ru (a : Option Addr) (n c : Nat) (xs : List Value) (w : World) (hs : ∀ w', Below w.heap.size w w' → Src Tryz.prog 5 22 (.slice a n c) n xs w') (ha : a = none → n = 0 ∧ xs = []) (hb : n ≤ 100000) :
    Calls Tryz.prog 39 #[.slice a n c] w (ClPost 5 n xs w) := by
  have q22 : ∀ (w : World) (a : Option Addr) (n c n' c' : Nat), (binOp .eql 22 (.slice a n c) (.slice none n' c')).run Tryz.prog w = .ok (.bool a.isNone) w := fun w a n c n' c' => Lib.run_eql_slice_nil w _ _ a n c n' c' Tryz.underlying22
  obtain ⟨i0, hi0, hz0, hz1, hz2⟩ := info_parts info_cl_ru
  cases a with
  | none =>
    obtain ⟨rfl, rfl⟩ := ha rfl
    clear hs ha
    go_enter Tryz.func39, Tryz.ntmps39
    go_wp2
    go_ret
    exact ⟨_, rfl, Sl.nil _ _ _, Below.refl _ _⟩
  | some ad =>
    have hsl : Sl w.heap.size (w.alloc (.cells #[] 55)) 5 (.slice (some ⟨w.heap.size, 0, none⟩) 0 0) 0 [] := by
      simpa using Sl.made (B := w.heap.size) w #[] 55 5 0 0 (Nat.le_refl _) (Nat.zero_le _) (Nat.zero_le _) (by simp)
    have hbel : Below w.heap.size w (w.alloc (.cells #[] 55)) := (Below.refl _ _).alloc (Nat.le_refl _) _
    have hl2 := hs _ hbel
    clear hs ha
    go_enter Tryz.func39, Tryz.ntmps39
    go_wp2_with (at_builtin; refine wpList_append_sl _ rfl (.tmp 5) (.tmp 6) 22 22 rfl 55 i0 (.agg #[.int .i64 0, .int .i64 0, .int .i64 0, .int .i64 0, .int .i64 0]) 40 Tryz.underlying22 hi0 hz0 hz1 hz2 rfl rfl hsl _ n xs rfl hl2 (by unfold maxLen; omega) (by omega) (by simp) ?_; intro v1 w1 k1 k2 k3)
    go_ret
    refine ⟨v1, rfl, ?_, hbel.upd k2 hbel.size (fun i _ h => (hsl.lt i h).1)⟩
    simpa using k1

theorem info_cl_str : (Tryz.prog.info? 9).map (fun i => (i.zero, i.size, i.bytes)) = some (some (.string ByteArray.empty), 1, 16) := by kernel_rfl
set_option maxHeartbeats 1000000 in
theorem cl_str (a : Option Addr) (n c : Nat) (xs : List Value) (w : World) (hs : ∀ w', Below w.heap.size w w' → Src Tryz.prog 1 25 (.slice a n c) n xs w') (ha : a = none → n = 0 ∧ xs = []) (hb : n ≤ 100000) :
    Calls Tryz.prog 40 #[.slice a n c] w (ClPost 1 n xs w) := by
  have q22 : ∀ (w : World) (a : Option Addr) (n c n' c' : Nat), (binOp .eql 25 (.slice a n c) (.slice none n' c')).run Tryz.prog w = .ok (.bool a.isNone) w := fun w a n c n' c' => Lib.run_eql_slice_nil w _ _ a n c n' c' Tryz.underlying25
  obtain ⟨i0, hi0, hz0, hz1, hz2⟩ := info_parts info_cl_str
  cases a with
  | none =>
    obtain ⟨rfl, rfl⟩ := ha rfl
    clear hs ha
    go_enter Tryz.func40, Tryz.ntmps40
    go_wp2
    go_ret
    exact ⟨_, rfl, Sl.nil _ _ _, Below.refl _ _⟩
  | some ad =>
    have hsl : Sl w.heap.size (w.alloc (.cells #[] 9)) 1 (.slice (some ⟨w.heap.size, 0, none⟩) 0 0) 0 [] := by
      simpa using Sl.made (B := w.heap.size) w #[] 9 1 0 0 (Nat.le_refl _) (Nat.zero_le _) (Nat.zero_le _) (by simp)
    have hbel : Below w.heap.size w (w.alloc (.cells #[] 9)) := (Below.refl _ _).alloc (Nat.le_refl _) _
    have hl2 := hs _ hbel
    clear hs ha
    go_enter Tryz.func40, Tryz.ntmps40
    go_wp2_with (at_builtin; refine wpList_append_sl _ rfl (.tmp 5) (.tmp 6) 25 25 rfl 9 i0 (.string ByteArray.empty) 16 Tryz.underlying25 hi0 hz0 hz1 hz2 rfl rfl hsl _ n xs rfl hl2 (by unfold maxLen; omega) (by omega) (by simp) ?_; intro v1 w1 k1 k2 k3)
    go_ret
    refine ⟨v1, rfl, ?_, hbel.upd k2 hbel.size (fun i _ h => (hsl.lt i h).1)⟩
    simpa using k1

theorem info_cl_pt : (Tryz.prog.info? 141).map (fun i => (i.zero, i.size, i.bytes)) = some (some (.agg #[.int .i64 0, .int .i64 0, .int .i64 0, .int .i64 0, .int .i64 0, .slice none 0 0, .int .i64 0, .int .i64 0, .int .i64 0, .int .i64 0]), 10, 96) := by kernel_rfl
set_option maxHeartbeats 1000000 in
theorem cl_pt (a : Option Addr) (n c : Nat) (xs : List Value) (w : World) (hs : ∀ w', Below w.heap.size w w' → Src Tryz.prog 10 68 (.slice a n c) n xs w') (ha : a = none → n = 0 ∧ xs = []) (hb : n ≤ 100000) :
    Calls Tryz.prog 123 #[.slice a n c] w (ClPost 10 n xs w) := by
  have q22 : ∀ (w : World) (a : Option Addr) (n c n' c' : Nat), (binOp .eql 68 (.slice a n c) (.slice none n' c')).run Tryz.prog w = .ok (.bool a.isNone) w := fun w a n c n' c' => Lib.run_eql_slice_nil w _ _ a n c n' c' Tryz.underlying68
  obtain ⟨i0, hi0, hz0, hz1, hz2⟩ := info_parts info_cl_pt
  cases a with
  | none =>
    obtain ⟨rfl, rfl⟩ := ha rfl
    clear hs ha
    go_enter Tryz.func123, Tryz.ntmps123
    go_wp2
    go_ret
    exact ⟨_, rfl, Sl.nil _ _ _, Below.refl _ _⟩
  | some ad =>
    have hsl : Sl w.heap.size (w.alloc (.cells #[] 141)) 10 (.slice (some ⟨w.heap.size, 0, none⟩) 0 0) 0 [] := by
      simpa using Sl.made (B := w.heap.size) w #[] 141 10 0 0 (Nat.le_refl _) (Nat.zero_le _) (Nat.zero_le _) (by simp)
    have hbel : Below w.heap.size w (w.alloc (.cells #[] 141)) := (Below.refl _ _).alloc (Nat.le_refl _) _
    have hl2 := hs _ hbel
    clear hs ha
    go_enter Tryz.func123, Tryz.ntmps123
    go_wp2_with (at_builtin; refine wpList_append_sl _ rfl (.tmp 5) (.tmp 6) 68 68 rfl 141 i0 (.agg #[.int .i64 0, .int .i64 0, .int .i64 0, .int .i64 0, .int .i64 0, .slice none 0 0, .int .i64 0, .int .i64 0, .int .i64 0, .int .i64 0]) 96 Tryz.underlying68 hi0 hz0 hz1 hz2 rfl rfl hsl _ n xs rfl hl2 (by unfold maxLen; omega) (by omega) (by simp) ?_; intro v1 w1 k1 k2 k3)
    go_ret
    refine ⟨v1, rfl, ?_, hbel.upd k2 hbel.size (fun i _ h => (hsl.lt i h).1)⟩
    simpa using k1

end Go.Proofs.YtoecikeleoaecaaGreat
