/- config: a name and numbers as a line. -/
import Derived.Test.YtfgfjofbghfdpaaDoorConf2
namespace Go.Proofs.YtfgfjofbghfdpaaDoor
set_option maxRecDepth 4000
open Go.ChangeShapes Go.WideShapes Go.ChangeAt Go.RowKit
open PWord
open Go.Lib (itoa)
set_option linter.unusedVariables false
set_option linter.unusedSimpArgs false

theorem info_str : (Tryd.prog.info? 9).map (fun i => (i.zero, i.size, i.bytes)) = some (some (.string ByteArray.empty), 1, 16) := by kernel_rfl

/-- The words of a line. -/
def wordsB (name : List UInt8) (ns : List Int) : List ByteArray := bstr name :: ns.map fun n => bstr (itoa n)
theorem wordsB_len (name : List UInt8) (ns : List Int) : (wordsB name ns).length = ns.length + 1 := by simp [wordsB]
theorem wordsB_snoc (name : List UInt8) (ns : List Int) (n : Int) : wordsB name (ns ++ [n]) = wordsB name ns ++ [bstr (itoa n)] := by simp [wordsB]
theorem wordsB_glue (name : List UInt8) (ns : List Int) : glue 32 ((wordsB name ns).map (·.data.toList)) = lineOf name ns := by
  simp only [wordsB, List.map_cons, List.map_map]
  rfl

set_option maxRecDepth 100000 in
set_option maxHeartbeats 1000000 in
theorem cf_line (name : List UInt8) (ns : List Int) (a : Option Addr) (n c : Nat) (w : World) (he : EnvW w) (hr : RowI w .i64 a ns) (hn : n = ns.length) (hl : n ≤ 3) (hna : name.length ≤ 21) :
    Calls Tryd.prog 37 #[.string (bstr name), .slice a n c] w fun e w' => e = .returned (.string (bstr (lineOf name ns ++ [10]))) ∧ Below w.heap.size w w' := by
  have hb64 : ∀ x ∈ ns, in64 x := fun x hx => bounds_i64 (hr.wf x hx)
  have hll := lineOf_len name ns hna hb64
  have hcat := fun w => tx_run w (lineOf name ns) [10] (by simp only [List.length_cons, List.length_nil]; omega)
  have hwg := wordsB_glue name ns
  have HLL : Hid ((lineOf name ns).length ≤ 1000) := Lib.hid (by rw [← hn] at hll; omega)
  have HB := Lib.hid hb64
  have HN := Lib.hid hn
  have HWG := Lib.hid hwg
  clear hll hb64 hn hwg
  obtain ⟨i0, hi, hz0, hz1, hz2⟩ := info_parts info_str
  have hs0 := Sl.made (B := w.heap.size) w #[.string (bstr name)] 9 1 1 1 (Nat.le_refl _) (Nat.le_refl _) (by decide) (by simp)
  have hb0 : Below w.heap.size w (w.alloc (.cells #[.string (bstr name)] 9)) := (Below.refl _ _).alloc (Nat.le_refl _) _
  generalize lineOf name ns = L at *
  go_enter Tryd.func37, Tryd.ntmps37
  go_wp2
  go_loopw [5, 12] (fun v i wr => ∃ (k : Nat) (av : Option Addr) (cv : Nat), i = .int .i64 k ∧ k ≤ n ∧ v = .slice av (k + 1) cv ∧ Sl w.heap.size wr 1 (.slice av (k + 1) cv) (k + 1) (sv (wordsB name (ns.take k))) ∧ Below w.heap.size w wr) (fun _ i _ => n - (intOf i).toNat)
  case atStart => exact ⟨0, _, _, rfl, Nat.zero_le _, rfl, hs0, hb0⟩
  case round =>
    clear hs0 hb0
    obtain ⟨k, av, cv, rfl, hk, rfl, hsl, hb⟩ := hrel
    have hri := hr.below hb
    by_cases hlt : k < n
    · have hk1 : k < ns.length := by rw [← HN.out]; exact hlt
      obtain ⟨b, off, rfl, hbl, q0⟩ := hri.at_ k hk1
      have HT : Hid (ns.take (k + 1) = ns.take k ++ [ns[k]]) := List.take_succ_eq_append_getElem hk1
      have hx := HB.out _ (List.getElem_mem hk1)
      have HI := Lib.hid (li_itoa _ hx wr (he.on hb))
      clear hri
      generalize hxk : ns[k] = x at *
      clear hxk hk1 hx
      have hm1 : k + 1 + 1 ≤ maxLen := by unfold maxLen; omega
      have hwB := hb.size
      go_wp2_with (first | (go_at_call 44; refine HI.out.mono ?_; rintro e w2 ⟨rfl, hb2⟩; have hs2 := (hsl.onW hb2).alloc (.cells #[.string (bstr (itoa x))] 9); have hw2 : w.heap.size ≤ w2.heap.size := Nat.le_trans hwB hb2.size) | (at_builtin; refine wpList_append_sl _ rfl (.tmp 16) (.tmp 19) 35 35 rfl 9 i0 _ 16 Tryd.underlying35 hi hz0 hz1 hz2 rfl rfl hs2 _ 1 [.string (bstr (itoa x))] rfl (src_oneN Tryd.underlying35 _ (.string (bstr (itoa x))) _ _ (by simp) rfl) hm1 (by omega) (by simp; omega) ?_; intro v1 w3 k1 k2 k3; obtain ⟨av1, cv1, rfl⟩ := k1.shape))
      go_roundw
      case rel => exact ⟨k + 1, _, _, by go_num, by omega, rfl, (by rw [HT.out, wordsB_snoc, sv_snoc]; exact k1), ((on_below hb hb2).alloc (by omega) _).upd k2 (by simp; omega) (fun i _ hi => by have := (hsl.lt i hi).1; omega)⟩
      case measure => simp [intOf]; omega
    · obtain rfl : k = n := by omega
      rw [List.take_of_length_le (by rw [← HN.out]; exact Nat.le_refl _)] at hsl
      obtain ⟨hln, a2, c2, hv, hc2, hrow⟩ := rows_of_sl hsl
      have hwl := wordsB_len name ns
      rw [← HN.out] at hwl
      rw [hwl] at hc2
      have hv2 : Value.slice av (k + 1) cv = .slice a2 (k + 1) c2 := by rw [hv, hwl]
      cases hv2
      obtain ⟨g, off, rfl, hgl⟩ := hrow.lt (by rw [hwl]; omega)
      have hj := li_join g off cv _ wr hrow (by omega) (by omega) (by omega) (by rw [HWG.out]; have := HLL.out; omega)
      rw [hwl, HWG.out] at hj
      have HJ := Lib.hid hj
      clear hj hv hwl hln
      go_wp2_with (go_at_call 49; refine HJ.out.mono ?_; rintro e w4 ⟨rfl, hb4⟩)
      go_ret
      exact ⟨rfl, on_below hb hb4⟩
end Go.Proofs.YtfgfjofbghfdpaaDoor
