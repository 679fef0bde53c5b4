/- Contracts of log's calls: times. -/
import Derived.Test.YtfgmbmpbgokolaaLog2
namespace Go.Proofs.Ytfgmbmpbgokolaa
open Go.ChangeShapes Go.WideShapes Go.ChangeAt Go.RowKit
open PVar PCrc PFrame
set_option linter.unusedVariables false
set_option linter.unusedSimpArgs false

theorem info_int : (Try.prog.info? 3).map (fun i => (i.zero, i.size, i.bytes)) = some (some (.int .i64 0), 1, 8) := by kernel_rfl
def iv (l : List Int) : List Value := l.map fun n => Value.int .i64 n
theorem iv_len (l : List Int) : (iv l).length = l.length := List.length_map _

theorem rowi_of_sl {B : Nat} {w : World} {v : Value} {n : Nat} {l : List Int} (h : Sl B w 1 v n (iv l)) (hb : ∀ x ∈ l, -9223372036854775808 ≤ x ∧ x ≤ 9223372036854775807) : n = l.length ∧ ∃ a c, v = .slice a l.length c ∧ RowI w .i64 a l := by
  have hl := h.1
  rw [iv_len] at hl
  have hn : n = l.length := by omega
  subst hn
  have hm := h.len
  have hwf : ∀ x ∈ l, (Lit.int .i64 x).wf = true := fun x hx => by have := hb x hx; simp [Lit.wf, IntKind.min, IntKind.max, IntKind.bits, IntKind.signed]; omega
  refine ⟨rfl, ?_⟩
  rcases h.2 with ⟨rfl, h0⟩ | ⟨g, off, cap, rfl, hb, hg, h1, h2, h3, h4⟩
  · rw [h0]
    exact ⟨_, _, rfl, by omega, fun i hi => by omega, hwf⟩
  · refine ⟨_, _, rfl, hm, fun i hi => ⟨g, off, rfl, hg, ?_⟩, hwf⟩
    rw [h3 i (by omega)]
    simp [iv, hi]

theorem src_oneN {P : Program} {tx e' : TypeId} (hk : P.underlying tx = some (.slice e')) (w : World) (u : Value) (e : TypeId) (N : Nat) (hN : w.heap.size = N) (hu : u.oneCell' = true) : Src P 1 tx (.slice (some ⟨N, 0, none⟩) 1 1) 1 [u] (w.alloc (.cells #[u] e)) := by
  subst hN
  exact src_one hk w u e hu

def TimesPost (w : World) (rs : List R) (e : Ending) (w' : World) : Prop :=
  ∃ a c, e = .returned (.slice a rs.length c) ∧ RowI w' .i64 a (rs.map fun r => r.2.1) ∧ Below w.heap.size w w'

set_option maxRecDepth 100000 in
set_option maxHeartbeats 2000000 in
theorem log_times (a : Option Addr) (n c : Nat) (rs : List R) (w : World) (hr : RowR w a rs) (hn : rs.length = n) (hnb : n ≤ 100000) :
    Calls Try.prog 21 #[.slice a n c] w (TimesPost w rs) := by
  have HN := Lib.hid hn
  clear hn
  obtain ⟨i0, hi, hz0, hz1, hz2⟩ := info_parts info_int
  have hmk : ∀ w, (Instr.makeSlice 49 (.int .i64 0) (.int .i64 n)).run Try.prog w = .ok (.slice (some ⟨w.heap.size, 0, none⟩) 0 n) (w.alloc (.cells (madeCells #[.int .i64 0] n) 3)) := by
    intro w
    have h := run_make (P := Try.prog) w 49 3 i0 (.int .i64 0) Try.underlying49 hi hz0 .i64 .i64 0 n (by omega) (by omega) (by rw [hz2]; omega) (by omega)
    rw [hz1, show (Value.int .i64 0).cells = #[.int .i64 0] from rfl] at h
    simpa using h
  have hsl0 : Sl w.heap.size (w.alloc (.cells (madeCells #[.int .i64 0] n) 3)) 1 (.slice (some ⟨w.heap.size, 0, none⟩) 0 n) 0 (iv []) := by
    have h := Sl.made (B := w.heap.size) w (madeCells #[.int .i64 0] n) 3 1 0 n (Nat.le_refl _) (Nat.zero_le _) (by unfold maxLen; omega) (by simp [madeCells])
    simpa [iv] using h
  have hbel : Below w.heap.size w (w.alloc (.cells (madeCells #[.int .i64 0] n) 3)) := (Below.refl _ _).alloc (Nat.le_refl _) _
  go_enter Try.func21, Try.ntmps21
  go_wp2
  go_loopw [3, 11] (fun v i wr => ∃ k : Nat, k ≤ n ∧ i = .int .i64 k ∧ Sl w.heap.size wr 1 v k (iv ((rs.take k).map fun r => r.2.1)) ∧ Below w.heap.size w wr) (fun _ i _ => n - (intOf i).toNat)
  case atStart => exact ⟨0, Nat.zero_le _, rfl, hsl0, hbel⟩
  case round =>
    obtain ⟨k, hk, rfl, hs, hbw⟩ := hrel
    by_cases hlt : k < n
    · have hk1 : k < rs.length := by rw [HN.out]; exact hlt
      obtain ⟨b1, o1, rfl, hb1, p0, p1, p2⟩ := (hr.on hbw).at_ k hk1
      have hS : (rs.take (k + 1)).map (fun r => r.2.1) = (rs.take k).map (fun r => r.2.1) ++ [rs[k].2.1] := by rw [List.take_succ_eq_append_getElem hk1, List.map_append]; rfl
      have HS := Lib.hid hS
      clear hS
      generalize rs[k] = r at *
      obtain ⟨k1, t1, x1⟩ := r
      simp only at p0 p1 p2
      clear hk1
      go_wp2_with (at_builtin; refine wpList_append_sl _ rfl (.tmp 15) (.tmp 18) 49 49 rfl 3 i0 (.int .i64 0) 8 Try.underlying49 hi hz0 hz1 hz2 rfl rfl ((hs.alloc _).alloc _) _ 1 [.int .i64 t1] rfl (src_oneN Try.underlying49 _ (.int .i64 t1) _ _ (by simp) rfl) (by unfold maxLen; omega) (by omega) (by have := hbw.size; simp; omega) ?_; intro v1 w1 k1' k2 k3)
      have hbx := ((hbw.alloc hbw.size (.cells #[.int .i64 k1, .int .i64 t1, .string (bstr x1)] 23)).alloc (by have := hbw.size; simp; omega) (.cells #[.int .i64 t1] 3)).upd k2 (by have := hbw.size; simp; omega) (fun i _ h => (hs.lt i h).1)
      refine ⟨⟨k + 1, by omega, by go_num, ?_, hbx⟩, by simp [intOf]; omega⟩
      rw [HS.out]
      show Sl w.heap.size w1 1 v1 (k + 1) (List.map _ (_ ++ [t1]))
      rw [List.map_append]
      exact k1'
    · obtain rfl : k = n := by omega
      have hall : rs.take k = rs := List.take_of_length_le (by rw [HN.out]; exact Nat.le_refl _)
      rw [hall] at hs
      obtain ⟨hk2, a1, c1, hv, hrow⟩ := rowi_of_sl hs (fun x hx => by
        obtain ⟨r, h1, rfl⟩ := List.mem_map.1 hx
        exact (hr.tm r h1).2)
      rw [List.length_map] at hv
      subst hv
      clear hall
      go_wp2
      go_ret
      exact ⟨a1, c1, rfl, hrow, hbw⟩
end Go.Proofs.Ytfgmbmpbgokolaa
