/- Slices of ints of the call's own. -/
import Derived.Test.YthpnkjnieljdiaaBase
import Derived.Laws.MakeOwn
namespace Go.Proofs.Ythpnkjnieljdiaa
open Go.ChangeShapes Go.WideShapes Go.ChangeAt Go.RowKit
set_option linter.unusedVariables false
set_option linter.unusedSimpArgs false

theorem info_int : (Try.prog.info? 3).map (fun i => (i.zero, i.size, i.bytes)) = some (some (.int .i64 0), 1, 8) := by kernel_rfl
def iv (l : List Int) : List Value := l.map fun n => Value.int .i64 n
theorem iv_len (l : List Int) : (iv l).length = l.length := List.length_map _

theorem rowi_of_sl {B : Nat} {w : World} {v : Value} {n : Nat} {l : List Int} (h : Sl B w 1 v n (iv l)) (hb : ∀ x ∈ l, -9223372036854775808 ≤ x ∧ x ≤ 9223372036854775807) : n = l.length ∧ ∃ a c, v = .slice a l.length c ∧ RowI w .i64 a l := by
  have hl := h.1
  rw [iv_len] at hl
  have hn : n = l.length := by omega
  subst hn
  have hm := h.len
  have hwf : ∀ x ∈ l, (Lit.int .i64 x).wf = true := fun x hx => by have := hb x hx; simp [Lit.wf, IntKind.min, IntKind.max, IntKind.bits, IntKind.signed]; omega
  refine ⟨rfl, ?_⟩
  rcases h.2 with ⟨rfl, h0⟩ | ⟨g, off, cap, rfl, hb, hg, h1, h2, h3, h4⟩
  · rw [h0]
    exact ⟨_, _, rfl, by omega, fun i hi => by omega, hwf⟩
  · refine ⟨_, _, rfl, hm, fun i hi => ⟨g, off, rfl, hg, ?_⟩, hwf⟩
    rw [h3 i (by omega)]
    simp [iv, hi]

theorem src_oneN {P : Program} {tx e' : TypeId} (hk : P.underlying tx = some (.slice e')) (w : World) (u : Value) (e : TypeId) (N : Nat) (hN : w.heap.size = N) (hu : u.oneCell' = true) : Src P 1 tx (.slice (some ⟨N, 0, none⟩) 1 1) 1 [u] (w.alloc (.cells #[u] e)) := by
  subst hN
  exact src_one hk w u e hu

/-- A row of ints, as what an append takes. -/
theorem src_ints {P : Program} {tx e' : TypeId} (hk : P.underlying tx = some (.slice e')) (w : World) (a : Option Addr) (n c : Nat) (l : List Int) (h : RowI w .i64 a l) (hn : l.length = n) : Src P 1 tx (.slice a n c) n (iv l) w := by
  subst hn
  cases a with
  | none =>
    have h0 : l = [] := by
      cases l with
      | nil => rfl
      | cons r rs => obtain ⟨b, off, h1, _⟩ := h.at_ 0 (by simp); cases h1
    subst h0
    exact Src.ofNil w hk c
  | some ad =>
    refine Src.ofSlice w hk ad l.length c (iv l) (by rw [iv_len]; omega) (fun j u hu => ?_) (fun u hu => ?_)
    · have hj := (List.getElem?_eq_some_iff.1 hu).1
      rw [iv_len] at hj
      obtain ⟨b, off, h1, _, c0⟩ := h.at_ j hj
      cases h1
      rw [Addr.add_lit, c0, ← hu]
      simp [iv, hj]
    · obtain ⟨x, _, rfl⟩ := List.mem_map.1 hu
      rfl
/-- A new row of n noughts, of which none count as yet. -/
theorem make_ints (n : Nat) (hn : n ≤ 1000000) (w : World) : (Instr.makeSlice 37 (.int .i64 0) (.int .i64 n)).run Try.prog w = .ok (.slice (some ⟨w.heap.size, 0, none⟩) 0 n) (w.alloc (.cells (madeCells #[.int .i64 0] n) 3)) := by
  obtain ⟨i0, hi, hz0, hz1, hz2⟩ := info_parts info_int
  have h := run_make (P := Try.prog) w 37 3 i0 (.int .i64 0) Try.underlying37 hi hz0 .i64 .i64 0 n (by omega) (by omega) (by rw [hz2]; omega) (by omega)
  rw [hz1, show (Value.int .i64 0).cells = #[.int .i64 0] from rfl] at h
  simpa using h
end Go.Proofs.Ythpnkjnieljdiaa
