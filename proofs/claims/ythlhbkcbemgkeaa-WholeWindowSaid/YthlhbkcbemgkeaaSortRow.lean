/- The library's sort, at a row of the call's own. -/
import Derived.Test.YthlhbkcbemgkeaaShelf
import Derived.Test.YthlhbkcbemgkeaaRing2
import Derived.Test.YthlhbkcbemgkeaaHistL
namespace Go.Proofs.Ythlhbkcbemgkeaa
open Go.ChangeShapes Go.WideShapes Go.ChangeAt Go.RowKit
open PHist
set_option linter.unusedVariables false
set_option linter.unusedSimpArgs false

theorem merge_srt (l : List Int) : (l.mergeSort fun x y => decide (x ≤ y)) = srt l := by
  refine sorted_eq ?_ (srt_sorted l) ((List.mergeSort_perm l _).trans (srt_perm l).symm)
  have := List.pairwise_mergeSort (le := fun x y : Int => decide (x ≤ y)) (fun a b c h1 h2 => by simp at *; omega) (fun a b => by simp; omega) l
  simpa using this

theorem upd_put (w : World) (n : Nat) (b off : Nat) (d : Array Int) (os : Array Obj) : Upd (fun k => k = b) w (Sort.grow (Sort.putRow (Value.int .i64) (Sort.ahead w n) b off d) os) := by
  refine ⟨rfl, rfl, rfl, by simp [Sort.grow, Sort.putRow, Sort.mapBlock, Sort.ahead], fun k hk hn => ?_⟩
  have hn' : ¬ b = k := fun e => hn e.symm
  rw [Sort.heap_grow_old _ _ (by simpa [Sort.putRow, Sort.mapBlock, Sort.ahead] using hk)]
  simp [Sort.putRow, Sort.mapBlock, Sort.ahead, Array.getElem?_modify, hn']

theorem sort_row {B : Nat} (w : World) (v : Value) (L : List Int) (h : Sl B w 1 v L.length (iv L)) (h0 : 0 < L.length) (hs : L.length ≤ 1000) (hb : ∀ x ∈ L, -9223372036854775808 ≤ x ∧ x ≤ 9223372036854775807) :
    ∃ a c, v = .slice a L.length c ∧ Calls Try.prog 29 #[.slice a L.length c] w fun e w' => e = .returned (.tuple #[]) ∧ RowI w' .i64 a (srt L) ∧ Below B w w' := by
  have hl := srt_len L
  rcases h.2 with ⟨_, h1⟩ | ⟨g, off, cap, rfl, hg, hgw, h1, h2, h3, h4⟩
  · omega
  refine ⟨some ⟨g, off, none⟩, cap, rfl, ?_⟩
  have hH : Sort.Holds (Value.int .i64) w g off L.toArray := fun j hj => by
    have hj' : j < L.length := by simpa using hj
    refine ⟨?_, (h4 j (by omega)).2⟩
    rw [h3 j (by omega)]
    simp [iv, hj']
  refine (Try.slices_Sort_int g off cap L w hH hgw (by omega)).mono ?_
  rintro e w' ⟨rfl, n, os, rfl⟩
  rw [merge_srt]
  have hu := upd_put w n g off (srt L).toArray os
  refine ⟨rfl, ⟨by unfold maxLen; omega, fun i hi => ⟨g, off, rfl, Nat.lt_of_lt_of_le hgw hu.size, ?_⟩, fun x hx => ?_⟩, hu.below (by omega) (fun k _ hk => by omega)⟩
  · have hgs : g < (Sort.putRow (Value.int .i64) (Sort.ahead w n) g off (srt L).toArray).heap.size := by simpa [Sort.putRow, Sort.mapBlock, Sort.ahead] using hgw
    rw [Sort.cell?_grow _ _ _ hgs, Sort.cell?_putRow (Value.int .i64) (Sort.ahead w n) g off L.toArray (srt L).toArray hH (by simp [hl]) i (by simpa using hi)]
    simp [hi]
  · have := hb x ((srt_mem x L).1 hx)
    simp [Lit.wf, IntKind.min, IntKind.max, IntKind.bits, IntKind.signed]; omega
end Go.Proofs.Ythlhbkcbemgkeaa
