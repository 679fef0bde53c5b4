/- percent, record by record. -/
import Derived.Test.YthpnkjnieljdiaaPer3
import Derived.Test.YthpnkjnieljdiaaSameI
import Derived.Test.YthpnkjnieljdiaaPerRef
namespace Go.Proofs.Ythpnkjnieljdiaa
open Go.ChangeShapes Go.WideShapes Go.ChangeAt Go.RowKit
open PHist PRing PSat PClamp PBound
set_option linter.unusedVariables false
set_option linter.unusedSimpArgs false

/-- Such a way behind the first k of a row. -/
def PerAt (w : World) (S : Nat → Prop) (g p win : Nat) (l : List Int) (k : Nat) : Prop := PerC w S g p (most (-9223372036854775808) (l.take k)) (nowTo p win l k) win (kept win (l.take k))
def AtPost (S : Nat → Prop) (g p win : Nat) (l : List Int) (k : Nat) (w w' : World) : Prop := PPost S g p (most (-9223372036854775808) (l.take k)) (nowTo p win l k) win (kept win (l.take k)) w w'
theorem PerAt.upd {S T : Nat → Prop} {w w' : World} {g p win : Nat} {l : List Int} {k : Nat} (h : PerAt w S g p win l k) (hu : Upd T w w') (hn : ∀ k, S k → ¬ T k) : PerAt w' S g p win l k := PerC.upd h hu hn
theorem PerAt.on {S : Nat → Prop} {w w' : World} {g p win : Nat} {l : List Int} {k : Nat} (h : PerAt w S g p win l k) (hb : Below w.heap.size w w') : PerAt w' S g p win l k := PerC.on h hb
theorem PerAt.drew {S : Nat → Prop} {w : World} {g p win : Nat} {l : List Int} {k : Nat} (h : PerAt w S g p win l k) : PerAt w.drew S g p win l k := PerC.drew h
theorem PerAt.drewN {S : Nat → Prop} {w : World} {g p win : Nat} {l : List Int} {k : Nat} (h : PerAt w S g p win l k) (n : Nat) : PerAt (w.drewN n) S g p win l k := PerC.drewN h n
theorem PerAt.alloc {S : Nat → Prop} {w : World} {g p win : Nat} {l : List Int} {k : Nat} (h : PerAt w S g p win l k) (o : Obj) : PerAt (w.alloc o) S g p win l k := PerC.alloc h o
theorem PerAt.lt {S : Nat → Prop} {w : World} {g p win : Nat} {l : List Int} {k : Nat} (h : PerAt w S g p win l k) : ∀ k, S k → k < w.heap.size := PerC.lt h
theorem PerAt.mem {S : Nat → Prop} {w : World} {g p win : Nat} {l : List Int} {k : Nat} (h : PerAt w S g p win l k) : S g := PerC.mem h
theorem perAt_zero {w : World} {S : Nat → Prop} {g p win : Nat} (l : List Int) (h : PerC w S g p (-9223372036854775808) (-9223372036854775808) win []) : PerAt w S g p win l 0 := by
  unfold PerAt
  simpa [kept, lagsAll, lagsOf, last, most, nowTo] using h

theorem pc_next (S : Nat → Prop) (g p win : Nat) (l : List Int) (k : Nat) (hk : k < l.length) (hb : ∀ x ∈ l, -9223372036854775808 ≤ x ∧ x ≤ 9223372036854775807) (kd : Int) (s : ByteArray) (w : World) (h : PerAt w S g p win l k) (hp : p ≤ 100) (h1 : 1 ≤ win) (hwin : win ≤ 255) :
    Calls Try.prog 17 #[.pointer (some ⟨g, 0, none⟩), .agg #[.int .i64 kd, .int .i64 l[k], .string s]] w fun e w' => e = .returned (.tuple #[]) ∧ AtPost S g p win l (k + 1) w w' := by
  have hm := most_in64 (l.take k) (fun x hx => hb x (List.mem_of_mem_take hx))
  have ht := most_take l (-9223372036854775808) k hk
  exact pc_seen S g p _ _ win _ kd l[k] s w h hp hwin hm (hb _ (List.getElem_mem hk)) _ _ _ _ _ _ ht.symm rfl (kept_next win h1 l k hk) rfl (pick_in (kept_in win _)) rfl rfl
theorem pc_at_lag (S : Nat → Prop) (g p win : Nat) (l : List Int) (k : Nat) (w : World) (h : PerAt w S g p win l k) (hp : p ≤ 100) (hwin : win ≤ 255) :
    Calls Try.prog 18 #[.pointer (some ⟨g, 0, none⟩)] w fun e w' => e = .returned (.int .i64 (pick (kept win (l.take k)) p)) ∧ Below w.heap.size w w' :=
  pc_lag S g p p _ _ win _ _ w h rfl hp hwin rfl
theorem pc_at_now (S : Nat → Prop) (g p win : Nat) (l : List Int) (k : Nat) (w : World) (h : PerAt w S g p win l k) :
    Calls Try.prog 13 #[.pointer (some ⟨g, 0, none⟩)] w fun e w' => e = .returned (.int .i64 (nowTo p win l k)) ∧ w = w' :=
  pc_now S g p _ _ win _ w h
theorem AtPost.below {S : Nat → Prop} {g p win B : Nat} {l : List Int} {k : Nat} {a w w' : World} (h : AtPost S g p win l k w w') (hb : Below B a w) (hB : B ≤ w.heap.size) (hS : ∀ k, S k → B ≤ k) :
    ∃ S', PerAt w' S' g p win l k ∧ (∀ k, S' k → B ≤ k) ∧ Below B a w' ∧ Upd S w w' ∧ ∀ k, S' k → S k ∨ w.heap.size ≤ k := PPost.below h hb hB hS
end Go.Proofs.Ythpnkjnieljdiaa
