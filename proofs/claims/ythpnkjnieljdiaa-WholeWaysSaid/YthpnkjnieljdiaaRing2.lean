/- The ring laws' smaller calls: a push of whatever kind, rows that are the same, a part of a row that came in. -/
import Derived.Test.YthpnkjnieljdiaaRing
import Derived.Test.YthpnkjnieljdiaaSameI
namespace Go.Proofs.Ythpnkjnieljdiaa
open Go.ChangeShapes Go.WideShapes Go.ChangeAt Go.RowKit
open PRing
set_option linter.unusedVariables false
set_option linter.unusedSimpArgs false

theorem RPush.below {F : Nat → Prop} {g r B : Nat} {l : List Value} {a w w' : World} (h : RPush F g r l w w') (hb : Below B a w) (hB : B ≤ w.heap.size) (hF : ∀ k, F k → B ≤ k) : ∃ F', Ring w' F' g r l ∧ (∀ k, F' k → B ≤ k) ∧ Below B a w' ∧ Upd F w w' ∧ ∀ k, F' k → F k ∨ w.heap.size ≤ k := by
  obtain ⟨F', h1, h2, h3⟩ := h
  exact ⟨F', h1, fun k hk => (h3 k hk).elim (hF k) (fun h => by omega), hb.upd h2 hB (fun i _ hi => hF i hi), h2, h3⟩

/-- A push, of numbers: what goes, and whether. -/
theorem ri_push (F : Nat → Prop) (g r : Nat) (L : List Int) (x gone : Int) (is : Bool) (w : World) (h : Ring w F g r (iv L)) (h2 : r ≤ 1000) (hg : (L.length < r ∧ gone = 0 ∧ is = false) ∨ (r ≤ L.length ∧ L[0]? = some gone ∧ is = true)) :
    Calls Try.prog 36 #[.pointer (some ⟨g, 0, none⟩), .int .i64 x] w fun z w' => z = .returned (.tuple #[.int .i64 gone, .bool is]) ∧ RPush F g r (iv (push r L x)) w w' := by
  unfold push
  rcases hg with ⟨h1, rfl, rfl⟩ | ⟨h1, h3, rfl⟩
  · rw [if_pos h1, iv_snoc]
    exact ri_push_room F g r (iv L) x w h (by rw [iv_len]; exact h1) h2
  · rw [if_neg (by omega), iv_snoc, iv_drop]
    have hle := h.len
    rw [iv_len] at hle
    exact ri_push_full F g r (iv L) x (.int .i64 gone) w h (by rw [iv_len]; omega) (by simp [iv, h3]) h2

theorem RNew.below {g r : Nat} {w w' : World} (h : RNew g r w w') : Below w.heap.size w w' := h.2

end Go.Proofs.Ythpnkjnieljdiaa
