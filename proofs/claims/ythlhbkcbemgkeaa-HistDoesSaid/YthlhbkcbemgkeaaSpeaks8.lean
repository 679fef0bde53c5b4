/- The laws of hist: three numbers. -/
import Derived.Test.YthlhbkcbemgkeaaHistL
import Derived.Test.YthlhbkcbemgkeaaHistRef
namespace Go.Proofs.Ythlhbkcbemgkeaa
open Go.ChangeShapes Go.WideShapes Go.ChangeAt Go.RowKit
open PHist
set_option linter.unusedVariables false
set_option linter.unusedSimpArgs false

set_option maxHeartbeats 1000000 in
theorem speaks8 (w : World) : Calls Try.prog 20 #[] w fun e w' => e = .returned (.bool true) ∧ Below w.heap.size w w' := by
  have h0 := HistL.zero w 42
  have b0 : Below w.heap.size w (w.alloc (.cells #[.slice none 0 0, .int .i64 0] 42)) := ((Upd.refl (fun _ => False) w).alloc _).below (Nat.le_refl _) (fun _ _ h => h.elim)
  have s66 : (srt [1, 5, 1])[prank ([1, 5, 1] : List Int).length 66 - 1]? = some 1 := by decide
  have s67 : (srt [1, 5, 1])[prank ([1, 5, 1] : List Int).length 67 - 1]? = some 5 := by decide
  have P66 : ∀ F g w, HistL w F g [1, 5, 1] → Calls Try.prog 27 #[.pointer (some ⟨g, 0, none⟩), .int .i64 66] w fun e w' => e = .returned (.tuple #[.int .i64 1, .bool true]) ∧ Below w.heap.size w w' := fun F g w h => hl_percent F g _ 66 66 rfl _ 1 true w h (by simp) (by omega) s66 rfl rfl
  have P67 : ∀ F g w, HistL w F g [1, 5, 1] → Calls Try.prog 27 #[.pointer (some ⟨g, 0, none⟩), .int .i64 67] w fun e w' => e = .returned (.tuple #[.int .i64 5, .bool true]) ∧ Below w.heap.size w w' := fun F g w h => hl_percent F g _ 67 67 rfl _ 5 true w h (by simp) (by omega) s67 rfl rfl
  have PL : ∀ F g w, HistL w F g [1, 5, 1] → Calls Try.prog 24 #[.pointer (some ⟨g, 0, none⟩)] w fun e w' => e = .returned (.int .i64 3) ∧ w = w' := fun F g w h => hl_len F g _ w h
  clear s66 s67
  go_enter Try.func20, Try.ntmps20
  go_wp2_with (go_at_call 23; with_reducible refine (hl_add _ _ [] 1 _ h0 (by simp)).mono ?_; rintro e w2 ⟨rfl, p2⟩; obtain ⟨F2, hr2, f2, b2, _⟩ := p2.below b0 b0.size (fun k hk => by omega))
  go_wp2_with (go_at_call 23; with_reducible refine (hl_add _ _ [1] 5 _ hr2 (by simp)).mono ?_; rintro e w3 ⟨rfl, p3⟩; obtain ⟨F3, hr3, f3, b3, _⟩ := p3.below b2 b2.size f2)
  go_wp2_with (go_at_call 23; with_reducible refine (hl_add _ _ [5, 1] 1 _ hr3 (by simp)).mono ?_; rintro e w4 ⟨rfl, p4⟩; obtain ⟨F4, hr4, f4, b4, _⟩ := p4.below b3 b3.size f3)
  go_wp2_with (go_at_call 27; with_reducible refine (P66 _ _ _ hr4).mono ?_; rintro e w5 ⟨rfl, b5⟩; have hr5 := hr4.below b5; have hb5 := b4.trans (b5.mono b4.size))
  go_wp2_with (first | (go_at_call 27; with_reducible refine (P67 _ _ _ hr5).mono ?_; rintro e w6 ⟨rfl, b6⟩; have hr6 := hr5.below b6; have hb6 := hb5.trans (b6.mono hb5.size)) | (go_at_call 24; with_reducible refine (PL _ _ _ hr6).mono ?_; rintro e w7 ⟨rfl, rfl⟩))
  go_ret
  exact ⟨rfl, hb6⟩
end Go.Proofs.Ythlhbkcbemgkeaa
