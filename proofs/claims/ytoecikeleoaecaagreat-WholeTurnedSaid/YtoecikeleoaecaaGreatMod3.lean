/- Contracts of the model's calls: by when a partition is silent. -/
import Derived.Test.YtoecikeleoaecaaGreatMod2
namespace Go.Proofs.YtoecikeleoaecaaGreat
set_option maxRecDepth 4000
open Go.ChangeShapes Go.WideShapes Go.ChangeAt Go.RowKit
open PHist PRing PSat PClamp PBound PFrame PSign PTree PEv
set_option linter.unusedVariables false
set_option linter.unusedSimpArgs false

set_option maxHeartbeats 2000000 in
theorem mo_deadline (g : Nat) (ru pv : Value) (t d k m : Int) (w : World) (h : At w g [ru, .int .i64 t, .int .i64 d, pv, .int .i64 k, .int .i64 m]) (hk : in64 k) (ht : in64 t) :
    Calls Tryz.prog 78 #[.pointer (some ⟨g, 0, none⟩)] w fun e w' => e = .returned (.int .i64 (add k t)) ∧ Below w.heap.size w w' := by
  have HA := fun w' => Lib.hid (sat_add k t w' hk ht)
  have h1 : w.cell? ⟨g, 1, none⟩ = some (.int .i64 t) := (h.2 1 (by simp)).1
  have h4 : w.cell? ⟨g, 4, none⟩ = some (.int .i64 k) := (h.2 4 (by simp)).1
  have hg := h.1
  clear h
  go_enter Tryz.func78, Tryz.ntmps78
  go_wp2_with fail
  go_quiet ((go_at_call 124; refine (HA _).out.mono ?_; rintro e9 wq ⟨rfl, rfl⟩; exact ⟨rfl, _, rfl⟩))
  all_goals (go_wp2_with fail; go_ret)
  all_goals exact ⟨rfl, on_quiet ⟨_, rfl⟩⟩
end Go.Proofs.YtoecikeleoaecaaGreat
