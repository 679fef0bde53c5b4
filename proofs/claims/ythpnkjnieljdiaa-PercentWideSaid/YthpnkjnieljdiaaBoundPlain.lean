/- Plain facts on how far time has come, by the greatest and a bound. -/
import Derived.Test.YthpnkjnieljdiaaSatPlain
import Derived.Test.YthpnkjnieljdiaaClampPlain
namespace Go.Proofs.Ythpnkjnieljdiaa
namespace PBound
open PSat PClamp

def after (m b : Int) : Int := sub (sub m b) 1
theorem after_in (m b : Int) : inR (after m b) := sub_in _ _
theorem after_mono {m m' : Int} (b : Int) (h : m ≤ m') : after m b ≤ after m' b := sub_mono 1 (sub_mono b h)
theorem after_never {b : Int} (hb : 0 ≤ b) : after (-9223372036854775808) b = -9223372036854775808 := by
  unfold after sub clampI
  (repeat' split) <;> omega
/-- None is too late. -/
theorem after_lt {m b t : Int} (h1 : sub m b ≤ t) (h2 : -9223372036854775808 < t) : after m b < t := by
  have h := sub_in m b
  unfold inR at h
  unfold after
  generalize sub m b = s at *
  unfold sub clampI
  (repeat' split) <;> omega
/-- How far time has come by a row: by the greatest of what each alone comes to. -/
theorem after_most {b : Int} (hb : 0 ≤ b) (l : List Int) : most (-9223372036854775808) (l.map fun t => after t b) = after (most (-9223372036854775808) l) b := by
  have := most_map (fun t => after t b) (fun x y h => after_mono b h) l (-9223372036854775808)
  rwa [after_never hb] at this
/-- One more: the greater of both. -/
theorem after_up (m t b : Int) : (if after m b < after t b then after t b else after m b) = after (if m < t then t else m) b := by
  by_cases h : m < t
  · have := after_mono b (Int.le_of_lt h)
    rw [if_pos h]
    split <;> omega
  · have := after_mono b (show t ≤ m by omega)
    rw [if_neg h]
    split <;> omega
theorem most_rev (m : Int) (l : List Int) : most m l.reverse = most m l := most_congr (fun _ => List.mem_reverse)
end PBound
end Go.Proofs.Ythpnkjnieljdiaa
