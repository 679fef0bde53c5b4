/- Plain facts on sums that stay within 64 bits. -/
namespace Go.Proofs.Ythpnkjnieljdiaa
namespace PSat
def lo : Int := -9223372036854775808
def hi : Int := 9223372036854775807
def inR (n : Int) : Prop := -9223372036854775808 ≤ n ∧ n ≤ 9223372036854775807
def clampI (n : Int) : Int := if n < -9223372036854775808 then -9223372036854775808 else if 9223372036854775807 < n then 9223372036854775807 else n
def add (a b : Int) : Int := clampI (a + b)
def sub (a b : Int) : Int := clampI (a - b)
theorem clamp_in (n : Int) : inR (clampI n) := by unfold clampI inR; split <;> (try split) <;> omega
theorem add_in (a b : Int) : inR (add a b) := clamp_in _
theorem sub_in (a b : Int) : inR (sub a b) := clamp_in _
theorem add_mono {a b : Int} (c : Int) (h : a ≤ b) : add a c ≤ add b c := by unfold add clampI; (repeat' split) <;> omega
theorem sub_mono {a b : Int} (c : Int) (h : a ≤ b) : sub a c ≤ sub b c := by unfold sub clampI; (repeat' split) <;> omega
theorem sub_anti {a b : Int} (c : Int) (h : a ≤ b) : sub c b ≤ sub c a := by unfold sub clampI; (repeat' split) <;> omega
theorem add_comm (a b : Int) : add a b = add b a := by unfold add; rw [Int.add_comm]
def sum (l : List Int) : Int := l.foldl add 0
theorem sum_in (l : List Int) : inR (sum l) := by
  have h : ∀ (l : List Int) (z : Int), inR z → inR (l.foldl add z) := by
    intro l
    induction l with
    | nil => intro z hz; exact hz
    | cons x l ih => intro z _; exact ih _ (add_in _ _)
  exact h l 0 (by unfold inR; omega)
theorem sum_take (l : List Int) (k : Nat) (h : k < l.length) : sum (l.take (k + 1)) = add (sum (l.take k)) l[k] := by
  unfold sum
  rw [List.take_succ_eq_append_getElem h, List.foldl_append]
  rfl
end PSat
end Go.Proofs.Ythpnkjnieljdiaa
