/- Plain facts on sums that stay within 64 bits. -/
import Derived.Test.YtmimfkhkilijcaaGreatRows
import Derived.Test.YtmimfkhkilijcaaGreatKBase
import Derived.WalkKit
import Derived.ProofKit
import Derived.OpenShut
import Derived.Handy
import Derived.BigQuiet
import Derived.Deep.QuietTactic
import Derived.IntWalk
import Derived.Outline
import Derived.Lib.Hide
import Derived.BigRegion
import Derived.WalkLawsBesides
import Derived.Deep.RegionHeld3
import Derived.Deep.RegionWith
namespace Go.Proofs.YtmimfkhkilijcaaGreat
set_option maxRecDepth 4000
namespace PSat
def lo : Int := -9223372036854775808
def hi : Int := 9223372036854775807
def inR (n : Int) : Prop := -9223372036854775808 ≤ n ∧ n ≤ 9223372036854775807
def clampI (n : Int) : Int := if n < -9223372036854775808 then -9223372036854775808 else if 9223372036854775807 < n then 9223372036854775807 else n
def add (a b : Int) : Int := clampI (a + b)
def sub (a b : Int) : Int := clampI (a - b)
theorem clamp_in (n : Int) : inR (clampI n) := by unfold clampI inR; split <;> (try split) <;> omega
theorem add_in (a b : Int) : inR (add a b) := clamp_in _
theorem sub_in (a b : Int) : inR (sub a b) := clamp_in _
theorem add_mono {a b : Int} (c : Int) (h : a ≤ b) : add a c ≤ add b c := by unfold add clampI; (repeat' split) <;> omega
theorem sub_mono {a b : Int} (c : Int) (h : a ≤ b) : sub a c ≤ sub b c := by unfold sub clampI; (repeat' split) <;> omega
theorem sub_anti {a b : Int} (c : Int) (h : a ≤ b) : sub c b ≤ sub c a := by unfold sub clampI; (repeat' split) <;> omega
theorem add_comm (a b : Int) : add a b = add b a := by unfold add; rw [Int.add_comm]
def sum (l : List Int) : Int := l.foldl add 0
theorem sum_in (l : List Int) : inR (sum l) := by
  have h : ∀ (l : List Int) (z : Int), inR z → inR (l.foldl add z) := by
    intro l
    induction l with
    | nil => intro z hz; exact hz
    | cons x l ih => intro z _; exact ih _ (add_in _ _)
  exact h l 0 (by unfold inR; omega)
theorem sum_take (l : List Int) (k : Nat) (h : k < l.length) : sum (l.take (k + 1)) = add (sum (l.take k)) l[k] := by
  unfold sum
  rw [List.take_succ_eq_append_getElem h, List.foldl_append]
  rfl
end PSat
end Go.Proofs.YtmimfkhkilijcaaGreat

/- Contracts of sat's calls: differences alone. -/
namespace Go.Proofs.YtmimfkhkilijcaaGreat
set_option maxRecDepth 4000
open Go.ChangeShapes Go.WideShapes Go.ChangeAt Go.RowKit
open PSat

set_option maxHeartbeats 400000 in
theorem ref_add (a b : Int) (w : World) (ha : -9223372036854775808 ≤ a ∧ a ≤ 9223372036854775807) (hb : -9223372036854775808 ≤ b ∧ b ≤ 9223372036854775807) :
    Calls Tryz.prog 58 #[.int .i64 a, .int .i64 b] w fun e w' => e = .returned (.int .i64 (add a b)) ∧ w = w' := by
  obtain ⟨ha1, ha2⟩ := ha
  obtain ⟨hb1, hb2⟩ := hb
  go_enter Tryz.func58, Tryz.ntmps58
  go_wp2
  all_goals go_ret
  all_goals refine ⟨ret_int ?_, rfl⟩
  all_goals (unfold add clampI; (repeat' split) <;> omega)

set_option maxHeartbeats 400000 in
theorem sat_sub (a b : Int) (w : World) (ha : -9223372036854775808 ≤ a ∧ a ≤ 9223372036854775807) (hb : -9223372036854775808 ≤ b ∧ b ≤ 9223372036854775807) :
    Calls Tryz.prog 68 #[.int .i64 a, .int .i64 b] w fun e w' => e = .returned (.int .i64 (sub a b)) ∧ w = w' := by
  obtain ⟨ha1, ha2⟩ := ha
  obtain ⟨hb1, hb2⟩ := hb
  go_enter Tryz.func68, Tryz.ntmps68
  go_wp2
  all_goals go_ret
  all_goals refine ⟨ret_int ?_, rfl⟩
  all_goals (unfold sub clampI; (repeat' split) <;> omega)

set_option maxHeartbeats 400000 in
theorem ref_sub (a b : Int) (w : World) (ha : -9223372036854775808 ≤ a ∧ a ≤ 9223372036854775807) (hb : -9223372036854775808 ≤ b ∧ b ≤ 9223372036854775807) :
    Calls Tryz.prog 59 #[.int .i64 a, .int .i64 b] w fun e w' => e = .returned (.int .i64 (sub a b)) ∧ w = w' := by
  obtain ⟨ha1, ha2⟩ := ha
  obtain ⟨hb1, hb2⟩ := hb
  by_cases h : b = -9223372036854775808
  · subst h
    go_enter Tryz.func59, Tryz.ntmps59
    go_wp2
    all_goals go_ret
    all_goals refine ⟨ret_int ?_, rfl⟩
    all_goals (unfold sub clampI; (repeat' split) <;> omega)
  · have h2 : -9223372036854775808 < b := by omega
    go_enter Tryz.func59, Tryz.ntmps59
    go_wp2_with (go_at_call 58; refine (ref_add _ _ _ (by omega) (by omega)).mono ?_; rintro e w' ⟨rfl, rfl⟩)
    all_goals go_ret
    all_goals refine ⟨ret_int ?_, rfl⟩
    all_goals (unfold sub add clampI; (repeat' split) <;> omega)

end Go.Proofs.YtmimfkhkilijcaaGreat

/- Plain facts on numbers that only rise, and on the greatest of a row. -/
namespace Go.Proofs.YtmimfkhkilijcaaGreat
set_option maxRecDepth 4000
namespace PClamp
set_option linter.unusedVariables false

/-- Those of a row that are above all ahead of them, and above m. -/
def rise (m : Int) : List Int → List Int
  | [] => []
  | x :: l => if m < x then x :: rise x l else rise m l
/-- The greatest of m and a row. -/
def most (m : Int) : List Int → Int
  | [] => m
  | x :: l => most (if m < x then x else m) l

theorem most_snoc : ∀ (l : List Int) (m x : Int), most m (l ++ [x]) = if most m l < x then x else most m l
  | [], _, _ => rfl
  | y :: l, m, x => most_snoc l _ x
theorem most_ge : ∀ (l : List Int) (m : Int), m ≤ most m l
  | [], m => Int.le_refl m
  | y :: l, m => by
    have := most_ge l (if m < y then y else m)
    unfold most
    split at this <;> split <;> omega
theorem most_mem : ∀ (l : List Int) (m : Int), ∀ x ∈ l, x ≤ most m l
  | y :: l, m, x, h => by
    have h1 := most_ge l (if m < y then y else m)
    unfold most
    rcases List.mem_cons.1 h with rfl | h
    · split at h1 <;> split <;> omega
    · exact most_mem l _ x h
theorem most_in : ∀ (l : List Int) (m : Int), most m l = m ∨ most m l ∈ l
  | [], m => .inl rfl
  | y :: l, m => by
    unfold most
    by_cases h : m < y
    · rw [if_pos h]
      rcases most_in l y with e | e
      · right; rw [e]; exact List.mem_cons_self ..
      · exact .inr (List.mem_cons_of_mem _ e)
    · rw [if_neg h]
      rcases most_in l m with e | e
      · exact .inl e
      · exact .inr (List.mem_cons_of_mem _ e)
/-- It is the one that is there, or m, and no less than any. -/
theorem most_eq {l : List Int} {m z : Int} (h1 : z = m ∨ z ∈ l) (h2 : m ≤ z) (h3 : ∀ x ∈ l, x ≤ z) : most m l = z := by
  have a := most_ge l m
  have b : most m l ≤ z := by
    rcases most_in l m with e | e
    · omega
    · exact h3 _ e
  rcases h1 with rfl | h
  · omega
  · have := most_mem l m z h; omega
theorem most_congr {l l' : List Int} {m : Int} (h : ∀ x, x ∈ l ↔ x ∈ l') : most m l = most m l' := by
  refine most_eq ?_ (most_ge l' m) (fun x hx => most_mem l' m x ((h x).1 hx))
  rcases most_in l' m with e | e
  · exact .inl e
  · exact .inr ((h _).2 e)
/-- A function that doesn't fall. -/
theorem most_map (f : Int → Int) (hf : ∀ a b, a ≤ b → f a ≤ f b) (l : List Int) (m : Int) : most (f m) (l.map f) = f (most m l) := by
  refine most_eq ?_ (hf _ _ (most_ge l m)) (fun x hx => ?_)
  · rcases most_in l m with e | e
    · exact .inl (by rw [e])
    · exact .inr (List.mem_map_of_mem e)
  · obtain ⟨y, hy, rfl⟩ := List.mem_map.1 hx
    exact hf _ _ (most_mem l m y hy)

theorem rise_snoc : ∀ (l : List Int) (m x : Int), rise m (l ++ [x]) = rise m l ++ (if most m l < x then [x] else [])
  | [], m, x => by
    show (if m < x then x :: rise x [] else rise m []) = [] ++ (if most m [] < x then [x] else [])
    by_cases h : m < x
    · rw [if_pos h, if_pos (show most m [] < x from h)]; rfl
    · rw [if_neg h, if_neg (show ¬ most m [] < x from h)]; rfl
  | y :: l, m, x => by
    show (if m < y then y :: rise y (l ++ [x]) else rise m (l ++ [x])) = _
    by_cases h : m < y
    · rw [if_pos h, rise_snoc l y x]
      show _ = (if m < y then y :: rise y l else rise m l) ++ (if most (if m < y then y else m) l < x then [x] else [])
      rw [if_pos h, if_pos h]; rfl
    · rw [if_neg h, rise_snoc l m x]
      show _ = (if m < y then y :: rise y l else rise m l) ++ (if most (if m < y then y else m) l < x then [x] else [])
      rw [if_neg h, if_neg h]
theorem rise_above : ∀ (l : List Int) (m : Int), ∀ x ∈ rise m l, m < x
  | y :: l, m, x, h => by
    unfold rise at h
    by_cases hy : m < y
    · rw [if_pos hy] at h
      rcases List.mem_cons.1 h with rfl | h
      · exact hy
      · have := rise_above l y x h; omega
    · rw [if_neg hy] at h
      exact rise_above l m x h
theorem rise_sorted : ∀ (l : List Int) (m : Int), (rise m l).Pairwise (· < ·)
  | [], _ => List.Pairwise.nil
  | y :: l, m => by
    unfold rise
    split
    · exact List.pairwise_cons.2 ⟨fun z hz => rise_above l y z hz, rise_sorted l y⟩
    · exact rise_sorted l m
theorem rise_same : ∀ (l : List Int) (m : Int), (∀ x ∈ l, m < x) → l.Pairwise (· < ·) → rise m l = l
  | [], _, _, _ => rfl
  | y :: l, m, h, hs => by
    have hc := List.pairwise_cons.1 hs
    unfold rise
    rw [if_pos (h y (List.mem_cons_self ..)), rise_same l y hc.1 hc.2]
/-- What rose rises again, all of it. -/
theorem rise_rise (l : List Int) (m : Int) : rise m (rise m l) = rise m l := rise_same _ m (rise_above l m) (rise_sorted l m)
theorem rise_mem : ∀ (l : List Int) (m : Int), ∀ x ∈ rise m l, x ∈ l
  | y :: l, m, x, h => by
    unfold rise at h
    split at h
    · rcases List.mem_cons.1 h with rfl | h
      · exact List.mem_cons_self ..
      · exact List.mem_cons_of_mem _ (rise_mem l _ x h)
    · exact List.mem_cons_of_mem _ (rise_mem l _ x h)
theorem rise_len : ∀ (l : List Int) (m : Int), (rise m l).length ≤ l.length
  | [], _ => Nat.le_refl _
  | y :: l, m => by
    unfold rise
    split
    · have := rise_len l y; simp; omega
    · have := rise_len l m; simp; omega
/-- The last that rose is the greatest. -/
theorem rise_last : ∀ (l : List Int) (m : Int), (rise m l).getLastD m = most m l
  | [], _ => rfl
  | y :: l, m => by
    unfold rise most
    by_cases h : m < y
    · rw [if_pos h, if_pos h, ← rise_last l y]
      cases rise y l with
      | nil => rfl
      | cons a b => rfl
    · rw [if_neg h, if_neg h]
      exact rise_last l m
theorem most_take (l : List Int) (m : Int) (k : Nat) (h : k < l.length) : most m (l.take (k + 1)) = if most m (l.take k) < l[k] then l[k] else most m (l.take k) := by
  rw [List.take_succ_eq_append_getElem h, most_snoc]
theorem rise_take (l : List Int) (m : Int) (k : Nat) (h : k < l.length) : rise m (l.take (k + 1)) = rise m (l.take k) ++ (if most m (l.take k) < l[k] then [l[k]] else []) := by
  rw [List.take_succ_eq_append_getElem h, rise_snoc]
end PClamp
end Go.Proofs.YtmimfkhkilijcaaGreat

/- clamp: contracts of its calls. -/
namespace Go.Proofs.YtmimfkhkilijcaaGreat
set_option maxRecDepth 4000
open Go.ChangeShapes Go.WideShapes Go.ChangeAt Go.RowKit
open PClamp
set_option linter.unusedVariables false
set_option linter.unusedSimpArgs false

/-- Block g begins with a number that only rises, now m (the least one: or none as yet); behind it these cells. -/
def ClampC (w : World) (g : Nat) (m : Int) (r : List Value) : Prop := ∃ (n : Int) (b : Bool), At w g (.int .i64 n :: .bool b :: r) ∧ (if b then n else -9223372036854775808) = m
theorem ClampC.upd {S : Nat → Prop} {w w' : World} {g : Nat} {m : Int} {r : List Value} (h : ClampC w g m r) (hu : Upd S w w') (hn : ¬ S g) : ClampC w' g m r := by
  obtain ⟨n, b, h1, h2⟩ := h
  exact ⟨n, b, h1.upd hu hn, h2⟩
theorem ClampC.on {w w' : World} {g : Nat} {m : Int} {r : List Value} (h : ClampC w g m r) (hb : Below w.heap.size w w') : ClampC w' g m r := by
  obtain ⟨n, b, h1, h2⟩ := h
  exact ⟨n, b, h1.on hb, h2⟩
theorem ClampC.lt {w : World} {g : Nat} {m : Int} {r : List Value} (h : ClampC w g m r) : g < w.heap.size := by
  obtain ⟨n, b, h1, h2⟩ := h
  exact h1.1
theorem ClampC.drewN {w : World} {g : Nat} {m : Int} {r : List Value} (h : ClampC w g m r) (k : Nat) : ClampC (w.drewN k) g m r := h.upd (S := fun _ => False) ((Upd.refl _ _).drewN k) id
theorem ClampC.drew {w : World} {g : Nat} {m : Int} {r : List Value} (h : ClampC w g m r) : ClampC w.drew g m r := h.upd (S := fun _ => False) ((Upd.refl _ _).drew) id
theorem ClampC.alloc {w : World} {g : Nat} {m : Int} {r : List Value} (h : ClampC w g m r) (o : Obj) : ClampC (w.alloc o) g m r := h.upd (S := fun _ => False) ((Upd.refl _ _).alloc o) id
theorem ClampC.made (w : World) (r : List Value) (e : TypeId) : ClampC (w.alloc (.cells (.int .i64 0 :: .bool false :: r).toArray e)) w.heap.size (-9223372036854775808) r := ⟨0, false, At.alloc w _ e, rfl⟩

/-- What Raise leaves: the greater one. -/
def RaiseTo (g : Nat) (m n : Int) (r : List Value) (w w' : World) : Prop := ClampC w' g (if m < n then n else m) r ∧ Upd (fun k => k = g) w w'

set_option maxHeartbeats 400000 in
theorem cl_now (g : Nat) (m : Int) (r : List Value) (w : World) (h : ClampC w g m r) :
    Calls Tryz.prog 121 #[.pointer (some ⟨g, 0, none⟩)] w fun e w' => e = .returned (.int .i64 m) ∧ w = w' := by
  obtain ⟨n, b, hat, rfl⟩ := h
  have hg := hat.1
  have h0 := hat.2 0 (by simp)
  have h1 := hat.2 1 (by simp)
  simp only [List.getElem_cons_zero, List.getElem_cons_succ] at h0 h1
  obtain ⟨c0, z0⟩ := h0
  obtain ⟨c1, z1⟩ := h1
  cases b
  · go_enter Tryz.func121, Tryz.ntmps121
    go_wp2
    go_ret
    exact ⟨rfl, rfl⟩
  · go_enter Tryz.func121, Tryz.ntmps121
    go_wp2
    go_ret
    exact ⟨rfl, rfl⟩

set_option maxHeartbeats 400000 in
theorem cl_raise (g : Nat) (m n : Int) (r : List Value) (w : World) (h : ClampC w g m r) :
    Calls Tryz.prog 119 #[.pointer (some ⟨g, 0, none⟩), .int .i64 n] w fun e w' => e = .returned (.bool (decide (m < n))) ∧ RaiseTo g m n r w w' := by
  have HC := Lib.hid h
  obtain ⟨n0, b, hat, hm⟩ := h
  have HM := Lib.hid hm
  have HA := Lib.hid hat
  have hg := hat.1
  have h0 := hat.2 0 (by simp)
  have h1 := hat.2 1 (by simp)
  simp only [List.getElem_cons_zero, List.getElem_cons_succ] at h0 h1
  obtain ⟨c0, z0⟩ := h0
  obtain ⟨c1, z1⟩ := h1
  clear hat hm
  by_cases hlt : m < n
  · go_enter Tryz.func119, Tryz.ntmps119
    go_wp2_with (go_at_call 121; refine (cl_now _ _ _ _ HC.out).mono ?_; rintro e w' ⟨rfl, rfl⟩)
    go_ret
    refine ⟨ret_bool (by simp [hlt]), ?_, ?_⟩
    · rw [if_pos hlt]
      refine ⟨n, true, ?_, rfl⟩
      have := (HA.out.set 0 (by simp) (.int .i64 n)).set 1 (by simp) (.bool true)
      simpa using this
    · exact ((Upd.refl (fun k => k = g) w).setCell (p := ⟨g, 0, none⟩) (fun _ => rfl) _).setCell (p := ⟨g, 1, none⟩) (fun _ => rfl) _
  · have hle : n ≤ m := by omega
    go_enter Tryz.func119, Tryz.ntmps119
    go_wp2_with (go_at_call 121; refine (cl_now _ _ _ _ HC.out).mono ?_; rintro e w' ⟨rfl, rfl⟩)
    go_ret
    refine ⟨ret_bool (by simp [hlt]), ?_, Upd.refl _ _⟩
    rw [if_neg (show ¬ m < n by omega)]
    exact HC.out

theorem cl_up (g : Nat) (m n : Int) (r : List Value) (w : World) (h : ClampC w g m r) (hlt : m < n) :
    Calls Tryz.prog 119 #[.pointer (some ⟨g, 0, none⟩), .int .i64 n] w fun e w' => e = .returned (.bool true) ∧ ClampC w' g n r ∧ Upd (fun k => k = g) w w' := by
  refine (cl_raise g m n r w h).mono ?_
  rintro e w' ⟨h1, h2, h3⟩
  rw [if_pos hlt] at h2
  simp [hlt] at h1
  exact ⟨h1, h2, h3⟩
theorem cl_stay (g : Nat) (m n : Int) (r : List Value) (w : World) (h : ClampC w g m r) (hlt : n ≤ m) :
    Calls Tryz.prog 119 #[.pointer (some ⟨g, 0, none⟩), .int .i64 n] w fun e w' => e = .returned (.bool false) ∧ w = w' := by
  have HC := Lib.hid h
  obtain ⟨n0, b, hat, hm⟩ := h
  have hg := hat.1
  have h0 := hat.2 0 (by simp)
  have h1 := hat.2 1 (by simp)
  simp only [List.getElem_cons_zero, List.getElem_cons_succ] at h0 h1
  obtain ⟨c0, z0⟩ := h0
  obtain ⟨c1, z1⟩ := h1
  clear hat hm
  go_enter Tryz.func119, Tryz.ntmps119
  go_wp2_with (go_at_call 121; refine (cl_now _ _ _ _ HC.out).mono ?_; rintro e w' ⟨rfl, rfl⟩)
  go_ret
  exact ⟨rfl, rfl⟩

/-- A row of numbers that is newly made. -/
theorem rowi_made (w : World) (l : List Int) (e : TypeId) (hl : l.length ≤ maxLen) (hb : ∀ x ∈ l, -9223372036854775808 ≤ x ∧ x ≤ 9223372036854775807) : RowI (w.alloc (.cells (iv l).toArray e)) .i64 (some ⟨w.heap.size, 0, none⟩) l := by
  have h := At.alloc w (iv l) e
  refine ⟨hl, fun i hi => ⟨_, 0, rfl, h.1, ?_⟩, fun x hx => by have := hb x hx; simp [Lit.wf, IntKind.min, IntKind.max, IntKind.bits, IntKind.signed]; omega⟩
  have := (h.2 i (by rw [iv_len]; exact hi)).1
  rw [Nat.zero_add, this]
  simp [iv]

def AllPost (R : List Int) (w : World) (e : Ending) (w' : World) : Prop :=
  ∃ a c, e = .returned (.slice a R.length c) ∧ RowI w' .i64 a R ∧ Below w.heap.size w w'

theorem iv_snoc' (l : List Int) (x : Int) : iv (l ++ [x]) = iv l ++ [.int .i64 x] := by simp [iv]
end Go.Proofs.YtmimfkhkilijcaaGreat

/- Plain facts on how far time has come, by the greatest and a bound. -/
namespace Go.Proofs.YtmimfkhkilijcaaGreat
set_option maxRecDepth 4000
namespace PBound
open PSat PClamp

def after (m b : Int) : Int := sub (sub m b) 1
theorem after_in (m b : Int) : inR (after m b) := sub_in _ _
theorem after_mono {m m' : Int} (b : Int) (h : m ≤ m') : after m b ≤ after m' b := sub_mono 1 (sub_mono b h)
theorem after_never {b : Int} (hb : 0 ≤ b) : after (-9223372036854775808) b = -9223372036854775808 := by
  unfold after sub clampI
  (repeat' split) <;> omega
/-- None is too late. -/
theorem after_lt {m b t : Int} (h1 : sub m b ≤ t) (h2 : -9223372036854775808 < t) : after m b < t := by
  have h := sub_in m b
  unfold inR at h
  unfold after
  generalize sub m b = s at *
  unfold sub clampI
  (repeat' split) <;> omega
/-- How far time has come by a row: by the greatest of what each alone comes to. -/
theorem after_most {b : Int} (hb : 0 ≤ b) (l : List Int) : most (-9223372036854775808) (l.map fun t => after t b) = after (most (-9223372036854775808) l) b := by
  have := most_map (fun t => after t b) (fun x y h => after_mono b h) l (-9223372036854775808)
  rwa [after_never hb] at this
/-- One more: the greater of both. -/
theorem after_up (m t b : Int) : (if after m b < after t b then after t b else after m b) = after (if m < t then t else m) b := by
  by_cases h : m < t
  · have := after_mono b (Int.le_of_lt h)
    rw [if_pos h]
    split <;> omega
  · have := after_mono b (show t ≤ m by omega)
    rw [if_neg h]
    split <;> omega
theorem most_rev (m : Int) (l : List Int) : most m l.reverse = most m l := most_congr (fun _ => List.mem_reverse)
end PBound
end Go.Proofs.YtmimfkhkilijcaaGreat

/- bounded: contracts of its calls, and of the document's own. -/
namespace Go.Proofs.YtmimfkhkilijcaaGreat
set_option maxRecDepth 4000
open Go.ChangeShapes Go.WideShapes Go.ChangeAt Go.RowKit
open PSat PClamp PBound
set_option linter.unusedVariables false
set_option linter.unusedSimpArgs false

set_option maxHeartbeats 400000 in
theorem bo_new (b : Int) (w : World) :
    Calls Tryz.prog 75 #[.int .i64 b] w fun e w' => e = .returned (.pointer (some ⟨w.heap.size, 0, none⟩)) ∧ w' = w.alloc (.cells #[.int .i64 0, .bool false, .int .i64 b] 201) := by
  go_enter Tryz.func75, Tryz.ntmps75
  go_wp2
  go_ret
  exact ⟨rfl, rfl⟩

set_option maxHeartbeats 400000 in
theorem bo_after (m b : Int) (w : World) (hm : -9223372036854775808 ≤ m ∧ m ≤ 9223372036854775807) (hb : -9223372036854775808 ≤ b ∧ b ≤ 9223372036854775807) :
    Calls Tryz.prog 174 #[.int .i64 m, .int .i64 b] w fun e w' => e = .returned (.int .i64 (after m b)) ∧ w = w' := by
  have h1 := sub_in m b
  unfold inR at h1
  have HS := Lib.hid (show after m b = sub (sub m b) 1 from rfl)
  have HC := Lib.hid (sat_sub m b w hm hb)
  have HC2 := Lib.hid (sat_sub (sub m b) 1 w h1 (by omega))
  generalize sub m b = s at *
  generalize sub s 1 = s2 at *
  go_enter Tryz.func174, Tryz.ntmps174
  go_wp2_with (go_at_call 68; (with_reducible refine HC.out.mono ?_); rintro e w' ⟨rfl, rfl⟩)
  go_wp2_with (go_at_call 68; (with_reducible refine HC2.out.mono ?_); rintro e w' ⟨rfl, rfl⟩)
  go_ret
  exact ⟨ret_int (by rw [HS.out]), rfl⟩

def SeenTo (g : Nat) (m b : Int) (w w' : World) : Prop := ClampC w' g m [.int .i64 b] ∧ Upd (fun k => k = g) w w'

set_option maxHeartbeats 2000000 in
theorem bo_seen (g : Nat) (m b kd t : Int) (s : ByteArray) (w : World) (h : ClampC w g (after m b) [.int .i64 b]) (hb : -9223372036854775808 ≤ b ∧ b ≤ 9223372036854775807) (ht : -9223372036854775808 ≤ t ∧ t ≤ 9223372036854775807) (M : Int) (hM : (if m < t then t else m) = M) :
    Calls Tryz.prog 173 #[.pointer (some ⟨g, 0, none⟩), .agg #[.int .i64 kd, .int .i64 t, .string s]] w fun e w' => e = .returned (.tuple #[]) ∧ SeenTo g (after M b) b w w' := by
  have HU := after_up m t b
  rw [hM] at HU
  have HU := Lib.hid HU
  clear hM
  have hlt := h.lt
  have hne : g ≠ w.heap.size := by omega
  have hA := At.alloc w [.int .i64 kd, .int .i64 t, .string s] 57
  have h' := h.alloc (.cells #[.int .i64 kd, .int .i64 t, .string s] 57)
  have hu : Upd (fun k => k = g) w (w.alloc (.cells #[.int .i64 kd, .int .i64 t, .string s] 57)) := (Upd.refl _ w).alloc _
  go_enter Tryz.func173, Tryz.ntmps173
  go_wp2
  generalize hW : w.alloc (.cells #[.int .i64 kd, .int .i64 t, .string s] 57) = w1 at *
  change At w1 w.heap.size [.int .i64 kd, .int .i64 t, .string s] at hA
  obtain ⟨hr, r0, y0, r1, y1, r2, y2⟩ := hA.three
  have HH := Lib.hid h'
  obtain ⟨n0, b0, hat, hm⟩ := h'
  have c2 := (hat.2 2 (by simp)).1
  simp only [List.getElem_cons_zero, List.getElem_cons_succ] at c2
  have hg := hat.1
  clear hat hm h
  have HC := fun w => Lib.hid (bo_after t b w ht hb)
  have HM := Lib.hid (show after t b = after t b from rfl)
  generalize after t b = A at *
  go_region_with (first | (go_at_call 174; refine (HC _).out.mono ?_; rintro e w' ⟨rfl, rfl⟩) | (go_at_call 119; refine (cl_raise g _ A _ _ HH.out.drew).mono ?_; rintro e w' ⟨rfl, hrt⟩))
  all_goals
    obtain ⟨h1, h2⟩ := hrt
    rw [HU.out] at h1
    go_end0
    exact ⟨rfl, h1, hu.drew.trans h2 (fun i _ e => e)⟩
end Go.Proofs.YtmimfkhkilijcaaGreat

/- The document's own answers of layer 10. -/
namespace Go.Proofs.YtmimfkhkilijcaaGreat
set_option maxRecDepth 4000
open Go.ChangeShapes Go.WideShapes Go.ChangeAt Go.RowKit
open PSat PClamp PBound
set_option linter.unusedVariables false
set_option linter.unusedSimpArgs false

theorem most_in64 (l : List Int) (hb : ∀ x ∈ l, -9223372036854775808 ≤ x ∧ x ≤ 9223372036854775807) : -9223372036854775808 ≤ most (-9223372036854775808) l ∧ most (-9223372036854775808) l ≤ 9223372036854775807 := by
  refine ⟨most_ge l _, ?_⟩
  rcases most_in l (-9223372036854775808) with h | h
  · omega
  · exact (hb _ h).2

set_option maxHeartbeats 1000000 in
theorem ref_most (a : Option Addr) (n c : Nat) (l : List Int) (w : World) (hn : n = l.length) (hl : RowI w .i64 a l) (hb : l.length ≤ 100000) (M : Int) (hM : most (-9223372036854775808) l = M) :
    Calls Tryz.prog 101 #[.slice a n c] w fun e w' => e = .returned (.int .i64 M) ∧ w = w' := by
  subst hn
  have HM := Lib.hid hM
  clear hM
  go_enter Tryz.func101, Tryz.ntmps101
  go_wp2
  go_loop [3, 4] (fun m i => ∃ k : Nat, k ≤ l.length ∧ i = .int .i64 k ∧ m = .int .i64 (most (-9223372036854775808) (l.take k))) (fun _ i => l.length - (intOf i).toNat)
  case atStart => exact ⟨0, Nat.zero_le _, rfl, rfl⟩
  case round =>
    obtain ⟨k, hk, rfl, rfl⟩ := hrel
    by_cases hlt : k < l.length
    · obtain ⟨b, off, rfl, hb', hc⟩ := hl.at_ k hlt
      have HT := Lib.hid (most_take l (-9223372036854775808) k hlt)
      generalize l[k] = x at *
      generalize most (-9223372036854775808) (l.take k) = m at *
      by_cases hx : m < x
      · go_wp2
        go_round
        case rel => exact ⟨k + 1, by omega, by go_num, by rw [HT.out, if_pos hx]⟩
        case measure => simp [intOf]; omega
      · have hxm : x ≤ m := by omega
        go_wp2
        go_round
        case rel => exact ⟨k + 1, by omega, by go_num, by rw [HT.out, if_neg (show ¬ m < x by omega)]⟩
        case measure => simp [intOf]; omega
    · obtain rfl : k = l.length := by omega
      have hall : l.take l.length = l := List.take_of_length_le (Nat.le_refl _)
      rw [hall, HM.out]
      clear hall
      go_wp2
      go_ret
      exact ⟨rfl, rfl⟩

set_option maxHeartbeats 1000000 in
theorem ref_now10 (a : Option Addr) (n c : Nat) (l : List Int) (b : Int) (w : World) (hn : n = l.length) (h0 : 0 < n) (hl : RowI w .i64 a l) (hlen : l.length ≤ 100000) (hb : -9223372036854775808 ≤ b ∧ b ≤ 9223372036854775807) (M : Int) (hM : most (-9223372036854775808) l = M) :
    Calls Tryz.prog 100 #[.slice a n c, .int .i64 b] w fun e w' => e = .returned (.int .i64 (after M b)) ∧ w = w' := by
  have hMb := most_in64 l (fun x hx => by
        obtain ⟨i, hi, rfl⟩ := List.mem_iff_getElem.1 hx
        exact hl.bound i hi)
  rw [hM] at hMb
  have HM := Lib.hid (ref_most a n c l w hn hl hlen M hM)
  have h1 := sub_in M b
  unfold inR at h1
  have HS := Lib.hid (show after M b = sub (sub M b) 1 from rfl)
  have HC := Lib.hid (ref_sub M b w hMb hb)
  have HC2 := Lib.hid (ref_sub (sub M b) 1 w h1 (by omega))
  generalize sub M b = s at *
  generalize sub s 1 = s2 at *
  have hn0 : ((n : Int) == 0) = false := by simp; omega
  clear hn hM hl
  go_enter Tryz.func100, Tryz.ntmps100
  go_wp2_with (go_at_call 101; (with_reducible refine HM.out.mono ?_); rintro e w' ⟨rfl, rfl⟩)
  go_wp2_with (go_at_call 59; (with_reducible refine HC.out.mono ?_); rintro e w' ⟨rfl, rfl⟩)
  go_wp2_with (go_at_call 59; (with_reducible refine HC2.out.mono ?_); rintro e w' ⟨rfl, rfl⟩)
  go_ret
  exact ⟨ret_int (by rw [HS.out]), rfl⟩
end Go.Proofs.YtmimfkhkilijcaaGreat
