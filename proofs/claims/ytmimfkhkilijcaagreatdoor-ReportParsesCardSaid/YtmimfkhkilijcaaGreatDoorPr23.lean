/- KGen: what is reached of them. -/
import Derived.Test.YtmimfkhkilijcaaGreatDoorPr05
import Derived.Test.YtmimfkhkilijcaaGreatDoorPr09
import Derived.Test.YtmimfkhkilijcaaGreatDoorPr13
import Derived.Test.YtmimfkhkilijcaaGreatDoorPr21
import Derived.Test.YtmimfkhkilijcaaGreatDoorPr21b
import Derived.Test.YtmimfkhkilijcaaGreatDoorPr22
namespace Go.Proofs.YtmimfkhkilijcaaGreatDoor
set_option maxRecDepth 4000
open Go.ChangeShapes Go.WideShapes Go.ChangeAt Go.RowKit
open PHist PRing PSat PClamp PBound PFrame PSign
set_option linter.unusedVariables false

def times (l : List R) : List Int := l.map fun r => r.2.1
def saysR (n : Int) (r : R) : Bool := says r.1 (bstr r.2.2) n
def said (n : Int) (l : List R) : List Int := (l.filter (saysR n)).map fun r => r.2.1
theorem times_len (l : List R) : (times l).length = l.length := List.length_map _
theorem times_snoc (l : List R) (x : R) : times (l ++ [x]) = times l ++ [x.2.1] := by simp [times]
theorem said_snoc (n : Int) (l : List R) (x : R) : said n (l ++ [x]) = said n l ++ (if saysR n x then [x.2.1] else []) := by
  unfold said
  rw [List.filter_append, List.map_append]
  cases h : saysR n x <;> simp [h]
theorem said_mem {n : Int} {l : List R} {x : Int} (h : x ∈ said n l) : x ∈ times l := by
  obtain ⟨r, hr, rfl⟩ := List.mem_map.1 h
  exact List.mem_map_of_mem (List.mem_filter.1 hr).1
def InR (l : List R) : Prop := ∀ r ∈ l, (-9223372036854775808 ≤ r.1 ∧ r.1 ≤ 9223372036854775807) ∧ (-9223372036854775808 ≤ r.2.1 ∧ r.2.1 ≤ 9223372036854775807)
theorem InR.times {l : List R} (h : InR l) : ∀ x ∈ times l, -9223372036854775808 ≤ x ∧ x ≤ 9223372036854775807 := by
  intro x hx
  obtain ⟨r, hr, rfl⟩ := List.mem_map.1 hx
  exact (h r hr).2
theorem InR.take {l : List R} (h : InR l) (k : Nat) : InR (l.take k) := fun r hr => h r (List.mem_of_mem_take hr)

/-- How far time has come by these, as a rule says. -/
def gnow (r : Rul) (l : List R) : Int :=
  if r.kind = 0 then after (most (-9223372036854775808) (times l)) r.bound
  else if r.kind = 1 then most (-9223372036854775808) (said r.sign l)
  else nowTo r.pct.toNat r.win.toNat (times l) l.length
theorem nowTo_snoc (p w : Nat) (l : List Int) (x : Int) (k : Nat) (hk : k ≤ l.length) : nowTo p w (l ++ [x]) k = nowTo p w l k := by
  have h := nowTo_take p w (l ++ [x]) l.length k hk
  rw [List.take_left] at h
  exact h.symm
theorem gnow_never {r : Rul} (h : rcheck r = 0) : gnow r [] = -9223372036854775808 := by
  unfold gnow
  rcases rcheck_some h with ⟨h0, h1⟩ | ⟨h0, h1⟩ | ⟨h0, h1⟩
  · rw [if_pos h0]
    exact after_never h1
  · rw [if_neg (by omega), if_pos h0]
    rfl
  · rw [if_neg (by omega), if_neg (by omega)]
    rfl
theorem gnow_in {r : Rul} {l : List R} (h : InR l) : in64 (gnow r l) := by
  unfold gnow in64
  split
  · exact after_in _ _
  split
  · exact most_in64 _ (fun x hx => h.times x (said_mem hx))
  · exact nowTo_in _ _ _ _
end Go.Proofs.YtmimfkhkilijcaaGreatDoor

/- gen: the three ways as one: what a block holds, and contracts of its calls. -/
namespace Go.Proofs.YtmimfkhkilijcaaGreatDoor
set_option maxRecDepth 4000
open Go.ChangeShapes Go.WideShapes Go.ChangeAt Go.RowKit
open PHist PRing PSat PClamp PBound PFrame PSign
set_option linter.unusedVariables false
set_option linter.unusedSimpArgs false

/-- Block g (and all blocks of S) is a way of the dynamic type t, of a rule, behind these records. -/
def GenC (w : World) (S : Nat → Prop) (t : TypeId) (g : Nat) (r : Rul) (l : List R) : Prop :=
  (r.kind = 0 ∧ t = 234 ∧ (∀ k, S k ↔ k = g) ∧ ClampC w g (after (most (-9223372036854775808) (times l)) r.bound) [.int .i64 r.bound]) ∨
  (r.kind = 1 ∧ t = 236 ∧ (∀ k, S k ↔ k = g) ∧ ClampC w g (most (-9223372036854775808) (said r.sign l)) [.int .i64 r.sign]) ∨
  (r.kind = 2 ∧ t = 238 ∧ PerAt w S g r.pct.toNat r.win.toNat (times l) l.length)
def GPost (S : Nat → Prop) (t : TypeId) (g : Nat) (r : Rul) (l : List R) (w w' : World) : Prop := ∃ S', GenC w' S' t g r l ∧ Upd S w w' ∧ ∀ k, S' k → S k ∨ w.heap.size ≤ k

section
variable {S T : Nat → Prop} {w w' : World} {t : TypeId} {g : Nat} {r : Rul} {l : List R}
theorem GenC.upd (h : GenC w S t g r l) (hu : Upd T w w') (hn : ∀ k, S k → ¬ T k) : GenC w' S t g r l := by
  rcases h with ⟨h1, h2, h3, h4⟩ | ⟨h1, h2, h3, h4⟩ | ⟨h1, h2, h3⟩
  · exact .inl ⟨h1, h2, h3, h4.upd hu (hn g ((h3 g).2 rfl))⟩
  · exact .inr (.inl ⟨h1, h2, h3, h4.upd hu (hn g ((h3 g).2 rfl))⟩)
  · exact .inr (.inr ⟨h1, h2, h3.upd hu hn⟩)
theorem GenC.lt (h : GenC w S t g r l) : ∀ k, S k → k < w.heap.size := by
  rcases h with ⟨h1, h2, h3, h4⟩ | ⟨h1, h2, h3, h4⟩ | ⟨h1, h2, h3⟩
  · intro k hk
    rw [(h3 k).1 hk]
    exact h4.lt
  · intro k hk
    rw [(h3 k).1 hk]
    exact h4.lt
  · exact h3.lt
theorem GenC.mem (h : GenC w S t g r l) : S g := by
  rcases h with ⟨h1, h2, h3, h4⟩ | ⟨h1, h2, h3, h4⟩ | ⟨h1, h2, h3⟩
  · exact (h3 g).2 rfl
  · exact (h3 g).2 rfl
  · exact h3.mem
theorem GenC.on (h : GenC w S t g r l) (hb : Below w.heap.size w w') : GenC w' S t g r l :=
  h.upd (T := fun k => w.heap.size ≤ k) (Upd.of_below hb (fun _ _ h => h)) (fun k hk h2 => by have := h.lt k hk; omega)
theorem GenC.alloc (h : GenC w S t g r l) (o : Obj) : GenC (w.alloc o) S t g r l := h.upd (T := fun _ => False) ((Upd.refl _ _).alloc o) (fun _ _ => id)
theorem GenC.drew (h : GenC w S t g r l) : GenC w.drew S t g r l := h.upd (T := fun _ => False) ((Upd.refl _ _).drew) (fun _ _ => id)
theorem GenC.drewN (h : GenC w S t g r l) (n : Nat) : GenC (w.drewN n) S t g r l := h.upd (T := fun _ => False) ((Upd.refl _ _).drewN n) (fun _ _ => id)
theorem GPost.below {a : World} {B : Nat} (h : GPost S t g r l w w') (hb : Below B a w) (hB : B ≤ w.heap.size) (hS : ∀ k, S k → B ≤ k) :
    ∃ S', GenC w' S' t g r l ∧ (∀ k, S' k → B ≤ k) ∧ Below B a w' ∧ Upd S w w' ∧ ∀ k, S' k → S k ∨ w.heap.size ≤ k := by
  obtain ⟨S', h1, h2, h3⟩ := h
  refine ⟨S', h1, fun k hk => ?_, hb.upd h2 hB (fun i _ h => hS i h), h2, h3⟩
  rcases h3 k hk with h | h
  · exact hS k h
  · exact Nat.le_trans hB h
end

/-- Which functions an interface value's methods are. -/
def fSeen (t : TypeId) : FuncId := if t = 234 then 302 else if t = 236 then 305 else 309
theorem GenC.seen {w : World} {S : Nat → Prop} {t : TypeId} {g : Nat} {r : Rul} {l : List R} (h : GenC w S t g r l) : ∀ (n : Nat) (w' : World), (method (n + 1) t (.pointer (some ⟨g, 0, none⟩)) "Seen").run Tryz.prog w' = .ok (fSeen t, .pointer (some ⟨g, 0, none⟩)) w' := by
  rcases h with ⟨h1, rfl, h3, h4⟩ | ⟨h1, rfl, h3, h4⟩ | ⟨h1, rfl, h3⟩
  · exact fun n w' => by kernel_rfl
  · exact fun n w' => by kernel_rfl
  · exact fun n w' => by kernel_rfl
theorem GenC.enters {w : World} {S : Nat → Prop} {t : TypeId} {g : Nat} {r : Rul} {l : List R} (h : GenC w S t g r l) : ∀ (args : Array Value) (w' : World), (callFunc (fSeen t) args).run Tryz.prog w' = .ok (.enter (fSeen t) args) w' := by
  rcases h with ⟨h1, rfl, h3, h4⟩ | ⟨h1, rfl, h3, h4⟩ | ⟨h1, rfl, h3⟩
  · exact Tryz.call302
  · exact Tryz.call305
  · exact Tryz.call309
theorem GenC.now {w : World} {S : Nat → Prop} {t : TypeId} {g : Nat} {r : Rul} {l : List R} (h : GenC w S t g r l) : ∀ (n : Nat) (w' : World), (method (n + 1) t (.pointer (some ⟨g, 0, none⟩)) "Now").run Tryz.prog w' = .ok (120, .pointer (some ⟨g, 0, none⟩)) w' := by
  rcases h with ⟨h1, rfl, h3, h4⟩ | ⟨h1, rfl, h3, h4⟩ | ⟨h1, rfl, h3⟩
  · exact fun n w' => by kernel_rfl
  · exact fun n w' => by kernel_rfl
  · exact fun n w' => by kernel_rfl
theorem GenC.ahead {w : World} {S : Nat → Prop} {t : TypeId} {g : Nat} {r : Rul} {l : List R} (h : GenC w S t g r l) : ∀ (n : Nat) (w' : World), (nilAhead (n + 1) t (.pointer (some ⟨g, 0, none⟩)) "Seen").run Tryz.prog w' = .ok (some false) w' := by
  rcases h with ⟨h1, rfl, h3, h4⟩ | ⟨h1, rfl, h3, h4⟩ | ⟨h1, rfl, h3⟩
  · exact fun n w' => by kernel_rfl
  · exact fun n w' => by kernel_rfl
  · exact fun n w' => by kernel_rfl

theorem gn_now (S : Nat → Prop) (t : TypeId) (g : Nat) (r : Rul) (l : List R) (w : World) (h : GenC w S t g r l) :
    Calls Tryz.prog 120 #[.pointer (some ⟨g, 0, none⟩)] w fun e w' => e = .returned (.int .i64 (gnow r l)) ∧ w = w' := by
  unfold gnow
  rcases h with ⟨h1, h2, h3, h4⟩ | ⟨h1, h2, h3, h4⟩ | ⟨h1, h2, h3⟩
  · rw [if_pos h1]
    exact cl_now g _ _ w h4
  · rw [if_neg (by omega), if_pos h1]
    exact cl_now g _ _ w h4
  · rw [if_neg (by omega), if_neg (by omega)]
    exact pc_at_now S g _ _ _ _ w h3

theorem perAt_snoc {w : World} {S : Nat → Prop} {g p win : Nat} {l : List Int} (x : Int) : PerAt w S g p win l l.length ↔ PerAt w S g p win (l ++ [x]) l.length := by
  unfold PerAt
  rw [List.take_left, List.take_length, nowTo_snoc _ _ _ _ _ (Nat.le_refl _)]

set_option maxHeartbeats 1000000 in
theorem gn_seen (S : Nat → Prop) (t : TypeId) (g : Nat) (r : Rul) (l : List R) (x : R) (w : World) (h : GenC w S t g r l) (hok : rcheck r = 0) (hf : r.Fits) (hb : InR l) (hx : (-9223372036854775808 ≤ x.1 ∧ x.1 ≤ 9223372036854775807) ∧ (-9223372036854775808 ≤ x.2.1 ∧ x.2.1 ≤ 9223372036854775807)) (hl : l.length < 800) :
    Calls Tryz.prog (fSeen t) #[.pointer (some ⟨g, 0, none⟩), .agg #[.int .i64 x.1, .int .i64 x.2.1, .string (bstr x.2.2)]] w fun e w' => e = .returned (.tuple #[]) ∧ GPost S t g r (l ++ [x]) w w' := by
  rcases h with ⟨h1, rfl, h3, h4⟩ | ⟨h1, rfl, h3, h4⟩ | ⟨h1, rfl, h3⟩
  · refine (bo_seen g _ r.bound x.1 x.2.1 (bstr x.2.2) w h4 hf.bound hx.2 _ rfl).mono ?_
    rintro e w' ⟨rfl, a1, a2⟩
    refine ⟨rfl, S, .inl ⟨h1, rfl, h3, ?_⟩, a2.mono (fun k _ e => (h3 k).2 e), fun k hk => .inl hk⟩
    rw [times_snoc, most_snoc]
    exact a1
  · refine (pu_seen g _ r.sign x.1 x.2.1 (bstr x.2.2) w h4 hf.sign _ rfl _ rfl).mono ?_
    rintro e w' ⟨rfl, a1, a2⟩
    refine ⟨rfl, S, .inr (.inl ⟨h1, rfl, h3, ?_⟩), a2.mono (fun k _ e => (h3 k).2 e), fun k hk => .inl hk⟩
    rw [said_snoc]
    unfold rz at a1
    cases hs : saysR r.sign x
    · rw [if_neg (by simp), List.append_nil]
      rw [show says x.1 (bstr x.2.2) r.sign = false from hs] at a1
      simpa using a1
    · rw [if_pos rfl, most_snoc]
      rw [show says x.1 (bstr x.2.2) r.sign = true from hs] at a1
      simpa using a1
  · rcases rcheck_some hok with ⟨h0, _⟩ | ⟨h0, _⟩ | ⟨h0, ⟨hp0, hp1⟩, hw0, hw1⟩
    · omega
    · omega
    have hlen : (times l).length < (times l ++ [x.2.1]).length := by simp
    have hbb : ∀ y ∈ times l ++ [x.2.1], -9223372036854775808 ≤ y ∧ y ≤ 9223372036854775807 := by
      intro y hy
      rcases List.mem_append.1 hy with hy | hy
      · exact hb.times y hy
      · rw [List.mem_singleton.1 hy]; exact hx.2
    rw [← times_len l] at h3
    have hN := pc_next S g r.pct.toNat r.win.toNat (times l ++ [x.2.1]) (times l).length hlen hbb x.1 (bstr x.2.2) w ((perAt_snoc _).1 h3) (by omega) (by omega) (by omega) (by rw [List.length_append, times_len]; simp; omega)
    have hlast : (times l ++ [x.2.1])[(times l).length] = x.2.1 := by simp
    rw [hlast] at hN
    refine hN.mono ?_
    rintro e w' ⟨rfl, S', a1, a2, a3⟩
    refine ⟨rfl, S', .inr (.inr ⟨h1, rfl, ?_⟩), a2, a3⟩
    rw [times_snoc, List.length_append, ← times_len l]
    exact a1
end Go.Proofs.YtmimfkhkilijcaaGreatDoor

/- gen: Check, Of and Slack; the document's Check. -/
namespace Go.Proofs.YtmimfkhkilijcaaGreatDoor
set_option maxRecDepth 4000
open Go.ChangeShapes Go.WideShapes Go.ChangeAt Go.RowKit
open PHist PRing PSat PClamp PBound PFrame PSign
set_option linter.unusedVariables false
set_option linter.unusedSimpArgs false

/-- What Of answers: a way that nothing has come to as yet. -/
def OfPost (r : Rul) (w : World) (e : Ending) (w' : World) : Prop :=
  ∃ t g S, e = .returned (.tuple #[.iface t (.pointer (some ⟨g, 0, none⟩)), .int .i64 0]) ∧ GenC w' S t g r [] ∧ (∀ k, S k → w.heap.size ≤ k) ∧ Below w.heap.size w w'

set_option maxHeartbeats 2000000 in
theorem gn_of (r : Rul) (w : World) (hok : rcheck r = 0) : Calls Tryz.prog 106 #[r.val] w (OfPost r w) := by
  have HC := fun w' => Lib.hid (gn_check r w' 0 hok)
  have HK := rcheck_some hok
  obtain ⟨k, b, p, n, s⟩ := r
  have hA := At.alloc w [.int .i64 k, .int .i64 b, .int .i64 p, .int .i64 n, .int .i64 s] 59
  have hb0 : Below w.heap.size w (w.alloc (.cells #[.int .i64 k, .int .i64 b, .int .i64 p, .int .i64 n, .int .i64 s] 59)) := (Below.refl _ _).alloc (Nat.le_refl _) _
  have HA := Lib.hid hA
  unfold Rul.val at *
  simp only at *
  clear hA
  rcases HK with ⟨rfl, h1⟩ | ⟨rfl, h1, h2⟩ | ⟨rfl, ⟨h1, h2⟩, h3, h4⟩
  · have HN := fun w' => Lib.hid (bo_new b w')
    have HV := Lib.hid (after_never h1)
    go_enter Tryz.func106, Tryz.ntmps106
    go_wp2_with (go_at_call 147; refine (HC _).out.mono ?_; rintro e w1 ⟨rfl, hb1⟩; obtain ⟨hg, c0, z0, c1, z1, c2, z2, c3, z3, c4, z4⟩ := (HA.out.on hb1).five)
    go_wp2_with (go_at_call 153; refine (HN _).out.mono ?_; rintro e w2 ⟨rfl, rfl⟩)
    go_ret2
    have hbw := on_below hb0 hb1
    refine ⟨_, _, fun j => j = w1.heap.size, rfl, .inl ⟨rfl, rfl, fun _ => Iff.rfl, ?_⟩, fun j hj => by rw [hj]; exact hbw.size, hbw.alloc hbw.size _⟩
    show ClampC _ _ (after (-9223372036854775808) b) [.int .i64 b]
    rw [HV.out]
    exact ClampC.made w1 [.int .i64 b] _
  · have HN := fun w' => Lib.hid (pu_new s w')
    go_enter Tryz.func106, Tryz.ntmps106
    go_wp2_with (go_at_call 147; refine (HC _).out.mono ?_; rintro e w1 ⟨rfl, hb1⟩; obtain ⟨hg, c0, z0, c1, z1, c2, z2, c3, z3, c4, z4⟩ := (HA.out.on hb1).five)
    go_wp2_with (go_at_call 154; refine (HN _).out.mono ?_; rintro e w2 ⟨rfl, rfl⟩)
    go_ret2
    have hbw := on_below hb0 hb1
    exact ⟨_, _, fun j => j = w1.heap.size, rfl, .inr (.inl ⟨rfl, rfl, fun _ => Iff.rfl, ClampC.made w1 [.int .i64 s] _⟩), fun j hj => by rw [hj]; exact hbw.size, hbw.alloc hbw.size _⟩
  · have HN := fun w' => Lib.hid (pc_new p n n.toNat (by omega) (by omega) (by omega) w')
    have hpp : (p.toNat : Int) = p := by omega
    have HP := Lib.hid hpp
    clear hpp
    go_enter Tryz.func106, Tryz.ntmps106
    go_wp2_with (go_at_call 147; refine (HC _).out.mono ?_; rintro e w1 ⟨rfl, hb1⟩; obtain ⟨hg, c0, z0, c1, z1, c2, z2, c3, z3, c4, z4⟩ := (HA.out.on hb1).five)
    go_wp2_with (go_at_call 155; refine (HN _).out.mono ?_; rintro e w2 ⟨g, S, rfl, hp1, hS1, hb2⟩)
    go_ret2
    have hbw := on_below hb0 hb1
    have hbw2 := on_below hbw hb2
    refine ⟨_, _, S, rfl, .inr (.inr ⟨rfl, rfl, ?_⟩), fun j hj => Nat.le_trans hbw.size (hS1 j hj), hbw2⟩
    rw [← HP.out] at hp1
    exact perAt_zero [] hp1

end Go.Proofs.YtmimfkhkilijcaaGreatDoor

/- The document's own answers of layer 13. -/
namespace Go.Proofs.YtmimfkhkilijcaaGreatDoor
set_option maxRecDepth 4000
open Go.ChangeShapes Go.WideShapes Go.ChangeAt Go.RowKit
open PHist PRing PSat PClamp PBound PFrame PSign
set_option linter.unusedVariables false
set_option linter.unusedSimpArgs false

/-- Two rows of numbers that a call has, each in blocks of its own. -/
def Two (B : Nat) (w : World) (v u : Value) (a b : List Int) : Prop := Sl B w 1 v a.length (iv a) ∧ Sl B w 1 u b.length (iv b) ∧ ∀ k, v.ownBlock = some k → u.ownBlock ≠ some k
theorem Two.left {B : Nat} {w w' : World} {v u v' : Value} {a b a' : List Int} (h : Two B w v u a b) (h1 : Sl B w' 1 v' a'.length (iv a')) (h2 : Upd (fun k => v.ownBlock = some k) w w') (h3 : ∀ k, v'.ownBlock = some k → v.ownBlock = some k ∨ w.heap.size ≤ k) : Two B w' v' u a' b := by
  refine ⟨h1, h.2.1.upd h2 (fun k hk hv => h.2.2 k hv hk), fun k hk hu => ?_⟩
  rcases h3 k hk with h4 | h4
  · exact h.2.2 k h4 hu
  · have := (h.2.1.lt k hu).2; omega
theorem Two.right {B : Nat} {w w' : World} {v u u' : Value} {a b b' : List Int} (h : Two B w v u a b) (h1 : Sl B w' 1 u' b'.length (iv b')) (h2 : Upd (fun k => u.ownBlock = some k) w w') (h3 : ∀ k, u'.ownBlock = some k → u.ownBlock = some k ∨ w.heap.size ≤ k) : Two B w' v u' a b' := by
  refine ⟨h.1.upd h2 (fun k hk hv => h.2.2 k hk hv), h1, fun k hk hu => ?_⟩
  rcases h3 k hu with h4 | h4
  · exact h.2.2 k hk h4
  · have := (h.1.lt k hk).2; omega
theorem Two.upd {B : Nat} {S : Nat → Prop} {w w' : World} {v u : Value} {a b : List Int} (h : Two B w v u a b) (hu : Upd S w w') (hS : ∀ k, S k → w.heap.size ≤ k) : Two B w' v u a b :=
  ⟨h.1.upd hu (fun k hk hs => by have := (h.1.lt k hk).2; have := hS k hs; omega), h.2.1.upd hu (fun k hk hs => by have := (h.2.1.lt k hk).2; have := hS k hs; omega), h.2.2⟩
theorem Two.alloc {B : Nat} {w : World} {v u : Value} {a b : List Int} (h : Two B w v u a b) (o : Obj) : Two B (w.alloc o) v u a b := h.upd (S := fun _ => False) ((Upd.refl _ _).alloc o) (fun _ h => h.elim)
theorem Two.on {B : Nat} {w w' : World} {v u : Value} {a b : List Int} (h : Two B w v u a b) (hb : Below w.heap.size w w') : Two B w' v u a b := h.upd (S := fun k => w.heap.size ≤ k) (Upd.of_below hb (fun _ _ h => h)) (fun _ h => h)
theorem Two.drewN {B : Nat} {w : World} {v u : Value} {a b : List Int} (h : Two B w v u a b) (n : Nat) : Two B (w.drewN n) v u a b := h.upd (S := fun _ => False) ((Upd.refl _ _).drewN n) (fun _ h => h.elim)
theorem Two.drew {B : Nat} {w : World} {v u : Value} {a b : List Int} (h : Two B w v u a b) : Two B w.drew v u a b := h.upd (S := fun _ => False) ((Upd.refl _ _).drew) (fun _ h => h.elim)

end Go.Proofs.YtmimfkhkilijcaaGreatDoor
