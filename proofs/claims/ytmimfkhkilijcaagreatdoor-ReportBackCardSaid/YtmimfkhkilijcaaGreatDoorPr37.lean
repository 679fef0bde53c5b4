/- RepHead; AppNil; RepRule; RepMore; RepCh; RepReads: what is reached of them. -/
import Derived.Deep.DeepCutAuto
import Derived.Deep.RegionLaw
import Derived.Lib.AppendZerosOnto
import Derived.Test.YtmimfkhkilijcaaGreatDoorPr01
import Derived.Test.YtmimfkhkilijcaaGreatDoorPr15
import Derived.Test.YtmimfkhkilijcaaGreatDoorPr16
import Derived.Test.YtmimfkhkilijcaaGreatDoorPr18
import Derived.Test.YtmimfkhkilijcaaGreatDoorPr30
import Derived.Test.YtmimfkhkilijcaaGreatDoorPr34
import Derived.Test.YtmimfkhkilijcaaGreatDoorPr35
import Derived.Test.YtmimfkhkilijcaaGreatDoorPr36
namespace Go.Proofs.YtmimfkhkilijcaaGreatDoor
set_option maxRecDepth 4000
open Go.ChangeShapes Go.WideShapes Go.ChangeAt Go.RowKit
open PWord PSign PHex PQuote
set_option linter.unusedVariables false
set_option linter.unusedSimpArgs false

theorem bl_one (x : List UInt8) : bl [bstr x] = [x] := rfl
theorem bl_two (x y : List UInt8) : bl [bstr x, bstr y] = [x, y] := rfl
set_option maxRecDepth 100000 in
set_option maxHeartbeats 2000000 in
theorem rd_headC (x : List UInt8) (hx : x.length ≤ 1000000) (B g : Nat) (w : World) (he : EnvW w) (hnm : Names w) (h : RdrC B w g noRdr) (hB : B ≤ w.heap.size) (o : Option Rdr) (ho : rdHead x = o) :
    Calls Tryz.prog 86 #[.pointer (some ⟨g, 0, none⟩), .string (bstr x)] w (RdPost B g noRdr o w) := by
  have hb1 : Below w.heap.size w (w.alloc (.cells #[.string (bstr x)] 9)) := (Below.refl _ _).alloc (Nat.le_refl _) _
  have hc1 := (At.alloc w [.string (bstr x)] 9).one.2.1
  have HP := cf_parse (some ⟨w.heap.size, 0, none⟩) 1 1 [bstr x] (w.alloc (.cells #[.string (bstr x)] 9)) (he.on hb1) (hnm.on hb1) (rows_one hc1) rfl (Nat.le_refl _) (by unfold maxLen; omega) (by simp) (fun s hs => by rw [List.mem_singleton.1 hs, tx_size]; exact hx)
  rw [bl_one] at HP
  obtain ⟨v1, v2, v3, O⟩ := h
  unfold rdHead at ho
  cases hh : headOf x with
  | none =>
    rw [hh] at ho
    obtain rfl : none = o := ho
    have hpx : parse [x] = (noCfg, 1) := by rw [parse_cons, hh]
    rw [hpx] at HP
    have HQ := Lib.hid HP
    clear hpx hh hc1 hx HP
    go_enter Tryz.func86, Tryz.ntmps86
    go_wp2_with (first | (go_at_call 134; (with_reducible refine HQ.out.mono ?_); intro e w2 h2; obtain ⟨v, rfl, hs2, hb2⟩ := h2; obtain ⟨a3, k3, rfl⟩ := hs2.shape; have hb3 := on_below hb1 hb2; have hO := O.on hb3) | fail)
    go_ret
    have hw2 := Nat.le_trans hB hb3.size
    exact ⟨rfl, ⟨v1, v2, v3, hO.on ((Below.refl _ _).alloc (Nat.le_refl _) _)⟩, (hb3.mono hB).alloc hw2 _⟩
  | some td =>
    obtain ⟨t, d⟩ := td
    rw [hh] at ho
    obtain rfl : some (⟨⟨⟨[], t, d⟩, [], []⟩, x⟩ : Rdr) = o := ho
    have hpx : parse [x] = (⟨[], t, d⟩, 0) := by rw [parse_cons, hh]; rfl
    rw [hpx] at HP
    have HQ := Lib.hid HP
    clear hpx hh hc1 hx HP
    obtain ⟨hg, c0, c1, c2, c3, c4, c5⟩ := O.cells
    go_enter Tryz.func86, Tryz.ntmps86
    go_wp2_with (first | (go_at_call 134; (with_reducible refine HQ.out.mono ?_); intro e w2 h2; obtain ⟨v, rfl, hs2, hb2⟩ := h2; obtain ⟨a3, k3, rfl⟩ := hs2.shape; have hb3 := on_below hb1 hb2; have hO := O.on hb3; obtain ⟨hg2, e0, e1, e2, e3, e4, e5⟩ := hO.cells; obtain ⟨z0, z1, z2, z3, z4, z5⟩ := hO.free; have hgl : g < w2.heap.size := hg2) | fail)
    go_ret
    have hw2 := Nat.le_trans hB hb3.size
    have hw1 : (w.alloc (.cells #[.string (bstr x)] 9)).heap.size = w.heap.size + 1 := World.size_alloc _ _
    have hF := Own3.first hO hw2 (hs2.base (by omega)) (fun k hk => by
      have h1 := (hs2.lt k hk).1
      refine ⟨by omega, fun e => ?_, fun e => ?_⟩
      · have := (O.s2.lt k e).2; omega
      · have := (O.s3.lt k e).2; omega) t d x
    exact ⟨rfl, ⟨_, _, _, hF.1.on ((Below.refl _ _).alloc (Nat.le_refl _) _)⟩, ((hb3.mono hB).trans hF.2).alloc (Nat.le_trans hw2 (by have := hF.2.size; omega)) _⟩
end Go.Proofs.YtmimfkhkilijcaaGreatDoor
namespace Go.Proofs.YtmimfkhkilijcaaGreatDoor
set_option maxRecDepth 4000
open Go.ChangeShapes Go.WideShapes Go.ChangeAt Go.RowKit
set_option linter.unusedVariables false
set_option linter.unusedSimpArgs false

theorem step_append_own25 {P : Program} {ops : Array Oper} {o : Oper} {a : Act} {w : World} {K : Act → World → Prop} {Q : Exit → Act → World → Prop} {E : Prop}
    (hg : o.guard = none) (s x : Operand) (t tx : TypeId) (hop : o.op = Op.call { callee := Callee.builtin Builtin.append, args := #[s, x], argTypes := #[t, tx] })
    {B : Nat} {size : Nat} (e : TypeId) (i : TypeInfo) (z : Value) (bytes : Nat) (ht : P.underlying t = some (.slice e)) (hi : P.info? e = some i) (hz : i.zero = some z) (hsize : i.size = size) (hby : i.bytes = bytes) (hzs : z.cells.size = size)
    (v xv : Value) {n : Nat} {xs : List Value} (m : Nat) (news : List Value) (hv : a.eval s = v) (hx : a.eval x = xv) (h : Sl B w size v n xs) (hs : Src P size tx xv m news w)
    (h63 : n + m ≤ maxLen) (hbytes : (n + m) * bytes ≤ 140737488355328) (hB : B ≤ w.heap.size)
    (hK : ∀ a1 c1 w', Sl B w' size (.slice a1 (n + m) c1) (n + m) (xs ++ news) → Upd (fun k => v.ownBlock = some k) w w' → (∀ k, (Value.slice a1 (n + m) c1).ownBlock = some k → v.ownBlock = some k ∨ w.heap.size ≤ k) → K (a.put o.dst (.slice a1 (n + m) c1)) w') :
    if Region.wanted o (yielded ops a.tmps) = true then Oper.wp P o a w K Q else E := by
  obtain ⟨v', w', hr, r1, r2, r3⟩ := run_append_sl (P := P) w t tx o.type e i z bytes ht hi hz hsize hby hzs h xv m news hs h63 hbytes hB
  obtain ⟨a1, c1, rfl⟩ := r1.shape
  exact step_append_run hg s x t tx hop v xv hv hx hr (hK a1 c1 w' r1 r2 r3)

end Go.Proofs.YtmimfkhkilijcaaGreatDoor
namespace Go.Proofs.YtmimfkhkilijcaaGreatDoor
set_option maxRecDepth 4000
open Go.ChangeShapes Go.WideShapes Go.ChangeAt Go.RowKit
open PWord PSign PHex PQuote
set_option linter.unusedVariables false
set_option linter.unusedSimpArgs false

theorem rul_one (u : Rul) : ∀ y ∈ u.cells, y.oneCell' = true := by
  intro y hy
  simp only [Rul.cells, List.mem_cons, List.not_mem_nil, or_false] at hy
  rcases hy with rfl | rfl | rfl | rfl | rfl <;> rfl
theorem rows_two26 (w : World) (a b : ByteArray) (e : TypeId) : RowS (w.alloc (.cells #[.string a, .string b] e)) (some ⟨w.heap.size, 0, none⟩) [a, b] := by
  have hA := At.alloc w [.string a, .string b] e
  refine ⟨fun i hi => ⟨w.heap.size, 0, rfl, hA.1, ?_⟩⟩
  rw [Nat.zero_add]
  have := (hA.2 i (by simpa using hi)).1
  rw [this]
  simp at hi
  have : i = 0 ∨ i = 1 := by omega
  rcases this with rfl | rfl <;> rfl
set_option maxRecDepth 100000 in
set_option maxHeartbeats 4000000 in
theorem rd_ruleC (r : Rdr) (x : List UInt8) (hx : x.length ≤ 1000000) (hhl : r.head.length ≤ 1000000) (hsz : r.size ≤ 200000) (t d : Int) (hh : headOf r.head = some (t, d)) (B g : Nat) (w : World) (he : EnvW w) (hnm : Names w) (h : RdrC B w g r) (hB : B ≤ w.heap.size) (o : Option Rdr) (ho : rdRule r x = o) :
    Calls Tryz.prog 87 #[.pointer (some ⟨g, 0, none⟩), .string (bstr x)] w (RdPost B g r o w) := by
  obtain ⟨v1, v2, v3, O⟩ := h
  obtain ⟨⟨⟨rs, rt, rdd⟩, ls, cs⟩, hd⟩ := r
  simp only at hh hhl O
  unfold Rdr.size at hsz
  simp only at hsz
  obtain ⟨a2, k2', rfl⟩ := O.s2.shape
  obtain ⟨a3, k3', rfl⟩ := O.s3.shape
  obtain ⟨hg, c0, c1, c2, c3, c4, c5⟩ := O.cells
  by_cases hl : ls = []
  · by_cases hc : cs = []
    · subst hl; subst hc
      obtain ⟨a1, k1', rfl⟩ := O.s1.shape
      have hb1 : Below w.heap.size w (w.alloc (.cells #[.string (bstr hd), .string (bstr x)] 9)) := (Below.refl _ _).alloc (Nat.le_refl _) _
      have HP := cf_parse (some ⟨w.heap.size, 0, none⟩) 2 2 [bstr hd, bstr x] (w.alloc (.cells #[.string (bstr hd), .string (bstr x)] 9)) (he.on hb1) (hnm.on hb1) (rows_two26 _ _ _ _) rfl (Nat.le_refl _) (by unfold maxLen; omega) (by simp) (fun s hs => by
        simp only [List.mem_cons, List.not_mem_nil, or_false] at hs
        rcases hs with rfl | rfl <;> rw [tx_size] <;> assumption)
      rw [bl_two] at HP
      unfold rdRule at ho
      rw [if_pos ⟨rfl, rfl⟩] at ho
      cases hu : ruleOf x with
      | none =>
        rw [hu] at ho
        obtain rfl : none = o := ho
        have hpx : parse [hd, x] = (noCfg, 2) := by rw [parse_cons, hh]; simp [prules, hu]
        rw [hpx] at HP
        have HQ := Lib.hid HP
        clear hpx hh hx hhl HP hu
        go_enter Tryz.func87, Tryz.ntmps87
        go_wp2_with (first | (go_at_call 134; (with_reducible refine HQ.out.mono ?_); intro e w2 h2; obtain ⟨v, rfl, hs2, hb2⟩ := h2; obtain ⟨ax, kx, rfl⟩ := hs2.shape; have hb3 := on_below hb1 hb2; have hO := O.on hb3) | fail)
        go_ret
        exact ⟨rfl, ⟨_, _, _, hO.on ((Below.refl _ _).alloc (Nat.le_refl _) _)⟩, (hb3.mono hB).alloc (Nat.le_trans hB hb3.size) _⟩
      | some u =>
        rw [hu] at ho
        obtain rfl : some (⟨⟨⟨rs ++ [u], rt, rdd⟩, [], []⟩, hd⟩ : Rdr) = o := ho
        have hpx : parse [hd, x] = (⟨[u], t, d⟩, 0) := by rw [parse_cons, hh]; simp [prules, hu]
        rw [hpx] at HP
        have HQ := Lib.hid HP
        have hu1 := rul_one u
        obtain ⟨i0, hi, hz0, hz1, hz2⟩ := info_parts info_rul
        have hm1 : rs.length + 1 ≤ maxLen := by unfold maxLen; omega
        clear hpx hh hx hhl HP hu
        go_enter Tryz.func87, Tryz.ntmps87
        go_wp2_with (first | (go_at_call 134; (with_reducible refine HQ.out.mono ?_); intro e w2 h2; obtain ⟨v, rfl, hs2, hb2⟩ := h2; obtain ⟨ax, kx, rfl⟩ := hs2.shape; have hb3 := on_below hb1 hb2; have hO := O.on hb3) | fail)
        have hs3 : Sl (w.alloc (.cells #[.string (bstr hd), .string (bstr x)] 9)).heap.size w2 5 (.slice ax 1 kx) 1 u.cells := by
          have h9 : rlv [u] = u.cells := List.append_nil _
          have := hs2
          rw [h9] at this
          exact this
        obtain ⟨w3, hw3⟩ : ∃ w3, w2.alloc (.cells #[.slice ax 1 kx, .int .i64 t, .int .i64 d] 24) = w3 := ⟨_, rfl⟩
        have hba : Below w2.heap.size w2 (w2.alloc (.cells #[.slice ax 1 kx, .int .i64 t, .int .i64 d] 24)) := (Below.refl _ _).alloc (Nat.le_refl _) _
        have hbx := (At.alloc w2 [.slice ax 1 kx, .int .i64 t, .int .i64 d] 24).three
        rw [hw3] at hba hbx ⊢
        obtain ⟨hgb, e0, -, e1, -, e2, -⟩ := hbx
        have hO3 := hO.on hba
        have hs4 := hs3.onW hba
        have hc3 := on_below hb3 hba
        have hB3 := Nat.le_trans hB hc3.size
        obtain ⟨hg3, d0, d1, d2, d3, d4, d5⟩ := hO3.cells
        clear hw3 hs2 hs3
        go_region_law (first | (refine step_append_own25 rfl (.tmp 41) (.tmp 43) 22 22 rfl 59 i0 _ 40 Tryz.underlying22 hi hz0 hz1 hz2 rfl (.slice a1 rs.length k1') (.slice ax 1 kx) 1 u.cells (by simp [Act.eval, Act.put]) (by simp [Act.eval, Act.put]) (hO3.s1.onW (Below.refl _ _).drew) (src_sl (hs4.onW (Below.refl _ _).drew) Tryz.underlying22 hu1) hm1 (by omega) hB3 ?_; intro ay ky w7 k1 k2 k3; have hM := Own3.push1 hO3 hB3 (Below.refl w3.heap.size w3).drew k1 k2 k3; have hA7 := hM.2.2; have y0 := (hA7.2 0 (by simp)).1; have y1 := (hA7.2 0 (by simp)).2; have y2 := hA7.1) | fail)
        all_goals go_wp2
        all_goals go_ret
        all_goals exact ⟨rfl, ⟨_, _, _, by
          show Own3 B _ g _ _ _ rt rdd hd (rs ++ [u]).length _ _ (rlv (rs ++ [u])) _ _
          rw [rlv_snoc, List.length_append]
          exact hM.1⟩, (hc3.mono hB).drew.trans hM.2.1⟩
    · have hcl : (0 : Int) < (cs.length : Int) := by have := List.length_pos_iff.2 hc; omega
      have ho2 : o = none := by
        rw [← ho]; unfold rdRule; rw [if_neg (fun e => hc e.2)]
      subst ho2
      subst hl
      go_enter Tryz.func87, Tryz.ntmps87
      go_wp2
      go_ret
      exact ⟨rfl, ⟨_, _, _, O⟩, Below.refl _ _⟩
  · have hcl : (0 : Int) < (ls.length : Int) := by have := List.length_pos_iff.2 hl; omega
    have ho2 : o = none := by
      rw [← ho]; unfold rdRule; rw [if_neg (fun e => hl e.1)]
    subst ho2
    go_enter Tryz.func87, Tryz.ntmps87
    go_wp2
    go_ret
    exact ⟨rfl, ⟨_, _, _, O⟩, Below.refl _ _⟩
end Go.Proofs.YtmimfkhkilijcaaGreatDoor
namespace Go.Proofs.YtmimfkhkilijcaaGreatDoor
set_option maxRecDepth 4000
open Go.ChangeShapes Go.WideShapes Go.ChangeAt Go.RowKit
open PWord PSign PHex PQuote
set_option linter.unusedVariables false
set_option linter.unusedSimpArgs false

theorem sv_logs (ls : List (List UInt8)) (l : List UInt8) : sv ((ls ++ [l]).map bstr) = sv (ls.map bstr) ++ [.string (bstr l)] := by
  rw [List.map_append]
  unfold sv
  rw [List.map_append]
  rfl
set_option maxRecDepth 100000 in
set_option maxHeartbeats 4000000 in
theorem rd_logC (U : List UInt8 → Option (List UInt8)) (hU : UOK U) (r : Rdr) (x : List UInt8) (hx : x.length ≤ 4096) (hsz : r.size ≤ 200000) (B g : Nat) (w : World) (he : EnvE w) (h : RdrC B w g r) (hB : B ≤ w.heap.size) (o : Option Rdr) (ho : rdLog U r x = o) :
    Calls Tryz.prog 88 #[.pointer (some ⟨g, 0, none⟩), .string (bstr x)] w (RdPost B g r o w) := by
  obtain ⟨v1, v2, v3, O⟩ := h
  obtain ⟨⟨⟨rs, rt, rdd⟩, ls, cs⟩, hd⟩ := r
  simp only at O
  unfold Rdr.size at hsz
  simp only at hsz
  obtain ⟨a1, k1', rfl⟩ := O.s1.shape
  obtain ⟨a2, k2', rfl⟩ := O.s2.shape
  obtain ⟨a3, k3', rfl⟩ := O.s3.shape
  obtain ⟨hg, c0, c1, c2, c3, c4, c5⟩ := O.cells
  unfold rdLog at ho
  cases hp : Lib.hasPrefix x tLog with
  | false =>
    rw [hp, if_neg (fun e => by cases e.1)] at ho
    obtain rfl : none = o := ho
    have HC : ∀ w, Hid (Calls Tryz.prog 135 #[.string (bstr x), .string ⟨#[108, 111, 103, 32]⟩] w fun e w' => e = .returned (.tuple #[.string (bstr x), .bool false]) ∧ w = w') := fun w => cut_no x tLog hp w
    go_enter Tryz.func88, Tryz.ntmps88
    go_wp2_with (first | (go_at_call 135; (with_reducible refine (HC _).out.mono ?_); rintro e w2 ⟨rfl, rfl⟩) | fail)
    go_ret
    exact ⟨rfl, ⟨_, _, _, O⟩, Below.refl _ _⟩
  | true =>
    rw [hp] at ho
    have hpl := pre_log hp
    have HC : ∀ w, Hid (Calls Tryz.prog 135 #[.string (bstr x), .string ⟨#[108, 111, 103, 32]⟩] w fun e w' => e = .returned (.tuple #[.string (bstr (x.drop 4)), .bool true]) ∧ w = w') := fun w => cut_yes x tLog (x.drop 4) hpl.symm w
    by_cases hc : cs = []
    · subst hc
      rw [if_pos ⟨rfl, rfl⟩] at ho
      obtain ⟨y, hy⟩ : ∃ y, x.drop 4 = y := ⟨_, rfl⟩
      have hyl : y.length ≤ 4096 := by rw [← hy, List.length_drop]; omega
      rw [hy] at ho HC
      have HQ := fun z hz => Lib.hid (q_unq U hU (bstr y) w he.qu (by rw [tx_size]; exact hyl) z hz)
      clear hpl hy hp hx
      cases hu : U y with
      | none =>
        rw [hu] at ho
        obtain rfl : none = o := ho
        have HQ2 : Hid (Calls Tryz.prog 127 #[.string (bstr y)] w fun e w' => e = .returned (.tuple #[.string (bstr []), .bool false]) ∧ Below w.heap.size w w') := HQ none hu
        clear HQ hu
        go_enter Tryz.func88, Tryz.ntmps88
        go_wp2_with (first | (go_at_call 135; (with_reducible refine (HC _).out.mono ?_); rintro e w2 ⟨rfl, rfl⟩) | (go_at_call 127; (with_reducible refine HQ2.out.mono ?_); rintro e w3 ⟨rfl, hb3⟩) | fail)
        go_ret
        exact ⟨rfl, ⟨_, _, _, O.on hb3⟩, hb3.mono hB⟩
      | some l =>
        rw [hu] at ho
        obtain rfl : some (⟨⟨⟨rs, rt, rdd⟩, ls ++ [l], []⟩, hd⟩ : Rdr) = o := ho
        have HQ2 : Hid (Calls Tryz.prog 127 #[.string (bstr y)] w fun e w' => e = .returned (.tuple #[.string (bstr l), .bool true]) ∧ Below w.heap.size w w') := HQ (some l) hu
        clear HQ hu
        obtain ⟨i0, hi, hz0, hz1, hz2⟩ := info_parts info_str
        have hm1 : ls.length + 1 ≤ maxLen := by unfold maxLen; omega
        obtain ⟨lb, hlb⟩ : ∃ lb, bstr l = lb := ⟨_, rfl⟩
        rw [hlb] at HQ2
        have HLB := Lib.hid hlb
        clear hlb
        go_enter Tryz.func88, Tryz.ntmps88
        go_wp2_with (first | (go_at_call 135; (with_reducible refine (HC _).out.mono ?_); rintro e w2 ⟨rfl, rfl⟩) | (go_at_call 127; (with_reducible refine HQ2.out.mono ?_); rintro e w3 ⟨rfl, hb3⟩; have hO := O.on hb3; obtain ⟨hg3, d0, d1, d2, d3, d4, d5⟩ := hO.cells; have hB3 := Nat.le_trans hB hb3.size) | (at_builtin; refine wpList_append_sl _ rfl (.tmp 36) (.tmp 38) 25 25 rfl 9 i0 _ 16 Tryz.underlying25 hi hz0 hz1 hz2 rfl rfl (hO.s2.alloc _) _ 1 [.string lb] rfl (src_oneN Tryz.underlying25 _ (.string lb) _ _ rfl rfl) hm1 (by omega) (by simp; omega) ?_; intro v7 w7 k1 k2 k3; obtain ⟨ay, ky, rfl⟩ := k1.shape; have hM := Own3.push2 hO hB3 ((Below.refl w3.heap.size w3).alloc (Nat.le_refl _) _) k1 k2 k3; have hA7 := hM.2.2; have y0 := (hA7.2 3 (by simp)).1; have y1 := (hA7.2 3 (by simp)).2; have y2 := hA7.1) | fail)
        go_ret
        exact ⟨rfl, ⟨_, _, _, by
          show Own3 B _ g _ _ _ rt rdd hd _ (ls ++ [l]).length _ _ (sv ((ls ++ [l]).map bstr)) _
          rw [sv_logs, HLB.out, List.length_append]
          exact hM.1⟩, ((hb3.mono hB).alloc hB3 _).trans hM.2.1⟩
    · rw [if_neg (fun e => hc e.2)] at ho
      obtain rfl : none = o := ho
      have hcl : (0 : Int) < (cs.length : Int) := by have := List.length_pos_iff.2 hc; omega
      clear hpl
      go_enter Tryz.func88, Tryz.ntmps88
      go_wp2_with (first | (go_at_call 135; (with_reducible refine (HC _).out.mono ?_); rintro e w2 ⟨rfl, rfl⟩) | fail)
      go_ret
      exact ⟨rfl, ⟨_, _, _, O⟩, Below.refl _ _⟩
end Go.Proofs.YtmimfkhkilijcaaGreatDoor
namespace Go.Proofs.YtmimfkhkilijcaaGreatDoor
set_option maxRecDepth 4000
open Go.ChangeShapes Go.WideShapes Go.ChangeAt Go.RowKit
open PWord PSign PHex PQuote
set_option linter.unusedVariables false
set_option linter.unusedSimpArgs false

theorem src_chD {P : Program} {tx e' : TypeId} (hk : P.underlying tx = some (.slice e')) (w : World) (b : Bool) (n : Int) (e : TypeId) (N : Nat) (hN : w.heap.size = N) : Src P 2 tx (.slice (some ⟨N, 0, none⟩) 1 1) 1 [.bool b, .int .i64 n] (w.alloc (.cells #[.bool b, .int .i64 n] e)).drew := by
  subst hN
  refine Src.ofSlice _ hk ⟨w.heap.size, 0, none⟩ 1 1 [.bool b, .int .i64 n] rfl (fun j u hx => ?_) (fun u hx => ?_)
  · have ha := (At.alloc w [.bool b, .int .i64 n] e).drew
    obtain ⟨hj, rfl⟩ := List.getElem?_eq_some_iff.1 hx
    rw [Addr.add_lit, Nat.zero_add]
    exact (ha.2 j hj).1
  · simp at hx
    rcases hx with rfl | rfl <;> rfl
set_option maxRecDepth 100000 in
set_option maxHeartbeats 4000000 in
theorem rd_chC (r : Rdr) (x : List UInt8) (hx : x.length ≤ 1000000) (hsz : r.size ≤ 200000) (B g : Nat) (w : World) (he : EnvW w) (h : RdrC B w g r) (hB : B ≤ w.heap.size) (o : Option Rdr) (ho : rdCh r x = o) :
    Calls Tryz.prog 89 #[.pointer (some ⟨g, 0, none⟩), .string (bstr x)] w (RdPost B g r o w) := by
  obtain ⟨v1, v2, v3, O⟩ := h
  obtain ⟨⟨⟨rs, rt, rdd⟩, ls, cs⟩, hd⟩ := r
  simp only at O
  unfold Rdr.size at hsz
  simp only at hsz
  obtain ⟨a1, k1', rfl⟩ := O.s1.shape
  obtain ⟨a2, k2', rfl⟩ := O.s2.shape
  obtain ⟨a3, k3', rfl⟩ := O.s3.shape
  have HQ := ch_read (bstr x) w he (by rw [tx_size]; exact hx)
  rw [show (bstr x).data.toList = x from rfl] at HQ
  unfold rdCh at ho
  cases hu : PWord.read x with
  | none =>
    rw [hu] at ho HQ
    obtain rfl : none = o := ho
    have HQ2 : Hid (Calls Tryz.prog 136 #[.string (bstr x)] w fun e w' => e = .returned (.tuple #[.agg #[.bool false, .int .i64 0], .bool false]) ∧ Below w.heap.size w w') := HQ
    clear HQ hu hx
    go_enter Tryz.func89, Tryz.ntmps89
    go_wp2_with (first | (go_at_call 136; (with_reducible refine HQ2.out.mono ?_); rintro e w3 ⟨rfl, hb3⟩) | fail)
    go_ret
    exact ⟨rfl, ⟨_, _, _, (O.on hb3).on ((Below.refl _ _).alloc (Nat.le_refl _) _)⟩, (hb3.mono hB).alloc (Nat.le_trans hB hb3.size) _⟩
  | some c =>
    obtain ⟨ct, cn⟩ := c
    rw [hu] at ho HQ
    obtain rfl : some (⟨⟨⟨rs, rt, rdd⟩, ls, cs ++ [(ct, cn)]⟩, hd⟩ : Rdr) = o := ho
    have HQ2 : Hid (Calls Tryz.prog 136 #[.string (bstr x)] w fun e w' => e = .returned (.tuple #[.agg #[.bool ct, .int .i64 cn], .bool true]) ∧ Below w.heap.size w w') := HQ
    clear HQ hu hx
    obtain ⟨i0, hi, hz0, hz1, hz2⟩ := info_parts info_chC
    have hm1 : cs.length + 1 ≤ maxLen := by unfold maxLen; omega
    go_enter Tryz.func89, Tryz.ntmps89
    go_wp2_with (first | (go_at_call 136; (with_reducible refine HQ2.out.mono ?_); rintro e w2 ⟨rfl, hb2⟩) | fail)
    obtain ⟨w3, hw3⟩ : ∃ w3, w2.alloc (.cells #[.bool ct, .int .i64 cn] 50) = w3 := ⟨_, rfl⟩
    have hba : Below w2.heap.size w2 (w2.alloc (.cells #[.bool ct, .int .i64 cn] 50)) := (Below.refl _ _).alloc (Nat.le_refl _) _
    have hbx := (At.alloc w2 [.bool ct, .int .i64 cn] 50).two
    rw [hw3] at hba hbx ⊢
    obtain ⟨hgb, e0, -, e1, -⟩ := hbx
    have hO3 := (O.on hb2).on hba
    have hc3 := on_below hb2 hba
    have hB3 := Nat.le_trans hB hc3.size
    obtain ⟨hg3, d0, d1, d2, d3, d4, d5⟩ := hO3.cells
    have hS3 := fun wx (hx : Below w3.heap.size w3 wx) => hO3.s3.onW hx
    clear hw3
    go_region_law (first | (refine step_append_own25 rfl (.tmp 19) (.tmp 21) 26 26 rfl 50 i0 _ 16 Tryz.underlying26 hi hz0 hz1 hz2 rfl (.slice a3 cs.length k3') (.slice (some ⟨w3.heap.size, 0, none⟩) 1 1) 1 [.bool ct, .int .i64 cn] (by simp [Act.eval, Act.put]) (by simp [Act.eval, Act.put]) (hS3 _ (((Below.refl _ _).alloc (Nat.le_refl _) _).drew)) (src_chD Tryz.underlying26 w3 ct cn 50 _ rfl) hm1 (by omega) (by simp; omega) ?_; intro ay ky w7 k1 k2 k3; have hM := Own3.push3 hO3 hB3 (((Below.refl w3.heap.size w3).alloc (Nat.le_refl _) (.cells #[.bool ct, .int .i64 cn] 50)).drew) k1 k2 k3; have hA7 := hM.2.2; have y0 := (hA7.2 4 (by simp)).1; have y1 := (hA7.2 4 (by simp)).2; have y2 := hA7.1) | fail)
    all_goals go_wp2
    all_goals go_ret
    all_goals exact ⟨rfl, ⟨_, _, _, by
      show Own3 B _ g _ _ _ rt rdd hd _ _ (cs ++ [(ct, cn)]).length _ _ ((cs ++ [(ct, cn)]).flatMap chc)
      rw [List.flatMap_append, List.length_append]
      exact hM.1⟩, ((hc3.mono hB).alloc hB3 _).drew.trans hM.2.1⟩
end Go.Proofs.YtmimfkhkilijcaaGreatDoor
namespace Go.Proofs.YtmimfkhkilijcaaGreatDoor
set_option maxRecDepth 4000
open Go.ChangeShapes Go.WideShapes Go.ChangeAt Go.RowKit
open PWord PSign PHex PQuote
set_option linter.unusedVariables false
set_option linter.unusedSimpArgs false

set_option maxRecDepth 100000 in
set_option maxHeartbeats 4000000 in
theorem rd_reads (U : List UInt8 → Option (List UInt8)) (hU : UOK U) (r : Rdr) (x : List UInt8) (hx : x.length ≤ 4096) (hhl : r.head.length ≤ 4096) (hsz : r.size ≤ 200000) (hhd : HdOk r) (h0 : r.head = [] → r = noRdr) (w0 : World) (he : EnvE w0) (hnm : Names w0) (g : Nat) (w : World) (hb : Below w0.heap.size w0 w) (h : RdrC w0.heap.size w g r) (o : Option Rdr) (ho : rd U r x = o) :
    Calls Tryz.prog 42 #[.pointer (some ⟨g, 0, none⟩), .string (bstr x)] w (RdPost w0.heap.size g r o w) := by
  have hB := hb.size
  have hew := he.on hb
  have hnw := hnm.on hb
  by_cases hh : r.head = []
  · obtain rfl := h0 hh
    have ho2 : rdHead x = o := by rw [← ho]; rfl
    have HH := Lib.hid (rd_headC x (by omega) w0.heap.size g w hew.wd hnw h hB o ho2)
    obtain ⟨v1, v2, v3, O⟩ := h
    obtain ⟨hg, c0, c1, c2, c3, c4, c5⟩ := O.cells
    clear ho ho2 hh h0 hhd
    go_enter Tryz.func42, Tryz.ntmps42
    go_wp2_with (first | (go_at_call 86; (with_reducible refine HH.out.mono ?_); intro e w2 h2; obtain ⟨rfl, hR, hb2⟩ := h2) | fail)
    go_ret
    exact ⟨rfl, hR, hb2⟩
  · obtain ⟨td, htd⟩ := hhd hh
    obtain ⟨t, d⟩ := td
    unfold rd at ho
    rw [if_neg hh] at ho
    unfold rdMore at ho
    have HR := fun z hz => Lib.hid (rd_ruleC r x (by omega) (by omega) hsz t d htd w0.heap.size g w hew.wd hnw h hB z hz)
    have HL := fun z hz wx (h1 : Below w0.heap.size w0 wx) (h2 : RdrC w0.heap.size wx g r) => Lib.hid (rd_logC U hU r x hx hsz w0.heap.size g wx (he.on h1) h2 h1.size z hz)
    have HC := fun z hz wx (h1 : Below w0.heap.size w0 wx) (h2 : RdrC w0.heap.size wx g r) => Lib.hid (rd_chC r x (by omega) hsz w0.heap.size g wx (he.on h1).wd h2 h1.size z hz)
    obtain ⟨v1, v2, v3, O⟩ := h
    obtain ⟨hg, c0, c1, c2, c3, c4, c5⟩ := O.cells
    have heq : (r.head == []) = false := by simpa using hh
    cases h1 : rdRule r x with
    | some r' =>
      rw [h1] at ho
      obtain rfl : some r' = o := ho
      have HR2 := HR _ h1
      clear HR HL HC h1 htd hh h0
      go_enter Tryz.func42, Tryz.ntmps42
      go_wp2_with (first | (go_at_call 87; (with_reducible refine HR2.out.mono ?_); intro e w2 h2; obtain ⟨rfl, hR, hb2⟩ := h2) | fail)
      go_ret
      exact ⟨rfl, hR, hb2⟩
    | none =>
      rw [h1] at ho
      have HR2 := HR _ h1
      clear HR
      cases h2 : rdLog U r x with
      | some r' =>
        rw [h2] at ho
        obtain rfl : some r' = o := ho
        have HL2 := HL _ h2
        clear HL HC h1 h2 htd hh h0
        go_enter Tryz.func42, Tryz.ntmps42
        go_wp2_with (first | (go_at_call 87; (with_reducible refine HR2.out.mono ?_); intro e w2 h2; obtain ⟨rfl, hR, hb2⟩ := h2; have HL3 := HL2 w2 (hb.trans hb2) hR) | (go_at_call 88; (with_reducible refine HL3.out.mono ?_); intro e w3 h3; obtain ⟨rfl, hR3, hb3⟩ := h3) | fail)
        go_ret
        exact ⟨rfl, hR3, hb2.trans hb3⟩
      | none =>
        rw [h2] at ho
        have HL2 := HL _ h2
        have HC2 := HC _ ho
        clear HL HC h1 h2 htd hh h0 ho
        cases o with
        | none =>
          go_enter Tryz.func42, Tryz.ntmps42
          go_wp2_with (first | (go_at_call 87; (with_reducible refine HR2.out.mono ?_); intro e w2 h2; obtain ⟨rfl, hR, hb2⟩ := h2; have HL3 := HL2 w2 (hb.trans hb2) hR) | (go_at_call 88; (with_reducible refine HL3.out.mono ?_); intro e w3 h3; obtain ⟨rfl, hR3, hb3⟩ := h3; have HC3 := HC2 w3 ((hb.trans hb2).trans hb3) hR3) | (go_at_call 89; (with_reducible refine HC3.out.mono ?_); intro e w4 h4; obtain ⟨rfl, hR4, hb4⟩ := h4) | fail)
          go_ret
          exact ⟨rfl, hR4, (hb2.trans hb3).trans hb4⟩
        | some r' =>
          go_enter Tryz.func42, Tryz.ntmps42
          go_wp2_with (first | (go_at_call 87; (with_reducible refine HR2.out.mono ?_); intro e w2 h2; obtain ⟨rfl, hR, hb2⟩ := h2; have HL3 := HL2 w2 (hb.trans hb2) hR) | (go_at_call 88; (with_reducible refine HL3.out.mono ?_); intro e w3 h3; obtain ⟨rfl, hR3, hb3⟩ := h3; have HC3 := HC2 w3 ((hb.trans hb2).trans hb3) hR3) | (go_at_call 89; (with_reducible refine HC3.out.mono ?_); intro e w4 h4; obtain ⟨rfl, hR4, hb4⟩ := h4) | fail)
          go_ret
          exact ⟨rfl, hR4, (hb2.trans hb3).trans hb4⟩
end Go.Proofs.YtmimfkhkilijcaaGreatDoor
