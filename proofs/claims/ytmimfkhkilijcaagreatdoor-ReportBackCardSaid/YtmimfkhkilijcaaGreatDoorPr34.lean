/- KCase; RepRdr; RepTold: what is reached of them. -/
import Derived.Laws.StructEq
import Derived.Test.YtmimfkhkilijcaaGreatDoorPr01
import Derived.Test.YtmimfkhkilijcaaGreatDoorPr15
import Derived.Test.YtmimfkhkilijcaaGreatDoorPr16
import Derived.Test.YtmimfkhkilijcaaGreatDoorPr17
import Derived.Test.YtmimfkhkilijcaaGreatDoorPr30
import Derived.Test.YtmimfkhkilijcaaGreatDoorPr32
import Derived.Test.YtmimfkhkilijcaaGreatDoorPr33
namespace Go.Proofs.YtmimfkhkilijcaaGreatDoor
set_option maxRecDepth 4000
open Go.ChangeShapes Go.WideShapes Go.ChangeAt Go.RowKit
open PEv
set_option linter.unusedVariables false
set_option linter.unusedSimpArgs false

end Go.Proofs.YtmimfkhkilijcaaGreatDoor

/- What comes in: a configuration, logs, and choices; whether they are few; what layer 23's statements say first. -/
namespace Go.Proofs.YtmimfkhkilijcaaGreatDoor
set_option maxRecDepth 4000
open Go.ChangeShapes Go.WideShapes Go.ChangeAt Go.RowKit
open PHist PRing PSat PClamp PBound PFrame PVar PCrc PSign PTree PEv
set_option linter.unusedVariables false
set_option linter.unusedSimpArgs false

/-- A case, as it lies in memory. -/
structure CaseC (w : World) (a : Option Addr) (n c : Nat) (t d : Int) (b : Option Addr) (m c2 : Nat) (q : Option Addr) (nq c3 : Nat) (rs : List Rul) (ls : List ByteArray) (cs : List (Bool × Int)) : Prop where
  hru : RowU w a rs
  hn : n = rs.length
  hnc : n ≤ c
  hcm : c ≤ maxLen
  hfit : ∀ r ∈ rs, r.Fits
  ht : in64 t
  hd : in64 d
  hlo : RowS w b ls
  hm : m = ls.length
  hmc : m ≤ c2
  hc2m : c2 ≤ maxLen
  hch : RowG w 2 chc q cs
  hnq : nq = cs.length
  hqc : nq ≤ c3
  hc3m : c3 ≤ maxLen
  hci : ∀ x ∈ cs, in64 x.2
  hsl : ∀ s ∈ ls, s.size ≤ maxLen
abbrev ShCase : Sh := .pair (.pair (.sl ShU) (.pair (.int .i64) (.pair (.int .i64) .unit))) (.pair (.sl .str) (.pair (.sl ShC) .unit))
theorem sl_shape {w : World} {s : Sh} {cs : List Value} {l : List s.T} (h : Rd w (.sl s) cs l) : ∃ a n c, cs = [.slice a n c] := by
  rcases h with ⟨rfl, _⟩ | ⟨x, cap, el, rfl, _⟩
  · exact ⟨_, _, _, rfl⟩
  · exact ⟨_, _, _, rfl⟩
theorem Rd.strs_size {w : World} {cs : List Value} {l : List ByteArray} (h : Rd w (.sl .str) cs l) : ∀ s ∈ l, s.size ≤ maxLen := by
  rcases h with ⟨-, h2⟩ | ⟨x, cap, el, -, -, -, hx⟩
  · have h3 : l = [] := h2
    subst h3
    intro s hs
    cases hs
  · intro s hs
    obtain ⟨i, hi, rfl⟩ := List.mem_iff_getElem.1 hs
    exact (hx i l[i] (List.getElem?_eq_getElem hi)).2.2
theorem Rd.case {w : World} {c0 : Array Value} {d : ((List (Int × Int × Int × Int × Int × Unit)) × Int × Int × Unit) × (List ByteArray) × (List (Bool × Int × Unit)) × Unit} (h : Rd w ShCase c0.toList d) :
    ∃ a n c t dr b m c2 q nq c3 rs ls cs, c0 = #[.slice a n c, .int .i64 t, .int .i64 dr, .slice b m c2, .slice q nq c3] ∧ CaseC w a n c t dr b m c2 q nq c3 rs ls cs := by
  obtain ⟨⟨l, t, dr, u⟩, ls, lc, u2⟩ := d
  obtain ⟨x1, y1, e0, ⟨x2, y2, e2, h2, x3, y3, e3, ⟨e4, h4⟩, x5, y5, e5, ⟨e6, h6⟩, h7⟩, x8, y8, e8, h8, x9, y9, e9, h9, h10⟩ := h
  have h7' : y5 = [] := h7
  have h10' : y9 = [] := h10
  obtain ⟨a, n, c, rfl⟩ := sl_shape h2
  obtain ⟨b, m, c2, rfl⟩ := sl_shape h8
  obtain ⟨q, nq, c3, rfl⟩ := sl_shape h9
  subst h7' h10' e9 e8 e6 e5 e4 e3 e2
  have hR : n = l.length ∧ n ≤ c ∧ c ≤ maxLen ∧ RowG w 5 ruf a l ∧ ∀ x ∈ l, ruq x := Rd.rowG (s := ShU) 5 rfl (by decide) ruf ruq (fun w cs d h => Rd.ru h) h2
  obtain ⟨g1, g2, g3, g4, g5⟩ := hR
  obtain ⟨s1, s2, s3, s4⟩ := Rd.strs h8
  obtain ⟨k1, k2, k3, k4, k5⟩ := Rd.chs h9
  refine ⟨a, n, c, t, dr, b, m, c2, q, nq, c3, l.map toU, ls, lc.map toC, ?_, ⟨RowG.map (f := Rul.cells) (g := toU) g4, by simpa using g1, g2, g3, fun r hr => ?_, bounds_i64 h4, bounds_i64 h6, s4, s1, s2, s3, k4, k1, k2, k3, k5, Rd.strs_size h8⟩⟩
  · apply Array.ext'
    rw [e0]
    rfl
  · obtain ⟨y, hy, rfl⟩ := List.mem_map.1 hr
    exact g5 y hy
theorem CaseC.on {w w' : World} {a : Option Addr} {n c : Nat} {t d : Int} {b : Option Addr} {m c2 : Nat} {q : Option Addr} {nq c3 : Nat} {rs : List Rul} {ls : List ByteArray} {cs : List (Bool × Int)} (h : CaseC w a n c t d b m c2 q nq c3 rs ls cs) (hb : Below w.heap.size w w') : CaseC w' a n c t d b m c2 q nq c3 rs ls cs :=
  ⟨h.hru.below hb, h.hn, h.hnc, h.hcm, h.hfit, h.ht, h.hd, h.hlo.below hb, h.hm, h.hmc, h.hc2m, h.hch.below hb, h.hnq, h.hqc, h.hc3m, h.hci, h.hsl⟩

/-- Few, and short. -/
def SmallC (n m nq : Nat) (ls : List ByteArray) : Prop := m ≤ 8 ∧ nq ≤ 120 ∧ n ≤ 5000 ∧ ∀ s ∈ ls, s.size ≤ 400
def SmallPost (n m nq : Nat) (ls : List ByteArray) (w : World) (e : Ending) (w' : World) : Prop := ∃ z : Int, e = .returned (.int .i64 z) ∧ (z = 0 ∨ (z = 1 ∧ SmallC n m nq ls)) ∧ Below w.heap.size w w'
set_option maxHeartbeats 4000000 in
theorem law_small (a : Option Addr) (n c : Nat) (t d : Int) (b : Option Addr) (m c2 : Nat) (q : Option Addr) (nq c3 : Nat) (ls : List ByteArray) (w : World) (h : RowS w b ls) (hm : m = ls.length) (hl : ∀ s ∈ ls, s.size ≤ 9223372036854775807) :
    Calls Tryz.prog 9 #[.agg #[.slice a n c, .int .i64 t, .int .i64 d, .slice b m c2, .slice q nq c3]] w (SmallPost n m nq ls w) := by
  have hb0 : Below w.heap.size w (w.alloc (.cells #[.slice a n c, .int .i64 t, .int .i64 d, .slice b m c2, .slice q nq c3] 28)) := (Below.refl _ _).alloc (Nat.le_refl _) _
  by_cases h1 : m ≤ 8
  · by_cases h2 : nq ≤ 120
    · by_cases h3 : n ≤ 5000
      · have h1' : (m : Int) ≤ 8 := by omega
        have h2' : (nq : Int) ≤ 120 := by omega
        have h3' : (n : Int) ≤ 5000 := by omega
        have HM := Lib.hid hm
        have H1 := Lib.hid h1
        have H2 := Lib.hid h2
        have H3 := Lib.hid h3
        have hrow := h.below hb0
        clear hm h1 h2 h3
        go_enter Tryz.func9, Tryz.ntmps9
        go_wp2
        generalize w.alloc (.cells #[.slice a n c, .int .i64 t, .int .i64 d, .slice b m c2, .slice q nq c3] 28) = w0 at *
        go_loopw [4, 25] (fun v i wr => ∃ k : Nat, k ≤ m ∧ i = .int .i64 k ∧ wr = w0 ∧ Hid (∀ j (hj : j < ls.length), j < k → (ls[j]).size ≤ 400)) (fun _ i _ => m - (intOf i).toNat)
        case atStart => exact ⟨0, Nat.zero_le _, rfl, rfl, fun j _ h => (Nat.not_lt_zero _ h).elim⟩
        case round =>
          obtain ⟨k, hk, rfl, rfl, hall⟩ := hrel
          by_cases hlt : k < m
          · have hkl : k < ls.length := by rw [← HM.out]; exact hlt
            obtain ⟨bs, offs, hs', -, -⟩ := hrow.at_ k hkl
            subst hs'
            obtain ⟨hbb, r0⟩ := hrow.cell k hkl
            generalize hx : ls[k] = x at *
            have HX := Lib.hid hx
            clear hx
            by_cases h4 : x.size ≤ 400
            · have h4' : (x.size : Int) ≤ 400 := by omega
              have H4 := Lib.hid h4
              clear h4
              go_wp2
              go_roundw
              case rel => exact ⟨k + 1, by omega, by go_num, trivial, fun j hj hjk => by
                by_cases e : j = k
                · subst e; rw [HX.out]; exact H4.out
                · exact hall.out j hj (by omega)⟩
              case measure => simp [intOf]; omega
            · have h4' : (400 : Int) < (x.size : Int) := by omega
              clear h4
              go_wp2
              go_ret
              exact ⟨0, rfl, .inl rfl, hb0⟩
          · obtain rfl : k = m := by omega
            go_wp2
            go_ret
            exact ⟨1, rfl, .inr ⟨rfl, H1.out, H2.out, H3.out, fun s hs => by
              obtain ⟨j, hj, rfl⟩ := List.mem_iff_getElem.1 hs
              exact hall.out j hj (by rw [HM.out]; exact hj)⟩, hb0⟩
      · have h1' : (m : Int) ≤ 8 := by omega
        have h2' : (nq : Int) ≤ 120 := by omega
        have h3' : (5000 : Int) < (n : Int) := by omega
        clear h1 h2 h3 hm
        go_enter Tryz.func9, Tryz.ntmps9
        go_wp2
        go_ret
        exact ⟨0, rfl, .inl rfl, hb0⟩
    · have h1' : (m : Int) ≤ 8 := by omega
      have h2' : (120 : Int) < (nq : Int) := by omega
      clear h1 h2 hm
      go_enter Tryz.func9, Tryz.ntmps9
      go_wp2
      go_ret
      exact ⟨0, rfl, .inl rfl, hb0⟩
  · have h1' : (8 : Int) < (m : Int) := by omega
    clear h1 hm
    go_enter Tryz.func9, Tryz.ntmps9
    go_wp2
    go_ret
    exact ⟨0, rfl, .inl rfl, hb0⟩

/- One empty log. -/
theorem one_new : St.newE 1 [⟨0, 0, 0, 0, 0⟩] [[]] = [.mark 9223372036854775807] := by
  have hp : Pt.raw 1 ⟨0, 0, 0, 0, 0⟩ [] = ⟨⟨0, 0, 0, 0, 0⟩, [], 0, 0, 0, 1⟩ := by unfold Pt.raw; rw [parse_nil]
  unfold St.newE begun raws
  simp only [List.zipWith_cons_cons, List.zipWith_nil_right, hp, List.map_cons, List.map_nil, List.length_cons, List.length_nil]
  rfl
theorem one_nerr : nerr [⟨0, 0, 0, 0, 0⟩] 1 0 1 = 0 := by decide
end Go.Proofs.YtmimfkhkilijcaaGreatDoor

/- What layer 23's statements say first: one empty log. -/
namespace Go.Proofs.YtmimfkhkilijcaaGreatDoor
set_option maxRecDepth 4000
open Go.ChangeShapes Go.WideShapes Go.ChangeAt Go.RowKit
open PHist PRing PSat PClamp PBound PFrame PVar PCrc PSign PTree PEv
set_option linter.unusedVariables false
set_option linter.unusedSimpArgs false

end Go.Proofs.YtmimfkhkilijcaaGreatDoor
namespace Go.Proofs.YtmimfkhkilijcaaGreatDoor
set_option maxRecDepth 4000
open Go.ChangeShapes Go.WideShapes Go.ChangeAt Go.RowKit
open PWord PSign PHex PQuote
set_option linter.unusedVariables false
set_option linter.unusedSimpArgs false

/-- Three rows of one's own, a block that holds them, and what lies beside them there. -/
structure Own3 (B : Nat) (w : World) (g : Nat) (v1 v2 v3 : Value) (t d : Int) (h : List UInt8) (n1 n2 n3 : Nat) (x1 x2 x3 : List Value) : Prop where
  blk : At w g [v1, .int .i64 t, .int .i64 d, v2, v3, .string (bstr h)]
  lo : B ≤ g
  s1 : Sl B w 5 v1 n1 x1
  s2 : Sl B w 1 v2 n2 x2
  s3 : Sl B w 2 v3 n3 x3
  f1 : ∀ k, v1.ownBlock = some k → k ≠ g
  f2 : ∀ k, v2.ownBlock = some k → k ≠ g
  f3 : ∀ k, v3.ownBlock = some k → k ≠ g
  a12 : ∀ k, v1.ownBlock = some k → v2.ownBlock ≠ some k
  a13 : ∀ k, v1.ownBlock = some k → v3.ownBlock ≠ some k
  a23 : ∀ k, v2.ownBlock = some k → v3.ownBlock ≠ some k
section
variable {B : Nat} {w w1 w' : World} {g : Nat} {v1 v2 v3 v' : Value} {t d : Int} {h : List UInt8} {n1 n2 n3 n' : Nat} {x1 x2 x3 x' : List Value}
theorem Own3.on (o : Own3 B w g v1 v2 v3 t d h n1 n2 n3 x1 x2 x3) (hb : Below w.heap.size w w') : Own3 B w' g v1 v2 v3 t d h n1 n2 n3 x1 x2 x3 :=
  ⟨o.blk.on hb, o.lo, o.s1.onW hb, o.s2.onW hb, o.s3.onW hb, o.f1, o.f2, o.f3, o.a12, o.a13, o.a23⟩
theorem Own3.cells (o : Own3 B w g v1 v2 v3 t d h n1 n2 n3 x1 x2 x3) : g < w.heap.size ∧ w.cell? ⟨g, 0, none⟩ = some v1 ∧ w.cell? ⟨g, 1, none⟩ = some (.int .i64 t) ∧ w.cell? ⟨g, 2, none⟩ = some (.int .i64 d) ∧ w.cell? ⟨g, 3, none⟩ = some v2 ∧ w.cell? ⟨g, 4, none⟩ = some v3 ∧ w.cell? ⟨g, 5, none⟩ = some (.string (bstr h)) :=
  ⟨o.blk.1, (o.blk.2 0 (by simp)).1, (o.blk.2 1 (by simp)).1, (o.blk.2 2 (by simp)).1, (o.blk.2 3 (by simp)).1, (o.blk.2 4 (by simp)).1, (o.blk.2 5 (by simp)).1⟩
theorem Own3.free (o : Own3 B w g v1 v2 v3 t d h n1 n2 n3 x1 x2 x3) : w.frozen? ⟨g, 0, none⟩ = false ∧ w.frozen? ⟨g, 1, none⟩ = false ∧ w.frozen? ⟨g, 2, none⟩ = false ∧ w.frozen? ⟨g, 3, none⟩ = false ∧ w.frozen? ⟨g, 4, none⟩ = false ∧ w.frozen? ⟨g, 5, none⟩ = false :=
  ⟨(o.blk.2 0 (by simp)).2, (o.blk.2 1 (by simp)).2, (o.blk.2 2 (by simp)).2, (o.blk.2 3 (by simp)).2, (o.blk.2 4 (by simp)).2, (o.blk.2 5 (by simp)).2⟩
theorem set_below {a : World} (hb : Below B a w) (hB : B ≤ w.heap.size) (hg : B ≤ g) (i : Nat) (v : Value) : Below B a (w.setCell ⟨g, i, none⟩ v) :=
  hb.upd ((Upd.refl (fun k => k = g) w).setCell (p := ⟨g, i, none⟩) (fun _ => rfl) v) hB (fun k _ e => by rw [e]; exact hg)
theorem Own3.push1 (o : Own3 B w g v1 v2 v3 t d h n1 n2 n3 x1 x2 x3) (hB : B ≤ w.heap.size) (hb : Below w.heap.size w w1) (k1 : Sl B w' 5 v' n' x') (k2 : Upd (fun k => v1.ownBlock = some k) w1 w') (k3 : ∀ k, v'.ownBlock = some k → v1.ownBlock = some k ∨ w1.heap.size ≤ k) :
    Own3 B (w'.setCell ⟨g, 0, none⟩ v') g v' v2 v3 t d h n' n2 n3 x' x2 x3 ∧ Below B w1 (w'.setCell ⟨g, 0, none⟩ v') ∧ At w' g [v1, .int .i64 t, .int .i64 d, v2, v3, .string (bstr h)] := by
  have o1 := o.on hb
  have hg1 := o1.blk.1
  have hgv : ∀ k, v'.ownBlock = some k → k ≠ g := fun k hk => by
    rcases k3 k hk with h5 | h5
    · exact o.f1 k h5
    · omega
  have hA := o1.blk.upd k2 (fun e => o.f1 g e rfl)
  have hu : Upd (fun k => k = g) w' (w'.setCell ⟨g, 0, none⟩ v') := (Upd.refl (fun k => k = g) w').setCell (p := ⟨g, 0, none⟩) (fun _ => rfl) v'
  have hB1 : B ≤ w1.heap.size := Nat.le_trans hB hb.size
  refine ⟨⟨hA.set 0 (by simp) v', o.lo, (k1.upd hu (fun k hk e => hgv k hk e)), ((o1.s2.upd k2 (fun k hk e => o1.a12 k e hk)).upd hu (fun k hk e => o1.f2 k hk e)), ((o1.s3.upd k2 (fun k hk e => o1.a13 k e hk)).upd hu (fun k hk e => o1.f3 k hk e)), hgv, o1.f2, o1.f3, fun k hk e => (k3 k hk).elim (fun h5 => o1.a12 k h5 e) (fun h5 => by have := (o1.s2.lt k e).2; omega), fun k hk e => (k3 k hk).elim (fun h5 => o1.a13 k h5 e) (fun h5 => by have := (o1.s3.lt k e).2; omega), o1.a23⟩, ?_, hA⟩
  exact set_below ((Below.refl B w1).upd k2 hB1 (fun k hk e => (o1.s1.lt k e).1)) (Nat.le_trans hB1 k2.size) o.lo _ _
theorem Own3.push2 (o : Own3 B w g v1 v2 v3 t d h n1 n2 n3 x1 x2 x3) (hB : B ≤ w.heap.size) (hb : Below w.heap.size w w1) (k1 : Sl B w' 1 v' n' x') (k2 : Upd (fun k => v2.ownBlock = some k) w1 w') (k3 : ∀ k, v'.ownBlock = some k → v2.ownBlock = some k ∨ w1.heap.size ≤ k) :
    Own3 B (w'.setCell ⟨g, 3, none⟩ v') g v1 v' v3 t d h n1 n' n3 x1 x' x3 ∧ Below B w1 (w'.setCell ⟨g, 3, none⟩ v') ∧ At w' g [v1, .int .i64 t, .int .i64 d, v2, v3, .string (bstr h)] := by
  have o1 := o.on hb
  have hg1 := o1.blk.1
  have hgv : ∀ k, v'.ownBlock = some k → k ≠ g := fun k hk => by
    rcases k3 k hk with h5 | h5
    · exact o.f2 k h5
    · omega
  have hA := o1.blk.upd k2 (fun e => o.f2 g e rfl)
  have hu : Upd (fun k => k = g) w' (w'.setCell ⟨g, 3, none⟩ v') := (Upd.refl (fun k => k = g) w').setCell (p := ⟨g, 3, none⟩) (fun _ => rfl) v'
  have hB1 : B ≤ w1.heap.size := Nat.le_trans hB hb.size
  refine ⟨⟨hA.set 3 (by simp) v', o.lo, ((o1.s1.upd k2 (fun k hk e => o1.a12 k hk e)).upd hu (fun k hk e => o1.f1 k hk e)), (k1.upd hu (fun k hk e => hgv k hk e)), ((o1.s3.upd k2 (fun k hk e => o1.a23 k e hk)).upd hu (fun k hk e => o1.f3 k hk e)), o1.f1, hgv, o1.f3, fun k hk e => (k3 k e).elim (fun h5 => o1.a12 k hk h5) (fun h5 => by have := (o1.s1.lt k hk).2; omega), o1.a13, fun k hk e => (k3 k hk).elim (fun h5 => o1.a23 k h5 e) (fun h5 => by have := (o1.s3.lt k e).2; omega)⟩, ?_, hA⟩
  exact set_below ((Below.refl B w1).upd k2 hB1 (fun k hk e => (o1.s2.lt k e).1)) (Nat.le_trans hB1 k2.size) o.lo _ _
theorem Own3.push3 (o : Own3 B w g v1 v2 v3 t d h n1 n2 n3 x1 x2 x3) (hB : B ≤ w.heap.size) (hb : Below w.heap.size w w1) (k1 : Sl B w' 2 v' n' x') (k2 : Upd (fun k => v3.ownBlock = some k) w1 w') (k3 : ∀ k, v'.ownBlock = some k → v3.ownBlock = some k ∨ w1.heap.size ≤ k) :
    Own3 B (w'.setCell ⟨g, 4, none⟩ v') g v1 v2 v' t d h n1 n2 n' x1 x2 x' ∧ Below B w1 (w'.setCell ⟨g, 4, none⟩ v') ∧ At w' g [v1, .int .i64 t, .int .i64 d, v2, v3, .string (bstr h)] := by
  have o1 := o.on hb
  have hg1 := o1.blk.1
  have hgv : ∀ k, v'.ownBlock = some k → k ≠ g := fun k hk => by
    rcases k3 k hk with h5 | h5
    · exact o.f3 k h5
    · omega
  have hA := o1.blk.upd k2 (fun e => o.f3 g e rfl)
  have hu : Upd (fun k => k = g) w' (w'.setCell ⟨g, 4, none⟩ v') := (Upd.refl (fun k => k = g) w').setCell (p := ⟨g, 4, none⟩) (fun _ => rfl) v'
  have hB1 : B ≤ w1.heap.size := Nat.le_trans hB hb.size
  refine ⟨⟨hA.set 4 (by simp) v', o.lo, ((o1.s1.upd k2 (fun k hk e => o1.a13 k hk e)).upd hu (fun k hk e => o1.f1 k hk e)), ((o1.s2.upd k2 (fun k hk e => o1.a23 k hk e)).upd hu (fun k hk e => o1.f2 k hk e)), (k1.upd hu (fun k hk e => hgv k hk e)), o1.f1, o1.f2, hgv, o1.a12, fun k hk e => (k3 k e).elim (fun h5 => o1.a13 k hk h5) (fun h5 => by have := (o1.s1.lt k hk).2; omega), fun k hk e => (k3 k e).elim (fun h5 => o1.a23 k hk h5) (fun h5 => by have := (o1.s2.lt k hk).2; omega)⟩, ?_, hA⟩
  exact set_below ((Below.refl B w1).upd k2 hB1 (fun k hk e => (o1.s3.lt k e).1)) (Nat.le_trans hB1 k2.size) o.lo _ _
/-- The first line, read. -/
theorem Own3.first (o : Own3 B w g v1 v2 v3 t d h n1 n2 n3 x1 x2 x3) (hB : B ≤ w.heap.size) (k1 : Sl B w 5 v' n' x') (hf : ∀ k, v'.ownBlock = some k → k ≠ g ∧ v2.ownBlock ≠ some k ∧ v3.ownBlock ≠ some k) (t' d' : Int) (h' : List UInt8) :
    Own3 B ((((w.setCell ⟨g, 0, none⟩ v').setCell ⟨g, 1, none⟩ (.int .i64 t')).setCell ⟨g, 2, none⟩ (.int .i64 d')).setCell ⟨g, 5, none⟩ (.string (bstr h'))) g v' v2 v3 t' d' h' n' n2 n3 x' x2 x3 ∧ Below B w ((((w.setCell ⟨g, 0, none⟩ v').setCell ⟨g, 1, none⟩ (.int .i64 t')).setCell ⟨g, 2, none⟩ (.int .i64 d')).setCell ⟨g, 5, none⟩ (.string (bstr h'))) := by
  have hu : Upd (fun k => k = g) w ((((w.setCell ⟨g, 0, none⟩ v').setCell ⟨g, 1, none⟩ (.int .i64 t')).setCell ⟨g, 2, none⟩ (.int .i64 d')).setCell ⟨g, 5, none⟩ (.string (bstr h'))) :=
    ((((Upd.refl (fun k => k = g) w).setCell (p := ⟨g, 0, none⟩) (fun _ => rfl) v').setCell (p := ⟨g, 1, none⟩) (fun _ => rfl) _).setCell (p := ⟨g, 2, none⟩) (fun _ => rfl) _).setCell (p := ⟨g, 5, none⟩) (fun _ => rfl) _
  exact ⟨⟨(((o.blk.set 0 (by simp) v').set 1 (by simp) (.int .i64 t')).set 2 (by simp) (.int .i64 d')).set 5 (by simp) (.string (bstr h')), o.lo, k1.upd hu (fun k hk e => (hf k hk).1 e), o.s2.upd hu (fun k hk e => o.f2 k hk e), o.s3.upd hu (fun k hk e => o.f3 k hk e), fun k hk => (hf k hk).1, o.f2, o.f3, fun k hk => (hf k hk).2.1, fun k hk => (hf k hk).2.2, o.a23⟩,
    (Below.refl B w).upd hu hB (fun k _ e => by rw [e]; exact o.lo)⟩
end
theorem rlv_flat : ∀ rs : List Rul, rlv rs = rs.flatMap Rul.cells
  | [] => rfl
  | r :: rs => by show r.cells ++ rlv rs = _; rw [rlv_flat rs]; rfl
/-- A reader. -/
def RdrC (B : Nat) (w : World) (g : Nat) (r : Rdr) : Prop :=
  ∃ v1 v2 v3, Own3 B w g v1 v2 v3 r.s.cfg.timeout r.s.cfg.drift r.head r.s.cfg.rules.length r.s.logs.length r.s.chs.length (rlv r.s.cfg.rules) (sv (r.s.logs.map bstr)) (r.s.chs.flatMap chc)
theorem RdrC.on {B : Nat} {w w' : World} {g : Nat} {r : Rdr} (h : RdrC B w g r) (hb : Below w.heap.size w w') : RdrC B w' g r := by
  obtain ⟨v1, v2, v3, o⟩ := h
  exact ⟨v1, v2, v3, o.on hb⟩
/-- Behind a line. -/
def RdPost (B g : Nat) (r : Rdr) (o : Option Rdr) (w : World) (e : Ending) (w' : World) : Prop :=
  e = .returned (.bool o.isSome) ∧ RdrC B w' g (o.getD r) ∧ Below B w w'
/-- Its first line is one. -/
def HdOk (r : Rdr) : Prop := r.head ≠ [] → ∃ td, headOf r.head = some td
theorem hdOk_rd {U : List UInt8 → Option (List UInt8)} {r r' : Rdr} {x : List UInt8} (hr : HdOk r) (h : rd U r x = some r') : HdOk r' := by
  unfold rd at h
  by_cases hh : r.head = []
  · rw [if_pos hh] at h
    unfold rdHead at h
    split at h
    · cases h
    · next td htd => cases h; exact fun _ => ⟨td, htd⟩
  · rw [if_neg hh] at h
    have hk : r'.head = r.head := by
      unfold rdMore at h
      split at h
      · next h1 =>
        cases h
        unfold rdRule at h1
        split at h1
        · split at h1
          · cases h1
          · cases h1; rfl
        · cases h1
      · split at h
        · next h1 =>
          cases h
          unfold rdLog at h1
          split at h1
          · split at h1
            · cases h1
            · cases h1; rfl
          · cases h1
        · unfold rdCh at h
          split at h
          · cases h
          · cases h; rfl
    intro _
    rw [hk]
    exact hr hh
/-- How much was read. -/
def Rdr.size (r : Rdr) : Nat := r.s.cfg.rules.length + r.s.logs.length + r.s.chs.length
theorem rd_size {U : List UInt8 → Option (List UInt8)} {r r' : Rdr} {x : List UInt8} (h : rd U r x = some r') : r'.size ≤ r.size + 1 := by
  unfold Rdr.size
  unfold rd at h
  by_cases hh : r.head = []
  · rw [if_pos hh] at h
    unfold rdHead at h
    split at h
    · cases h
    · cases h; simp
  · rw [if_neg hh] at h
    unfold rdMore at h
    split at h
    · next h1 =>
      cases h
      unfold rdRule at h1
      split at h1
      · split at h1
        · cases h1
        · cases h1; simp; omega
      · cases h1
    · split at h
      · next h1 =>
        cases h
        unfold rdLog at h1
        split at h1
        · split at h1
          · cases h1
          · cases h1; simp; omega
        · cases h1
      · unfold rdCh at h
        split at h
        · cases h
        · cases h; simp; omega
end Go.Proofs.YtmimfkhkilijcaaGreatDoor
namespace Go.Proofs.YtmimfkhkilijcaaGreatDoor
set_option maxRecDepth 4000
open Go.ChangeShapes Go.WideShapes Go.ChangeAt Go.RowKit
open PWord PSign PHex PQuote
set_option linter.unusedVariables false
set_option linter.unusedSimpArgs false

def toldB (rs : List Rul) : Bool := rs.all only && decide (rs.length < 100)
set_option maxRecDepth 100000 in
set_option maxHeartbeats 2000000 in
theorem law_told (a : Option Addr) (n c : Nat) (t d : Int) (b : Option Addr) (m c2 : Nat) (q : Option Addr) (nq c3 : Nat) (rs : List Rul) (w : World) (hr : RowU w a rs) (hn : n = rs.length) (hl : n ≤ 5000) (o : Bool) (ho : toldB rs = o) :
    Calls Tryz.prog 10 #[.agg #[.slice a n c, .int .i64 t, .int .i64 d, .slice b m c2, .slice q nq c3]] w fun e w' => e = .returned (.bool o) ∧ Below w.heap.size w w' := by
  have hbx : Below w.heap.size w (w.alloc (.cells #[.slice a n c, .int .i64 t, .int .i64 d, .slice b m c2, .slice q nq c3] 28)) := (Below.refl _ _).alloc (Nat.le_refl _) _
  have hA0 := At.alloc w [.slice a n c, .int .i64 t, .int .i64 d, .slice b m c2, .slice q nq c3] 28
  obtain ⟨w0, hw0⟩ : ∃ w0, w.alloc (.cells #[.slice a n c, .int .i64 t, .int .i64 d, .slice b m c2, .slice q nq c3] 28) = w0 := ⟨_, rfl⟩
  rw [hw0] at hbx hA0
  have hgw : w.heap.size < w0.heap.size := hA0.1
  have HN := Lib.hid hn
  have HO := Lib.hid ho
  obtain ⟨hg, y0, -, y1, -, y2, -, y3, -, y4, -⟩ := hA0.five
  have hr0 := hr.below hbx
  clear hn ho
  go_enter Tryz.func10, Tryz.ntmps10
  go_wp2
  clear y0 y1 y2 y3 y4
  go_loopw [9] (fun i wr => ∃ k : Nat, k ≤ n ∧ i = .int .i64 k ∧ Hid ((rs.take k).all only = true) ∧ Below w0.heap.size w0 wr) (fun i _ => n - (intOf i).toNat)
  case atStart => exact ⟨0, Nat.zero_le _, rfl, (by rw [List.take_zero]; rfl : (rs.take 0).all only = true), Below.refl _ _⟩
  case round =>
    obtain ⟨k, hk, rfl, HK, hb⟩ := hrel
    have hwB := hb.size
    by_cases hlt : k < n
    · have hk1 : k < rs.length := by rw [← HN.out]; exact hlt
      have hrow := hr0.below hb
      obtain ⟨b1, o1, rfl, -, -⟩ := hrow.at_ k hk1
      obtain ⟨hbl1, p0, p1, p2, p3, p4⟩ := RowU.cells hrow k hk1
      have hall : (rs.take (k + 1)).all only = only rs[k] := by
        rw [List.take_succ_eq_append_getElem hk1, List.all_append, HK.out]
        simp
      have hno : only rs[k] = false → o = false := fun h => by
        rw [← HO.out]
        unfold toldB
        have : rs.all only = false := by
          rw [List.all_eq_false]
          exact ⟨rs[k], List.getElem_mem hk1, by rw [h]; simp⟩
        rw [this]; rfl
      have HON := fun z (hz : only (rs[k]'hk1) = z) wx => Lib.hid (ref_only (rs[k]'hk1) z hz wx)
      have HALL := Lib.hid hall
      have HNO := Lib.hid hno
      clear hrow hall hno HK
      generalize rs[k] = r at *
      obtain ⟨rk, rb, rp, rn, rsg⟩ := r
      simp only at p0 p1 p2 p3 p4
      have hba := (Below.refl wr.heap.size wr).alloc (Nat.le_refl _) (.cells #[.int .i64 rk, .int .i64 rb, .int .i64 rp, .int .i64 rn, .int .i64 rsg] 59)
      have hbB := hb.trans (hba.mono hwB)
      cases hon : only ⟨rk, rb, rp, rn, rsg⟩ with
      | true =>
        have HT := Lib.hid (HALL.out.trans hon)
        have HO2 : ∀ wx, Hid (Calls Tryz.prog 26 #[.agg #[.int .i64 rk, .int .i64 rb, .int .i64 rp, .int .i64 rn, .int .i64 rsg]] wx fun e w' => e = .returned (.bool true) ∧ Below wx.heap.size wx w') := HON true hon
        clear HON hon HALL HNO hk1
        go_wp2_with (first | (go_at_call 26; (with_reducible refine (HO2 _).out.mono ?_); rintro e w3 ⟨rfl, hb3⟩) | fail)
        go_roundw
        case rel => exact ⟨k + 1, by omega, by go_num, HT, on_below hbB hb3⟩
        case measure => simp [intOf]; omega
      | false =>
        obtain rfl : o = false := HNO.out hon
        have HO2 : ∀ wx, Hid (Calls Tryz.prog 26 #[.agg #[.int .i64 rk, .int .i64 rb, .int .i64 rp, .int .i64 rn, .int .i64 rsg]] wx fun e w' => e = .returned (.bool false) ∧ Below wx.heap.size wx w') := HON false hon
        clear HON hon HALL HNO hk1
        go_wp2_with (first | (go_at_call 26; (with_reducible refine (HO2 _).out.mono ?_); rintro e w3 ⟨rfl, hb3⟩) | fail)
        go_ret
        exact ⟨rfl, on_below hbx (on_below hbB hb3)⟩
    · obtain rfl : k = n := by omega
      have hall : rs.all only = true := by
        have := HK.out
        rwa [List.take_of_length_le (by rw [HN.out]; exact Nat.le_refl _)] at this
      have ho2 : o = decide (k < 100) := by rw [← HO.out]; unfold toldB; rw [hall, Bool.true_and, ← HN.out]
      obtain ⟨-, y0, -, y1, -, y2, -, y3, -, y4, -⟩ := (hA0.below hb hgw).five
      by_cases h1 : k < 100
      · have h2 : (k : Int) < 100 := by omega
        obtain rfl : o = true := by rw [ho2, decide_eq_true h1]
        clear ho2 h1
        go_wp2
        go_ret
        exact ⟨rfl, on_below hbx hb⟩
      · have h2 : ¬ (k : Int) < 100 := by omega
        obtain rfl : o = false := by rw [ho2, decide_eq_false h1]
        clear ho2
        go_wp2
        go_ret
        exact ⟨rfl, on_below hbx hb⟩
end Go.Proofs.YtmimfkhkilijcaaGreatDoor
