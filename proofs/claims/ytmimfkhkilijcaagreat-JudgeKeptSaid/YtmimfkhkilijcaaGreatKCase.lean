/- Events, compared. -/
import Derived.Test.YtmimfkhkilijcaaGreatKEvV
import Derived.Laws.StructEq
import Derived.Test.YtmimfkhkilijcaaGreatKSrcC
import Derived.Test.YtmimfkhkilijcaaGreatKBase
namespace Go.Proofs.YtmimfkhkilijcaaGreat
set_option maxRecDepth 4000
open Go.ChangeShapes Go.WideShapes Go.ChangeAt Go.RowKit
open PEv
set_option linter.unusedVariables false
set_option linter.unusedSimpArgs false

theorem eql_held {P : Program} (w : World) {t tx : TypeId} {ms : Array (String × TypeId)} (v u : Value) (b : Bool)
    (ht : P.underlying t = some (.interface ms)) (hc : (P.info? tx).map (·.comparable) = some true) (hx : ∀ d : Nat, (Op.equalIn (d + 10) tx v u).run P w = .ok b w) :
    (binOp .eql t (.iface tx v) (.iface tx u)).run P w = .ok (.bool b) w := by
  cases hi : P.info? tx with
  | none => simp [hi] at hc
  | some i =>
    have hcc : i.comparable = true := by simpa [hi] using hc
    have h : ∀ d : Nat, (Op.equalIn (d + 11) t (.iface tx v) (.iface tx u)).run P w = .ok b w := fun d => by
      rw [show d + 11 = (d + 10) + 1 from rfl, Op.equalIn]
      simp [run_underlying ht, typeInfo, hi, hcc, hx d]
    simp only [binOp]
    simp [Op.equal, Op.maxDepth, h 9989]

set_option maxHeartbeats 1000000 in
theorem eq_mark (n : Int) (w : World) : (binOp .eql 61 (.iface 79 (.agg #[.int .i64 n])) (.iface 79 (.agg #[.int .i64 n]))).run Tryz.prog w = .ok (.bool true) w := by
  refine eql_held w _ _ true Tryz.underlying61 (by kernel_rfl) fun d => ?_
  go_simp
set_option maxHeartbeats 1000000 in
theorem eq_fault (p n : Int) (w : World) : (binOp .eql 61 (.iface 123 (.agg #[.int .i64 p, .int .i64 n])) (.iface 123 (.agg #[.int .i64 p, .int .i64 n]))).run Tryz.prog w = .ok (.bool true) w := by
  refine eql_held w _ _ true Tryz.underlying61 (by kernel_rfl) fun d => ?_
  go_simp
set_option maxHeartbeats 1000000 in
theorem eq_el (p k t : Int) (x : ByteArray) (late : Bool) (w : World) : (binOp .eql 61 (.iface 81 (.agg #[.int .i64 p, .int .i64 k, .int .i64 t, .string x, .bool late])) (.iface 81 (.agg #[.int .i64 p, .int .i64 k, .int .i64 t, .string x, .bool late]))).run Tryz.prog w = .ok (.bool true) w := by
  refine eql_held w _ _ true Tryz.underlying61 (by kernel_rfl) fun d => ?_
  go_simp
end Go.Proofs.YtmimfkhkilijcaaGreat

/- What comes in: a configuration, logs, and choices; whether they are few; what layer 23's statements say first. -/
namespace Go.Proofs.YtmimfkhkilijcaaGreat
set_option maxRecDepth 4000
open Go.ChangeShapes Go.WideShapes Go.ChangeAt Go.RowKit
open PHist PRing PSat PClamp PBound PFrame PVar PCrc PSign PTree PEv
set_option linter.unusedVariables false
set_option linter.unusedSimpArgs false

/-- A case, as it lies in memory. -/
structure CaseC (w : World) (a : Option Addr) (n c : Nat) (t d : Int) (b : Option Addr) (m c2 : Nat) (q : Option Addr) (nq c3 : Nat) (rs : List Rul) (ls : List ByteArray) (cs : List (Bool × Int)) : Prop where
  hru : RowU w a rs
  hn : n = rs.length
  hnc : n ≤ c
  hcm : c ≤ maxLen
  hfit : ∀ r ∈ rs, r.Fits
  ht : in64 t
  hd : in64 d
  hlo : RowS w b ls
  hm : m = ls.length
  hmc : m ≤ c2
  hc2m : c2 ≤ maxLen
  hch : RowG w 2 chc q cs
  hnq : nq = cs.length
  hqc : nq ≤ c3
  hc3m : c3 ≤ maxLen
  hci : ∀ x ∈ cs, in64 x.2
  hsl : ∀ s ∈ ls, s.size ≤ maxLen
abbrev ShCase : Sh := .pair (.pair (.sl ShU) (.pair (.int .i64) (.pair (.int .i64) .unit))) (.pair (.sl .str) (.pair (.sl ShC) .unit))
theorem sl_shape {w : World} {s : Sh} {cs : List Value} {l : List s.T} (h : Rd w (.sl s) cs l) : ∃ a n c, cs = [.slice a n c] := by
  rcases h with ⟨rfl, _⟩ | ⟨x, cap, el, rfl, _⟩
  · exact ⟨_, _, _, rfl⟩
  · exact ⟨_, _, _, rfl⟩
theorem Rd.strs_size {w : World} {cs : List Value} {l : List ByteArray} (h : Rd w (.sl .str) cs l) : ∀ s ∈ l, s.size ≤ maxLen := by
  rcases h with ⟨-, h2⟩ | ⟨x, cap, el, -, -, -, hx⟩
  · have h3 : l = [] := h2
    subst h3
    intro s hs
    cases hs
  · intro s hs
    obtain ⟨i, hi, rfl⟩ := List.mem_iff_getElem.1 hs
    exact (hx i l[i] (List.getElem?_eq_getElem hi)).2.2
theorem Rd.case {w : World} {c0 : Array Value} {d : ((List (Int × Int × Int × Int × Int × Unit)) × Int × Int × Unit) × (List ByteArray) × (List (Bool × Int × Unit)) × Unit} (h : Rd w ShCase c0.toList d) :
    ∃ a n c t dr b m c2 q nq c3 rs ls cs, c0 = #[.slice a n c, .int .i64 t, .int .i64 dr, .slice b m c2, .slice q nq c3] ∧ CaseC w a n c t dr b m c2 q nq c3 rs ls cs := by
  obtain ⟨⟨l, t, dr, u⟩, ls, lc, u2⟩ := d
  obtain ⟨x1, y1, e0, ⟨x2, y2, e2, h2, x3, y3, e3, ⟨e4, h4⟩, x5, y5, e5, ⟨e6, h6⟩, h7⟩, x8, y8, e8, h8, x9, y9, e9, h9, h10⟩ := h
  have h7' : y5 = [] := h7
  have h10' : y9 = [] := h10
  obtain ⟨a, n, c, rfl⟩ := sl_shape h2
  obtain ⟨b, m, c2, rfl⟩ := sl_shape h8
  obtain ⟨q, nq, c3, rfl⟩ := sl_shape h9
  subst h7' h10' e9 e8 e6 e5 e4 e3 e2
  have hR : n = l.length ∧ n ≤ c ∧ c ≤ maxLen ∧ RowG w 5 ruf a l ∧ ∀ x ∈ l, ruq x := Rd.rowG (s := ShU) 5 rfl (by decide) ruf ruq (fun w cs d h => Rd.ru h) h2
  obtain ⟨g1, g2, g3, g4, g5⟩ := hR
  obtain ⟨s1, s2, s3, s4⟩ := Rd.strs h8
  obtain ⟨k1, k2, k3, k4, k5⟩ := Rd.chs h9
  refine ⟨a, n, c, t, dr, b, m, c2, q, nq, c3, l.map toU, ls, lc.map toC, ?_, ⟨RowG.map (f := Rul.cells) (g := toU) g4, by simpa using g1, g2, g3, fun r hr => ?_, bounds_i64 h4, bounds_i64 h6, s4, s1, s2, s3, k4, k1, k2, k3, k5, Rd.strs_size h8⟩⟩
  · apply Array.ext'
    rw [e0]
    rfl
  · obtain ⟨y, hy, rfl⟩ := List.mem_map.1 hr
    exact g5 y hy
theorem CaseC.on {w w' : World} {a : Option Addr} {n c : Nat} {t d : Int} {b : Option Addr} {m c2 : Nat} {q : Option Addr} {nq c3 : Nat} {rs : List Rul} {ls : List ByteArray} {cs : List (Bool × Int)} (h : CaseC w a n c t d b m c2 q nq c3 rs ls cs) (hb : Below w.heap.size w w') : CaseC w' a n c t d b m c2 q nq c3 rs ls cs :=
  ⟨h.hru.below hb, h.hn, h.hnc, h.hcm, h.hfit, h.ht, h.hd, h.hlo.below hb, h.hm, h.hmc, h.hc2m, h.hch.below hb, h.hnq, h.hqc, h.hc3m, h.hci, h.hsl⟩

/-- Few, and short. -/
def SmallC (n m nq : Nat) (ls : List ByteArray) : Prop := m ≤ 8 ∧ nq ≤ 120 ∧ n ≤ 5000 ∧ ∀ s ∈ ls, s.size ≤ 400
def SmallPost (n m nq : Nat) (ls : List ByteArray) (w : World) (e : Ending) (w' : World) : Prop := ∃ z : Int, e = .returned (.int .i64 z) ∧ (z = 0 ∨ (z = 1 ∧ SmallC n m nq ls)) ∧ Below w.heap.size w w'
set_option maxHeartbeats 4000000 in
theorem law_small (a : Option Addr) (n c : Nat) (t d : Int) (b : Option Addr) (m c2 : Nat) (q : Option Addr) (nq c3 : Nat) (ls : List ByteArray) (w : World) (h : RowS w b ls) (hm : m = ls.length) (hl : ∀ s ∈ ls, s.size ≤ 9223372036854775807) :
    Calls Tryz.prog 9 #[.agg #[.slice a n c, .int .i64 t, .int .i64 d, .slice b m c2, .slice q nq c3]] w (SmallPost n m nq ls w) := by
  have hb0 : Below w.heap.size w (w.alloc (.cells #[.slice a n c, .int .i64 t, .int .i64 d, .slice b m c2, .slice q nq c3] 28)) := (Below.refl _ _).alloc (Nat.le_refl _) _
  by_cases h1 : m ≤ 8
  · by_cases h2 : nq ≤ 120
    · by_cases h3 : n ≤ 5000
      · have h1' : (m : Int) ≤ 8 := by omega
        have h2' : (nq : Int) ≤ 120 := by omega
        have h3' : (n : Int) ≤ 5000 := by omega
        have HM := Lib.hid hm
        have H1 := Lib.hid h1
        have H2 := Lib.hid h2
        have H3 := Lib.hid h3
        have hrow := h.below hb0
        clear hm h1 h2 h3
        go_enter Tryz.func9, Tryz.ntmps9
        go_wp2
        generalize w.alloc (.cells #[.slice a n c, .int .i64 t, .int .i64 d, .slice b m c2, .slice q nq c3] 28) = w0 at *
        go_loopw [4, 25] (fun v i wr => ∃ k : Nat, k ≤ m ∧ i = .int .i64 k ∧ wr = w0 ∧ Hid (∀ j (hj : j < ls.length), j < k → (ls[j]).size ≤ 400)) (fun _ i _ => m - (intOf i).toNat)
        case atStart => exact ⟨0, Nat.zero_le _, rfl, rfl, fun j _ h => (Nat.not_lt_zero _ h).elim⟩
        case round =>
          obtain ⟨k, hk, rfl, rfl, hall⟩ := hrel
          by_cases hlt : k < m
          · have hkl : k < ls.length := by rw [← HM.out]; exact hlt
            obtain ⟨bs, offs, hs', -, -⟩ := hrow.at_ k hkl
            subst hs'
            obtain ⟨hbb, r0⟩ := hrow.cell k hkl
            generalize hx : ls[k] = x at *
            have HX := Lib.hid hx
            clear hx
            by_cases h4 : x.size ≤ 400
            · have h4' : (x.size : Int) ≤ 400 := by omega
              have H4 := Lib.hid h4
              clear h4
              go_wp2
              go_roundw
              case rel => exact ⟨k + 1, by omega, by go_num, trivial, fun j hj hjk => by
                by_cases e : j = k
                · subst e; rw [HX.out]; exact H4.out
                · exact hall.out j hj (by omega)⟩
              case measure => simp [intOf]; omega
            · have h4' : (400 : Int) < (x.size : Int) := by omega
              clear h4
              go_wp2
              go_ret
              exact ⟨0, rfl, .inl rfl, hb0⟩
          · obtain rfl : k = m := by omega
            go_wp2
            go_ret
            exact ⟨1, rfl, .inr ⟨rfl, H1.out, H2.out, H3.out, fun s hs => by
              obtain ⟨j, hj, rfl⟩ := List.mem_iff_getElem.1 hs
              exact hall.out j hj (by rw [HM.out]; exact hj)⟩, hb0⟩
      · have h1' : (m : Int) ≤ 8 := by omega
        have h2' : (nq : Int) ≤ 120 := by omega
        have h3' : (5000 : Int) < (n : Int) := by omega
        clear h1 h2 h3 hm
        go_enter Tryz.func9, Tryz.ntmps9
        go_wp2
        go_ret
        exact ⟨0, rfl, .inl rfl, hb0⟩
    · have h1' : (m : Int) ≤ 8 := by omega
      have h2' : (120 : Int) < (nq : Int) := by omega
      clear h1 h2 hm
      go_enter Tryz.func9, Tryz.ntmps9
      go_wp2
      go_ret
      exact ⟨0, rfl, .inl rfl, hb0⟩
  · have h1' : (8 : Int) < (m : Int) := by omega
    clear h1 hm
    go_enter Tryz.func9, Tryz.ntmps9
    go_wp2
    go_ret
    exact ⟨0, rfl, .inl rfl, hb0⟩

/- One empty log. -/
theorem one_new : St.newE 1 [⟨0, 0, 0, 0, 0⟩] [[]] = [.mark 9223372036854775807] := by
  have hp : Pt.raw 1 ⟨0, 0, 0, 0, 0⟩ [] = ⟨⟨0, 0, 0, 0, 0⟩, [], 0, 0, 0, 1⟩ := by unfold Pt.raw; rw [parse_nil]
  unfold St.newE begun raws
  simp only [List.zipWith_cons_cons, List.zipWith_nil_right, hp, List.map_cons, List.map_nil, List.length_cons, List.length_nil]
  rfl
theorem one_nerr : nerr [⟨0, 0, 0, 0, 0⟩] 1 0 1 = 0 := by decide
theorem none_nerr : nerr [] 0 0 0 = 6 := by decide
end Go.Proofs.YtmimfkhkilijcaaGreat

/- What layer 23's statements say first: one empty log. -/
namespace Go.Proofs.YtmimfkhkilijcaaGreat
set_option maxRecDepth 4000
open Go.ChangeShapes Go.WideShapes Go.ChangeAt Go.RowKit
open PHist PRing PSat PClamp PBound PFrame PVar PCrc PSign PTree PEv
set_option linter.unusedVariables false
set_option linter.unusedSimpArgs false

def OnePost (w : World) (e : Ending) (w' : World) : Prop := ∃ g off c, e = .returned (.tuple #[.slice (some ⟨g, off, none⟩) 1 c, .int .i64 0]) ∧ g < w'.heap.size ∧ 1 ≤ c ∧ w'.cell? ⟨g, off, none⟩ = some (.iface 79 (.agg #[.int .i64 9223372036854775807])) ∧ Below w.heap.size w w'
theorem one_row (w : World) : RowU ((w.alloc (.cells #[.int .i64 0, .int .i64 0, .int .i64 0, .int .i64 0, .int .i64 0] 76)).alloc (.cells #[.string ⟨#[]⟩] 9)) (some ⟨w.heap.size, 0, none⟩) [⟨0, 0, 0, 0, 0⟩] ∧
    RowS ((w.alloc (.cells #[.int .i64 0, .int .i64 0, .int .i64 0, .int .i64 0, .int .i64 0] 76)).alloc (.cells #[.string ⟨#[]⟩] 9)) (some ⟨w.heap.size + 1, 0, none⟩) [⟨#[]⟩] ∧ Below w.heap.size w ((w.alloc (.cells #[.int .i64 0, .int .i64 0, .int .i64 0, .int .i64 0, .int .i64 0] 76)).alloc (.cells #[.string ⟨#[]⟩] 9)) := by
  have h1 := (At.alloc w [.int .i64 0, .int .i64 0, .int .i64 0, .int .i64 0, .int .i64 0] 76).on ((Below.refl _ _).alloc (Nat.le_refl _) (.cells #[.string ⟨#[]⟩] 9))
  have h2 := At.alloc (w.alloc (.cells #[.int .i64 0, .int .i64 0, .int .i64 0, .int .i64 0, .int .i64 0] 76)) [.string ⟨#[]⟩] 9
  rw [World.size_alloc] at h2
  refine ⟨⟨fun i hi => ⟨w.heap.size, 0, rfl, h1.1, fun j hj => ?_⟩⟩, ⟨fun i hi => ⟨w.heap.size + 1, 0, rfl, h2.1, ?_⟩⟩, ((Below.refl _ _).alloc (Nat.le_refl _) _).alloc (by simp) _⟩
  · have hi0 : i = 0 := by simp at hi; exact hi
    subst hi0
    rw [show 0 + 0 * 5 + j = j by omega, (h1.2 j hj).1]
    show _ = ([.int .i64 0, .int .i64 0, .int .i64 0, .int .i64 0, .int .i64 0] : List Value)[j]?
    rw [List.getElem?_eq_getElem hj]
  · have hi0 : i = 0 := by simp at hi; exact hi
    subst hi0
    exact (h2.2 0 (by simp)).1
theorem one_play (w : World) : Calls Tryz.prog 10 #[.agg #[.slice (some ⟨w.heap.size, 0, none⟩) 1 1, .int .i64 1, .int .i64 0], .slice (some ⟨w.heap.size + 1, 0, none⟩) 1 1, .slice none 0 0]
    ((w.alloc (.cells #[.int .i64 0, .int .i64 0, .int .i64 0, .int .i64 0, .int .i64 0] 76)).alloc (.cells #[.string ⟨#[]⟩] 9)) (OnePost w) := by
  obtain ⟨h1, h2, h3⟩ := one_row w
  refine (so_play [⟨0, 0, 0, 0, 0⟩] 1 0 [⟨#[]⟩] [] (some ⟨w.heap.size, 0, none⟩) 1 1 (some ⟨w.heap.size + 1, 0, none⟩) 1 1 none 0 0 _ h1 h2 ⟨fun i hi => (Nat.not_lt_zero _ hi).elim⟩ rfl rfl rfl one_nerr (by omega) (fun r hr => ?_) (by unfold in64; omega) (by unfold in64; omega) (fun s hs => ?_) (fun x hx => by cases hx) (by omega)).mono fun e w' h => ?_
  · rw [List.mem_singleton.1 hr]
    exact ⟨by show in64 0; unfold in64; omega, by show in64 0; unfold in64; omega, by show in64 0; unfold in64; omega, by show in64 0; unfold in64; omega, by show in64 0; unfold in64; omega⟩
  · rw [List.mem_singleton.1 hs]
    exact Nat.zero_le _
  · obtain ⟨v, rfl, q1, q2⟩ := h
    have e1 : St.newE 1 [⟨0, 0, 0, 0, 0⟩] ([(⟨#[]⟩ : ByteArray)].map fun s => s.data.toList) ++ (St.new 1 0 [⟨0, 0, 0, 0, 0⟩] ([(⟨#[]⟩ : ByteArray)].map fun s => s.data.toList)).runE [] = [.mark 9223372036854775807] := by
      show St.newE 1 [⟨0, 0, 0, 0, 0⟩] [[]] ++ [] = _
      rw [List.append_nil, one_new]
    rw [e1] at q1
    obtain ⟨g, off, c, rfl, hg, hg2, hc⟩ := q1.at_ (by simp)
    exact ⟨g, off, c, rfl, hg2, (sl_cap_n q1).1, (by have := hc 0 (by simp); simpa [evv] using this), on_below h3 q2⟩
theorem none_play (w : World) : Calls Tryz.prog 10 #[.agg #[.slice none 0 0, .int .i64 0, .int .i64 0], .slice none 0 0, .slice none 0 0] w fun e w' => e = .returned (.tuple #[.slice none 0 0, .int .i64 6]) ∧ Below w.heap.size w w' :=
  so_play_none [] 0 0 [] none 0 0 none 0 0 (.slice none 0 0) w ⟨fun i hi => (Nat.not_lt_zero _ hi).elim⟩ rfl (Nat.zero_le _) rfl 6 none_nerr (by omega)
end Go.Proofs.YtmimfkhkilijcaaGreat
