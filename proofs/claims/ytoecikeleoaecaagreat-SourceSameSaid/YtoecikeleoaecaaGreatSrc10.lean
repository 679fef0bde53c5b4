/- Contracts of source's calls: Play. -/
import Derived.Test.YtoecikeleoaecaaGreatSrc9
import Derived.Test.YtoecikeleoaecaaGreatCfgRow
namespace Go.Proofs.YtoecikeleoaecaaGreat
set_option maxRecDepth 4000
open Go.ChangeShapes Go.WideShapes Go.ChangeAt Go.RowKit
open PHist PRing PSat PClamp PBound PFrame PVar PCrc PSign PTree PEv
set_option linter.unusedVariables false
set_option linter.unusedSimpArgs false

theorem nerr_zero {rs : List Rul} {t d : Int} {m : Nat} (hz : nerr rs t d m = 0) : ccheck rs t d = 0 ∧ m = rs.length := by
  unfold nerr at hz
  by_cases hc : ccheck rs t d = 0
  · rw [if_neg (by omega)] at hz
    refine ⟨hc, ?_⟩
    apply Classical.byContradiction
    intro e
    rw [if_pos e] at hz
    omega
  · rw [if_pos hc] at hz; exact absurd hz hc
/-- A source of one's own, behind these choices. -/
structure SrcI (w0 w : World) (tag : Nat → Nat) (W : Nat → Nat → Prop) (ev : Value) (V : SrcV) (g : Nat) (s : St) (evs : List Ev) (beg : Nat) : Prop where
  src : SrcC w tag W ev V g (loOf s evs beg)
  own : ∀ b, tag b ≠ 0 → w0.heap.size ≤ b
  new : Below w0.heap.size w0 w
  ok : s.Ok
theorem SrcI.on {w0 w w' : World} {tag : Nat → Nat} {W : Nat → Nat → Prop} {ev : Value} {V : SrcV} {g : Nat} {s : St} {evs : List Ev} {beg : Nat} (h : SrcI w0 w tag W ev V g s evs beg) (hb : Below w.heap.size w w') : SrcI w0 w' tag W ev V g s evs beg :=
  ⟨h.src.on hb, h.own, on_below h.new hb, h.ok⟩
/-- Behind Do. -/
theorem SrcI.did {w0 w w' : World} {tag : Nat → Nat} {W : Nat → Nat → Prop} {ev : Value} {V : SrcV} {g : Nat} {s : St} {evs : List Ev} {beg : Nat} (h : SrcI w0 w tag W ev V g s evs beg) {x : Bool × Int} {e : Ending} (k : DoPost tag V g (loOf (s.doS x) (evs ++ s.doE x) beg) (s.doE x) w e w') :
    ∃ v tag' W' ev', e = .returned v ∧ Sl w.heap.size w' 1 v (s.doE x).length ((s.doE x).map evv) ∧ SrcI w0 w' tag' W' ev' V g (s.doS x) (evs ++ s.doE x) beg ∧ Upd (fun b => tag b ≠ 0) w w' ∧ ∀ b, v.ownBlock = some b → tag' b = 0 := by
  obtain ⟨v, tag', W', ev', h1, h2, h3, h4, h5, h6⟩ := k
  refine ⟨v, tag', W', ev', h1, h2, ⟨h3, fun b hb => ?_, h.new.upd h4 h.new.size (fun i _ hi => h.own i hi), h.ok.do x⟩, h4, h6⟩
  rcases h5 b hb with h7 | h7
  · exact h.own b h7
  · exact Nat.le_trans h.new.size h7
/-- Behind New. -/
theorem SrcI.of_new {w0 w w' : World} {s : St} {evs : List Ev} {e : Ending} (hb : Below w0.heap.size w0 w) (hok : s.Ok) (k : NewPost s evs w e w') :
    ∃ tag W ev V g, e = .returned (.tuple #[.pointer (some ⟨g, 0, none⟩), .int .i64 0]) ∧ SrcI w0 w' tag W ev V g s evs evs.length ∧ Below w.heap.size w w' := by
  obtain ⟨tag, W, ev, V, g, h1, h2, h3, h4⟩ := k
  exact ⟨tag, W, ev, V, g, h1, ⟨h2, fun b hb' => Nat.le_trans hb.size (h3 b hb'), on_below hb h4, hok⟩, h4⟩

def PlayPost (l : List Ev) (w : World) (e : Ending) (w' : World) : Prop := ∃ v, e = .returned (.tuple #[v, .int .i64 0]) ∧ Sl w.heap.size w' 1 v l.length (l.map evv) ∧ Below w.heap.size w w'
set_option maxHeartbeats 4000000 in
theorem so_play (rs : List Rul) (t d : Int) (ls : List ByteArray) (cs : List (Bool × Int)) (a : Option Addr) (n c : Nat) (b : Option Addr) (m c2 : Nat) (q : Option Addr) (nq c3 : Nat) (w : World) (h1 : RowU w a rs) (h2 : RowS w b ls) (h3 : RowG w 2 chc q cs) (hn : n = rs.length) (hm : m = ls.length) (hq : nq = cs.length) (hz : nerr rs t d m = 0) (h8 : m ≤ 8) (hf : ∀ r ∈ rs, r.Fits) (ht : in64 t) (hd : in64 d) (hs : ∀ s ∈ ls, s.size ≤ 400) (hc : ∀ x ∈ cs, in64 x.2) (hcl : nq ≤ 1000) :
    Calls Tryz.prog 16 #[.agg #[.slice a n c, .int .i64 t, .int .i64 d], .slice b m c2, .slice q nq c3] w (PlayPost (St.newE t rs (ls.map fun s => s.data.toList) ++ (St.new t d rs (ls.map fun s => s.data.toList)).runE cs) w) := by
  have hb0 : Below w.heap.size w (w.alloc (.cells #[.slice a n c, .int .i64 t, .int .i64 d] 24)) := (Below.refl _ _).alloc (Nat.le_refl _) _
  obtain ⟨hc0, hmn⟩ := nerr_zero hz
  have ht1 := ccheck_t hc0
  have hok : (St.new t d rs (ls.map fun s => s.data.toList)).Ok := new_ok (by rw [List.length_map]; omega) (by omega) (fun r hr => ⟨ccheck_ok hc0 r hr, hf r hr⟩) (fun l hl => by
    obtain ⟨s, hs', rfl⟩ := List.mem_map.1 hl
    exact hs s hs') ⟨ht1.2.1, ht.2⟩ ⟨ht1.2.2, hd.2⟩
  have hel := newE_len t rs (ls.map fun s => s.data.toList)
  have HN := Lib.hid (so_new rs t d ls a n c b m c2 _ (h1.below hb0) (h2.below hb0) hn hm hz h8 hf ht hd hs)
  generalize St.new t d rs (ls.map fun s => s.data.toList) = s0 at *
  generalize St.newE t rs (ls.map fun s => s.data.toList) = l0 at *
  have HOK := Lib.hid hok
  have HL : Hid (l0.length ≤ 9) := by show l0.length ≤ 9; omega
  have HQ := Lib.hid hq
  have H3 := Lib.hid h3
  have HC := Lib.hid hc
  have HB0 := Lib.hid hb0
  clear h1 h2 h3 hn hm hz h8 hf ht hd hs hc hok hc0 hmn ht1 hel hq hb0
  go_enter Tryz.func16, Tryz.ntmps16
  go_wp2_with (first | (go_at_call 14; (with_reducible refine HN.out.mono ?_); intro e w1 hN; obtain ⟨tag, W, ev, V, g, rfl, hI, hb1⟩ := SrcI.of_new HB0.out HOK.out hN))
  go_loopw [23] (fun i wr => ∃ k : Nat, k ≤ nq ∧ i = .int .i64 k ∧ ∃ tag W ev, SrcI w wr tag W ev V g (s0.run (cs.take k)) (l0 ++ s0.runE (cs.take k)) l0.length) (fun i _ => nq - (intOf i).toNat)
  case atStart =>
    refine ⟨0, Nat.zero_le _, rfl, tag, W, ev, ?_⟩
    show SrcI w w1 tag W ev V g s0 (l0 ++ []) l0.length
    rw [List.append_nil]
    exact hI
  case round =>
    clear hI hN
    obtain ⟨k, hk, rfl, tag, W, ev, hI⟩ := hrel
    by_cases hlt : k < nq
    · have hkc : k < cs.length := by rw [← HQ.out]; exact hlt
      have hrow := H3.out.below hI.new
      obtain ⟨bq, offq, hq', -, -⟩ := hrow.at_ k hkc
      subst hq'
      obtain ⟨hbq, r0, r1⟩ := RowC.cells hrow k hkc
      have hin := HC.out _ (List.getElem_mem hkc)
      have hrl := runE_len (cs.take k) s0
      rw [List.length_take] at hrl
      have hel : (l0 ++ s0.runE (cs.take k)).length ≤ 90000 := by rw [List.length_append]; have := HL.out; omega
      have HS1 := Lib.hid (run_take s0 cs k hkc)
      have HE1 := Lib.hid (runE_take s0 cs k hkc)
      generalize hck : cs[k] = x at *
      have HCK := Lib.hid hck
      clear hck hrow
      obtain ⟨ct, cn⟩ := x
      simp only at r0 r1 hin
      have hba : Below wr.heap.size wr (wr.alloc (.cells #[.bool ct, .int .i64 cn] 48)) := (Below.refl _ _).alloc (Nat.le_refl _) _
      have hI2 := hI.on hba
      have HD := Lib.hid (so_do tag W ev V g _ _ _ ct cn _ hI2.src hI2.ok hin hel)
      clear hrl hel hba
      go_wp2_with (first | (go_at_call 21; (with_reducible refine HD.out.mono ?_); intro e w2 hD; obtain ⟨v, tag2, W2, ev2, rfl, -, hI3, -, -⟩ := hI2.did hD))
      go_roundw
      case rel =>
        refine ⟨k + 1, by omega, by go_num, tag2, W2, ev2, ?_⟩
        rw [HS1.out, HE1.out, ← List.append_assoc]
        exact hI3
      case measure => simp [intOf]; omega
    · obtain rfl : k = nq := by omega
      have hrl := runE_len cs s0
      rw [List.take_of_length_le (by rw [HQ.out]; exact Nat.le_refl _)] at hI
      have hel : (l0 ++ s0.runE cs).length ≤ 100000 := by rw [List.length_append]; have := HL.out; have := HQ.out; omega
      have HE := Lib.hid (so_events tag W ev V g _ wr hI.src hel)
      rw [show (loOf (s0.run cs) (l0 ++ s0.runE cs) l0.length).evs = l0 ++ s0.runE cs from rfl] at HE
      have hsz := hI.new.size
      have hnw := Lib.hid hI.new
      clear hrl hel hI
      go_wp2_with (first | (go_at_call 24; (with_reducible refine HE.out.mono ?_); rintro e w3 ⟨v, rfl, q1, q2⟩))
      go_ret2
      exact ⟨v, rfl, q1.base hsz, on_below hnw.out q2⟩
set_option maxHeartbeats 1000000 in
theorem so_play_none (rs : List Rul) (t d : Int) (ls : List ByteArray) (a : Option Addr) (n c : Nat) (b : Option Addr) (m c2 : Nat) (u : Value) (w : World) (h1 : RowU w a rs) (hn : n = rs.length) (hl : n ≤ 10000) (hm : m = ls.length) (z : Int) (hz : nerr rs t d m = z) (h0 : z ≠ 0) :
    Calls Tryz.prog 16 #[.agg #[.slice a n c, .int .i64 t, .int .i64 d], .slice b m c2, u] w fun e w' => e = .returned (.tuple #[.slice none 0 0, .int .i64 z]) ∧ Below w.heap.size w w' := by
  have hb0 : Below w.heap.size w (w.alloc (.cells #[.slice a n c, .int .i64 t, .int .i64 d] 24)) := (Below.refl _ _).alloc (Nat.le_refl _) _
  have HN := Lib.hid (so_new_none rs t d ls a n c b m c2 _ (h1.below hb0) hn hl hm z hz h0)
  have hz0 : (z != 0) = true := by rw [bne_iff_ne]; exact h0
  have HB0 := Lib.hid hb0
  clear h1 hn hl hm hz h0 hb0
  go_enter Tryz.func16, Tryz.ntmps16
  go_wp2_with (first | (go_at_call 14; (with_reducible refine HN.out.mono ?_); rintro e w1 ⟨rfl, hb1⟩))
  go_ret2
  exact ⟨rfl, on_below HB0.out hb1⟩
end Go.Proofs.YtoecikeleoaecaaGreat
