/- The document's own answers of layer 23: all choices, one behind the other. -/
import Derived.Test.YtoecikeleoaecaaGreatKRefT
import Derived.Deep.RegionHeld3
namespace Go.Proofs.YtoecikeleoaecaaGreat
set_option maxRecDepth 4000
open Go.ChangeShapes Go.WideShapes Go.ChangeAt Go.RowKit
open PHist PRing PSat PClamp PBound PFrame PVar PCrc PSign PTree PEv
set_option linter.unusedVariables false
set_option linter.unusedSimpArgs false

def PlayR (l : List Ev) (w : World) (e : Ending) (w' : World) : Prop := ∃ v, e = .returned (.tuple #[v, .int .i64 0]) ∧ Sl w.heap.size w' 8 v l.length (evcs l) ∧ Below w.heap.size w w'
/-- A state in a variable of its own, and the events of a choice. -/
def DidR (w1 : World) (t1 : Nat → Prop) (g5 : Nat) (va : Value) (s : St) (es : List Ev) (wr : World) (v12 v13 : Value) (wx : World) : Prop :=
  ∃ (g12 : Nat) (a : Option Addr) (c : Nat) (l : List Pv) (tag : Nat → Nat), v12 = .pointer (some ⟨g12, 0, none⟩) ∧ At wx g12 [.slice a s.ps.length c, .int .i64 s.timeout, .int .i64 s.drift, .int .i64 s.clock, .int .i64 s.now] ∧ RefR w1 t1 tag g5 wx a l s ∧ (∀ b, va.ownBlock = some b → tag b ≠ 0) ∧ (∀ b, wx.heap.size ≤ b → tag b = 0) ∧ Sl wr.heap.size wx 8 v13 es.length (evcs es) ∧ Below wr.heap.size wr wx
set_option maxHeartbeats 8000000 in
theorem ref_play (rs : List Rul) (t d : Int) (ls : List ByteArray) (cs : List (Bool × Int)) (a : Option Addr) (n c : Nat) (b : Option Addr) (m c2 : Nat) (q : Option Addr) (nq c3 : Nat) (w : World) (h1 : RowU w a rs) (h2 : RowS w b ls) (h3 : RowG w 2 chc q cs) (hn : n = rs.length) (hm : m = ls.length) (hq : nq = cs.length) (hz : nerr rs t d m = 0) (h8 : m ≤ 8) (hf : ∀ r ∈ rs, r.Fits) (ht : in64 t) (hd : in64 d) (hs : ∀ s ∈ ls, s.size ≤ 400) (hc : ∀ x ∈ cs, in64 x.2) (hcl : nq ≤ 1000) :
    Calls Tryz.prog 35 #[.agg #[.slice a n c, .int .i64 t, .int .i64 d], .slice b m c2, .slice q nq c3] w (PlayR (St.newE t rs (ls.map fun s => s.data.toList) ++ (St.new t d rs (ls.map fun s => s.data.toList)).runE cs) w) := by
  have e := fun (w : World) (o : Obj) => (Below.refl w.heap.size w).alloc (Nat.le_refl _) o
  have hb0 : Below w.heap.size w (w.alloc (.cells #[.slice a n c, .int .i64 t, .int .i64 d] 24)) := e _ _
  have hA0 := At.alloc w [.slice a n c, .int .i64 t, .int .i64 d] 24
  obtain ⟨hc0, hmn⟩ := nerr_zero hz
  have ht1 := ccheck_t hc0
  have hok : (St.new t d rs (ls.map fun s => s.data.toList)).Ok := new_ok (by rw [List.length_map]; omega) (by omega) (fun r hr => ⟨ccheck_ok hc0 r hr, hf r hr⟩) (fun l hl => by
    obtain ⟨s, hs', rfl⟩ := List.mem_map.1 hl
    exact hs s hs') ⟨ht1.2.1, ht.2⟩ ⟨ht1.2.2, hd.2⟩
  have hel := newE_len t rs (ls.map fun s => s.data.toList)
  have HN := Lib.hid (ref_new rs t d ls a n c b m c2 _ (h1.below hb0) (h2.below hb0) hn hm hz h8 hf ht hd hs)
  generalize St.new t d rs (ls.map fun s => s.data.toList) = s0 at *
  generalize St.newE t rs (ls.map fun s => s.data.toList) = l0 at *
  have HOK := Lib.hid hok
  have HL : Hid (l0.length ≤ 9) := by show l0.length ≤ 9; omega
  have HQ := Lib.hid hq
  have H3 := Lib.hid h3
  have HC := Lib.hid hc
  clear h1 h2 h3 hn hm hz h8 hf ht hd hs hc hok hc0 hmn ht1 hel hq
  go_enter Tryz.func35, Tryz.ntmps35
  go_upto_region 1 with fail
  generalize w.alloc (.cells #[.slice a n c, .int .i64 t, .int .i64 d] 24) = w0 at *
  obtain ⟨-, p0, -, p1, -, p2, -⟩ := hA0.three
  go_upto_region 2 with (first | (go_at_call 15; (with_reducible refine HN.out.mono ?_); intro e3 w1 hN; obtain ⟨a1, c1, l1, r1, rfl, hP1, hps1, hr1, hb1, ha1, hap1, hrc1⟩ := hN; obtain ⟨ao, co, hre⟩ := hr1.shape; subst hre) | fail)
  have hbw1 := on_below hb0 hb1
  have hba := e w1 (.cells #[.slice a1 s0.ps.length c1, .int .i64 s0.timeout, .int .i64 s0.drift, .int .i64 s0.clock, .int .i64 s0.now] 37)
  have hAt := At.alloc w1 [.slice a1 s0.ps.length c1, .int .i64 s0.timeout, .int .i64 s0.drift, .int .i64 s0.clock, .int .i64 s0.now] 37
  have hown : ∀ b, (Value.slice ao l0.length co).ownBlock = some b → b < w1.heap.size := fun b hb => (hr1.lt b hb).2
  have hM0 : RefR w1 (fun b => (Value.slice ao l0.length co).ownBlock = some b) (fun b => match (Value.slice ao l0.length co).ownBlock with | some k => if k = b then 1 else 0 | none => 0) w1.heap.size w1 a1 l1 s0 := by
    have hone : ∀ b, (match (Value.slice ao l0.length co).ownBlock with | some k => if k = b then 1 else 0 | none => 0) ≠ 0 → (Value.slice ao l0.length co).ownBlock = some b := fun b hb => by
      cases h : (Value.slice ao l0.length co).ownBlock with
      | none => rw [h] at hb; exact absurd rfl hb
      | some k =>
        rw [h] at hb
        by_cases e : k = b
        · rw [e]
        · simp [e] at hb
    exact ⟨hP1.row, fun v hv => ⟨(hP1.ok v hv).row, (hP1.ok v hv).le, (hP1.ok v hv).cap, fun p hp h0 h => (hap1 _ h).2 v hv p hp h0 rfl⟩, hps1, Upd.refl _ _, fun p hp h0 => ⟨Classical.byContradiction fun hn => (hap1 _ (hone _ hn)).1 p hp h0 rfl, by
      obtain ⟨b', off, hab, hb, -⟩ := hP1.row.at_ 0 h0
      rw [hab] at hp; cases hp
      exact Nat.ne_of_lt hb⟩, fun b _ h => hone b h, Nat.le_refl _⟩
  have hM1 := hM0.on hba
  have hE1 := (hr1.onW hba).base hb0.size
  have hbw2 := on_below hbw1 hba
  have hno : (Value.slice ao l0.length co).ownBlock ≠ some w1.heap.size := fun h => Nat.lt_irrefl _ (hown _ h)
  have hg1 := hAt.1
  have hs01 := hb1.size
  have hww1 : w.heap.size ≤ w1.heap.size := hbw1.size
  clear p0 p1 p2 hA0 HN hP1 hps1 hr1 hb1 ha1 hap1 hrc1 hM0 hba hb0 hbw1
  generalize w1.alloc (.cells #[.slice a1 s0.ps.length c1, .int .i64 s0.timeout, .int .i64 s0.drift, .int .i64 s0.clock, .int .i64 s0.now] 37) = w2 at *
  go_wp2_with fail
  go_loopw [9, 11] (fun va i wr => ∃ (k : Nat) (tag : Nat → Nat) (a : Option Addr) (c : Nat) (l : List Pv), k ≤ nq ∧ i = .int .i64 k ∧ At wr w1.heap.size [.slice a (s0.run (cs.take k)).ps.length c, .int .i64 (s0.run (cs.take k)).timeout, .int .i64 (s0.run (cs.take k)).drift, .int .i64 (s0.run (cs.take k)).clock, .int .i64 (s0.run (cs.take k)).now] ∧ RefR w1 (fun b => (Value.slice ao l0.length co).ownBlock = some b) tag w1.heap.size wr a l (s0.run (cs.take k)) ∧ Sl w.heap.size wr 8 va (l0 ++ s0.runE (cs.take k)).length (evcs (l0 ++ s0.runE (cs.take k))) ∧ va.ownBlock ≠ some w1.heap.size ∧ (∀ b, va.ownBlock = some b → tag b ≠ 0) ∧ (∀ b, wr.heap.size ≤ b → tag b = 0) ∧ Below w.heap.size w wr) (fun _ i _ => nq - (intOf i).toNat)
  case atStart =>
    refine ⟨0, _, a1, c1, l1, Nat.zero_le _, rfl, hAt, hM1, ?_, hno, fun b hb => ?_, fun b hb => ?_, hbw2⟩
    · show Sl w.heap.size w2 8 _ (l0 ++ []).length (evcs (l0 ++ []))
      rw [List.append_nil]
      exact hE1
    · rw [hb]; simp
    · cases h : (Value.slice ao l0.length co).ownBlock with
      | none => rfl
      | some k =>
        have := hown k h
        show (if k = b then 1 else 0) = 0
        rw [if_neg (by omega)]
  case round =>
    clear hAt hM1 hE1 hbw2 hno
    obtain ⟨k, tag, a, c, l, hk, rfl, hAt, hM, hE, hno, ho1, ho2, hbw⟩ := hrel
    obtain ⟨av, cv, hre⟩ := hE.shape
    subst hre
    by_cases hlt : k < nq
    · have hkc : k < cs.length := by rw [← HQ.out]; exact hlt
      have hrow := H3.out.below hbw
      obtain ⟨bq, offq, hq', -, -⟩ := hrow.at_ k hkc
      subst hq'
      have hchc := fun wx (hx : Below wr.heap.size wr wx) => RowC.cells (hrow.below hx) k hkc
      have hin := HC.out _ (List.getElem_mem hkc)
      have hrl := runE_len (cs.take k) s0
      rw [List.length_take] at hrl
      have hel : (l0 ++ s0.runE (cs.take k)).length ≤ 9000 := by rw [List.length_append]; have := HL.out; omega
      have hS1 := run_take s0 cs k hkc
      have hE1 := runE_take s0 cs k hkc
      generalize hck : cs[k] = x at *
      have HCK := Lib.hid hck
      clear hck hrow hrl
      obtain ⟨ct, cn⟩ := x
      simp only at hchc hin
      have hd3 := doE_len (s0.run (cs.take k)) (ct, cn)
      have hokk := HOK.out.run (cs.take k)
      have HS1 : Hid (s0.run (cs.take (k + 1)) = (s0.run (cs.take k)).doS (ct, cn)) := hS1
      have HE1 : Hid (l0 ++ s0.runE (cs.take (k + 1)) = (l0 ++ s0.runE (cs.take k)) ++ (s0.run (cs.take k)).doE (ct, cn)) := by show _ = _; rw [hE1, List.append_assoc]
      have hbd : Below wr.heap.size wr wr.drew := (Below.refl _ _).drew
      have hbz : Below wr.heap.size wr (wr.alloc (.cells #[.slice none 0 0, .int .i64 0, .int .i64 0, .int .i64 0, .int .i64 0] 37)).drew := (e wr _).drew
      have hbz2 : Below wr.heap.size wr (wr.alloc (.cells #[.slice none 0 0, .int .i64 0, .int .i64 0, .int .i64 0, .int .i64 0] 37)) := e wr _
      have hZ := (At.alloc wr [.slice none 0 0, .int .i64 0, .int .i64 0, .int .i64 0, .int .i64 0] 37).drew
      have hHa := Lib.hid ((hM.on hbd).does hAt.1 (fun b hb => ho2 b hb) c hokk ct cn hin)
      have hMz : RefR w1 (fun b => (Value.slice ao l0.length co).ownBlock = some b) (fun b => if b = wr.heap.size then 1 else tag b) w1.heap.size (wr.alloc (.cells #[.slice none 0 0, .int .i64 0, .int .i64 0, .int .i64 0, .int .i64 0] 37)).drew a l (s0.run (cs.take k)) := (hM.src (Upd.refl _ _) (fun b hb => by
        by_cases eb : b = wr.heap.size
        · exact .inr (Nat.le_of_eq eb.symm)
        · have hb' : (if b = wr.heap.size then 1 else tag b) ≠ 0 := hb
          rw [if_neg eb] at hb'; exact .inl hb')).on hbz
      have hHb := Lib.hid (hMz.does (Nat.lt_of_lt_of_le hAt.1 hbz.size) (fun b hb => by
        have hb' : (wr.alloc (.cells #[.slice none 0 0, .int .i64 0, .int .i64 0, .int .i64 0, .int .i64 0] 37)).heap.size ≤ b := hb
        rw [World.size_alloc] at hb'
        show (if b = wr.heap.size then 1 else tag b) = 0
        rw [if_neg (by omega)]
        exact ho2 b (by omega)) c hokk ct cn hin)
      have HF : ∀ wx, Below wr.heap.size wr wx → wx.cell? ⟨w1.heap.size, 0, none⟩ = some (.slice a (s0.run (cs.take k)).ps.length c) ∧ wx.cell? ⟨w1.heap.size, 1, none⟩ = some (.int .i64 (s0.run (cs.take k)).timeout) ∧ wx.cell? ⟨w1.heap.size, 2, none⟩ = some (.int .i64 (s0.run (cs.take k)).drift) ∧ wx.cell? ⟨w1.heap.size, 3, none⟩ = some (.int .i64 (s0.run (cs.take k)).clock) ∧ wx.cell? ⟨w1.heap.size, 4, none⟩ = some (.int .i64 (s0.run (cs.take k)).now) ∧ wx.cell? ⟨bq, offq + k * 2, none⟩ = some (.bool ct) ∧ wx.cell? ⟨bq, offq + k * 2 + 1, none⟩ = some (.int .i64 cn) := fun wx hx => by
        obtain ⟨-, d0, -, d1, -, d2, -, d3, -, d4, -⟩ := (hAt.on hx).five
        obtain ⟨-, r0, r1⟩ := hchc wx hx
        exact ⟨d0, d1, d2, d3, d4, r0, r1⟩
      have hDa : Hid (∀ w6 a6 c6 l6 r6, RefR w1 (fun b => (Value.slice ao l0.length co).ownBlock = some b) tag w1.heap.size w6 a6 l6 ((s0.run (cs.take k)).doS (ct, cn)) → Sl wr.drew.heap.size w6 8 r6 ((s0.run (cs.take k)).doE (ct, cn)).length (evcs ((s0.run (cs.take k)).doE (ct, cn))) → Below wr.drew.heap.size wr.drew w6 →
          DidR w1 (fun b => (Value.slice ao l0.length co).ownBlock = some b) w1.heap.size (.slice av (l0 ++ s0.runE (cs.take k)).length cv) ((s0.run (cs.take k)).doS (ct, cn)) ((s0.run (cs.take k)).doE (ct, cn)) wr (.pointer (some ⟨w6.heap.size, 0, none⟩)) r6 (w6.alloc (.cells #[.slice a6 ((s0.run (cs.take k)).doS (ct, cn)).ps.length c6, .int .i64 ((s0.run (cs.take k)).doS (ct, cn)).timeout, .int .i64 ((s0.run (cs.take k)).doS (ct, cn)).drift, .int .i64 ((s0.run (cs.take k)).doS (ct, cn)).clock, .int .i64 ((s0.run (cs.take k)).doS (ct, cn)).now] 37))) := fun w6 a6 c6 l6 r6 hR hv hb6 => by
        have hb := on_below hbd hb6
        exact ⟨w6.heap.size, a6, c6, l6, tag, rfl, At.alloc w6 [_, _, _, _, _] _, hR.on (e w6 _), ho1, fun b hb' => ho2 b (by rw [World.size_alloc] at hb'; have := hb.size; omega), hv.onW (e w6 _), on_below hb (e w6 _)⟩
      have hDb : Hid (∀ w6 a6 c6 l6 r6, RefR w1 (fun b => (Value.slice ao l0.length co).ownBlock = some b) (fun b => if b = wr.heap.size then 1 else tag b) w1.heap.size w6 a6 l6 ((s0.run (cs.take k)).doS (ct, cn)) → Sl (wr.alloc (.cells #[.slice none 0 0, .int .i64 0, .int .i64 0, .int .i64 0, .int .i64 0] 37)).drew.heap.size w6 8 r6 ((s0.run (cs.take k)).doE (ct, cn)).length (evcs ((s0.run (cs.take k)).doE (ct, cn))) → Below (wr.alloc (.cells #[.slice none 0 0, .int .i64 0, .int .i64 0, .int .i64 0, .int .i64 0] 37)).drew.heap.size (wr.alloc (.cells #[.slice none 0 0, .int .i64 0, .int .i64 0, .int .i64 0, .int .i64 0] 37)).drew w6 →
          DidR w1 (fun b => (Value.slice ao l0.length co).ownBlock = some b) w1.heap.size (.slice av (l0 ++ s0.runE (cs.take k)).length cv) ((s0.run (cs.take k)).doS (ct, cn)) ((s0.run (cs.take k)).doE (ct, cn)) wr (.pointer (some ⟨wr.heap.size, 0, none⟩)) r6 (((((w6.setCell ⟨wr.heap.size, 0, none⟩ (.slice a6 ((s0.run (cs.take k)).doS (ct, cn)).ps.length c6)).setCell ⟨wr.heap.size, 1, none⟩ (.int .i64 ((s0.run (cs.take k)).doS (ct, cn)).timeout)).setCell ⟨wr.heap.size, 2, none⟩ (.int .i64 ((s0.run (cs.take k)).doS (ct, cn)).drift)).setCell ⟨wr.heap.size, 3, none⟩ (.int .i64 ((s0.run (cs.take k)).doS (ct, cn)).clock)).setCell ⟨wr.heap.size, 4, none⟩ (.int .i64 ((s0.run (cs.take k)).doS (ct, cn)).now))) := fun w6 a6 c6 l6 r6 hR hv hb6 => by
        have hb := on_below hbz hb6
        have hu := upd_all5 w6 wr.heap.size (.slice a6 ((s0.run (cs.take k)).doS (ct, cn)).ps.length c6) (.int .i64 ((s0.run (cs.take k)).doS (ct, cn)).timeout) (.int .i64 ((s0.run (cs.take k)).doS (ct, cn)).drift) (.int .i64 ((s0.run (cs.take k)).doS (ct, cn)).clock) (.int .i64 ((s0.run (cs.take k)).doS (ct, cn)).now)
        have hsz : wr.heap.size + 1 ≤ w6.heap.size := by have := hb6.size; have h' : (wr.alloc (.cells #[.slice none 0 0, .int .i64 0, .int .i64 0, .int .i64 0, .int .i64 0] 37)).heap.size ≤ w6.heap.size := this; rw [World.size_alloc] at h'; exact h'
        refine ⟨wr.heap.size, a6, c6, l6, _, rfl, At.all5 (hZ.on hb6) _ _ _ _ _, hR.src (hu.mono (fun b _ h => by show (if b = wr.heap.size then 1 else tag b) ≠ 0; rw [if_pos h]; omega)) (fun b h => .inl h), fun b hb' => ?_, fun b hb' => ?_, (hv.upd hu (fun b h1 h2 => by have h3 := (hv.lt b h1).1; have h4 : (wr.alloc (.cells #[.slice none 0 0, .int .i64 0, .int .i64 0, .int .i64 0, .int .i64 0] 37)).heap.size ≤ b := h3; rw [World.size_alloc] at h4; have h5 : b = wr.heap.size := h2; omega)).base hbz.size, hb.upd hu hb.size (fun b _ h => by have h' : b = wr.heap.size := h; omega)⟩
        · show (if b = wr.heap.size then 1 else tag b) ≠ 0
          split
          · omega
          · exact ho1 b hb'
        · have := hu.size
          show (if b = wr.heap.size then 1 else tag b) = 0
          rw [if_neg (by omega)]
          exact ho2 b (by omega)
      have hHM := Lib.hid hM
      clear hM hMz hS1 hE1 hokk hchc
      generalize (s0.run (cs.take k)).doE (ct, cn) = e5 at *
      generalize (s0.run (cs.take k)).doS (ct, cn) = s5 at *
      generalize l0 ++ s0.runE (cs.take k) = e4 at *
      generalize s0.run (cs.take k) = s4 at *
      have hkl : (k : Int) < (nq : Int) := by omega
      go_upto_region 7 with fail
      go_cut [12, 13] (fun v12 v13 wx => DidR w1 (fun b => (Value.slice ao l0.length co).ownBlock = some b) w1.heap.size (.slice av e4.length cv) s5 e5 wr v12 v13 wx)
      case first =>
        have hAT := Lib.hid hAt
        clear HS1 HE1 HOK HL HC HQ H3 hHM hE hAt
        go_region_held3 (fun wx => wx.cell? ⟨w1.heap.size, 0, none⟩ = some (.slice a s4.ps.length c) ∧ wx.cell? ⟨w1.heap.size, 1, none⟩ = some (.int .i64 s4.timeout) ∧ wx.cell? ⟨w1.heap.size, 2, none⟩ = some (.int .i64 s4.drift) ∧ wx.cell? ⟨w1.heap.size, 3, none⟩ = some (.int .i64 s4.clock) ∧ wx.cell? ⟨w1.heap.size, 4, none⟩ = some (.int .i64 s4.now) ∧ wx.cell? ⟨bq, offq + k * 2, none⟩ = some (.bool ct) ∧ wx.cell? ⟨bq, offq + k * 2 + 1, none⟩ = some (.int .i64 cn))
          (first | (with_reducible exact HF _ (Below.refl _ _)) | (with_reducible exact HF _ hbd) | (with_reducible exact HF _ hbz) | (with_reducible exact HF _ hbz2) | (with_reducible exact HF _ hbx) | (with_reducible exact HF _ (hby _)) | (with_reducible exact HF _ hbs) | fail)
          (first | (go_at_call 20; (with_reducible refine hHa.out.mono ?_); intro e9 w6 hY; obtain ⟨a6, c6, l6, r6, rfl, hR6, hv6, hb6⟩ := hY; have hbx := on_below hbd hb6; have hby := fun o => on_below hbx (e w6 o); have hFI := Lib.hid (hDa.out w6 a6 c6 l6 r6 hR6 hv6 hb6)) | (go_at_call 20; (with_reducible refine hHb.out.mono ?_); intro e9 w6 hY; obtain ⟨a6, c6, l6, r6, rfl, hR6, hv6, hb6⟩ := hY; have hbx := on_below hbz hb6; have hFI := Lib.hid (hDb.out w6 a6 c6 l6 r6 hR6 hv6 hb6); obtain ⟨hgz, x0, z0, x1, z1, x2, z2, x3, z3, x4, z4⟩ := (hZ.on hb6).five; have hbs := hbx.upd (upd_all5 w6 wr.heap.size (.slice a6 s5.ps.length c6) (.int .i64 s5.timeout) (.int .i64 s5.drift) (.int .i64 s5.clock) (.int .i64 s5.now)) hbx.size (fun b _ h => by have h' : b = wr.heap.size := h; omega)) | fail)
        all_goals (go_wp2_with fail; go_meet)
        all_goals exact hFI.out
      case rest =>
        obtain ⟨g12, a6, c6, l6, tg, rfl, hN, hR6, ht1, ht2, hv6, hb6⟩ := hcut
        obtain ⟨ar, cr, hre⟩ := hv6.shape
        subst hre
        have hA6 := hAt.on hb6
        have hw1r := hAt.1
        have hu := upd_all5 wc w1.heap.size (.slice a6 s5.ps.length c6) (.int .i64 s5.timeout) (.int .i64 s5.drift) (.int .i64 s5.clock) (.int .i64 s5.now)
        have hA9 := At.all5 hA6 (.slice a6 s5.ps.length c6) (.int .i64 s5.timeout) (.int .i64 s5.drift) (.int .i64 s5.clock) (.int .i64 s5.now)
        have hR9 := hR6.set hu
        have hE9 := (hE.onW hb6).upd hu (fun b h1 h2 => hno (by rw [h1]; exact congrArg some h2))
        have hv9 := hv6.upd hu (fun b h1 h2 => by have := (hv6.lt b h1).1; have h' : b = w1.heap.size := h2; omega)
        have hb9 : Below w.heap.size w _ := (on_below hbw hb6).upd hu (on_below hbw hb6).size (fun b _ h => by have h' : b = w1.heap.size := h; omega)
        have hs9 : wc.heap.size ≤ _ := hu.size
        obtain ⟨hgz, c0, z0, c1', z1, c2', z2, c3', z3, c4', z4⟩ := hN.five
        obtain ⟨hgy, d0, y0, d1, y1, d2, y2, d3, y3, d4, y4⟩ := hA6.five
        have hlav : ∀ b, (Value.slice av e4.length cv).ownBlock = some b → b < wr.heap.size := fun b hb => (hE.lt b hb).2
        clear HF hDa hDb hHa hHb hZ hbz hbz2 hbd hHM hR6 hv6 hN
        go_upto_region 9 with fail
        clear c0 z0 c1' z1 c2' z2 c3' z3 c4' z4 d0 y0 d1 y1 d2 y2 d3 y3 d4 y4 hgz hgy hu hA6
        generalize ((((wc.setCell ⟨w1.heap.size, 0, none⟩ (.slice a6 s5.ps.length c6)).setCell ⟨w1.heap.size, 1, none⟩ (.int .i64 s5.timeout)).setCell ⟨w1.heap.size, 2, none⟩ (.int .i64 s5.drift)).setCell ⟨w1.heap.size, 3, none⟩ (.int .i64 s5.clock)).setCell ⟨w1.heap.size, 4, none⟩ (.int .i64 s5.now) = w9 at *
        obtain ⟨i0, hi0, hz0, hz1, hz2⟩ := info_parts info_evr
        have hm1 : e4.length + e5.length ≤ maxLen := by unfold maxLen; omega
        have hg9 := hA9.1
        go_wp2_with (first | (at_builtin; refine wpList_append_sl _ rfl (.tmp 40) (.tmp 41) 38 38 rfl 119 i0 _ 72 Tryz.underlying38 hi0 hz0 hz1 hz2 rfl rfl hE9 (.slice ar e5.length cr) e5.length (evcs e5) rfl (src_sl hv9 Tryz.underlying38 (evcs_one _)) hm1 (by omega) hb9.size ?_; intro v10 w10 l1 l2 l3) | fail)
        go_roundw
        case rel =>
          refine ⟨k + 1, fun b => if v10.ownBlock = some b then 1 else tg b, a6, c6, l6, by omega, by go_num, ?_, ?_, ?_, fun h => ?_, fun b hb => ?_, fun b hb => ?_, hb9.upd l2 hb9.size (fun b _ h => (hE9.lt b h).1)⟩
          · rw [HS1.out]; exact hA9.upd l2 (fun h => hno h)
          · rw [HS1.out]
            refine hR9.src (l2.mono (fun b _ h => ht1 b h)) (fun b hb => ?_)
            have hb' : (if v10.ownBlock = some b then 1 else tg b) ≠ 0 := hb
            by_cases ev : v10.ownBlock = some b
            · exact (l3 b ev).imp (fun h => ht1 b h) id
            · rw [if_neg ev] at hb'; exact .inl hb'
          · rw [HE1.out, List.length_append, show evcs (e4 ++ e5) = evcs e4 ++ evcs e5 by simp [evcs]]
            exact l1
          · rcases l3 _ h with h1 | h1
            · exact hno h1
            · omega
          · show (if v10.ownBlock = some b then 1 else tg b) ≠ 0
            rw [if_pos hb]; omega
          · have hs10 := l2.size
            show (if v10.ownBlock = some b then 1 else tg b) = 0
            rw [if_neg (fun ev => by have := (l1.lt b ev).2; omega)]
            exact ht2 b (by omega)
        case measure => simp [intOf] <;> omega
    · obtain rfl : k = nq := by omega
      have hcs : cs.take k = cs := List.take_of_length_le (by rw [HQ.out]; exact Nat.le_refl _)
      rw [hcs] at hE
      rw [hcs]
      clear hcs
      have HE := Lib.hid hE
      have HB := Lib.hid hbw
      clear hE hbw hM hAt
      generalize l0 ++ s0.runE cs = e4 at *
      go_wp2_with fail
      go_ret2
      exact ⟨_, rfl, HE.out, HB.out⟩
set_option maxHeartbeats 1000000 in
theorem ref_play_none (rs : List Rul) (t d : Int) (a : Option Addr) (n c : Nat) (b : Option Addr) (m c2 : Nat) (u : Value) (w : World) (h1 : RowU w a rs) (hn : n = rs.length) (hl : n ≤ 10000) (z : Int) (hz : nerr rs t d m = z) (h0 : z ≠ 0) :
    Calls Tryz.prog 35 #[.agg #[.slice a n c, .int .i64 t, .int .i64 d], .slice b m c2, u] w fun e w' => e = .returned (.tuple #[.slice none 0 0, .int .i64 z]) ∧ Below w.heap.size w w' := by
  have hb0 : Below w.heap.size w (w.alloc (.cells #[.slice a n c, .int .i64 t, .int .i64 d] 24)) := (Below.refl _ _).alloc (Nat.le_refl _) _
  have HN := Lib.hid (ref_new_none rs t d a n c b m c2 _ (h1.below hb0) hn hl z hz h0)
  have hz0 : (z != 0) = true := by rw [bne_iff_ne]; exact h0
  have HB0 := Lib.hid hb0
  have hba := fun (w1 : World) => Lib.hid ((Below.refl w1.heap.size w1).alloc (Nat.le_refl _) (.cells #[.slice none 0 0, .int .i64 0, .int .i64 0, .int .i64 0, .int .i64 0] 37))
  clear h1 hn hl hz h0 hb0
  go_enter Tryz.func35, Tryz.ntmps35
  go_wp2_with (first | (go_at_call 15; (with_reducible refine HN.out.mono ?_); rintro e w1 ⟨rfl, hb1⟩) | fail)
  go_ret2
  exact ⟨rfl, on_below (on_below HB0.out hb1) (hba _).out⟩
end Go.Proofs.YtoecikeleoaecaaGreat
