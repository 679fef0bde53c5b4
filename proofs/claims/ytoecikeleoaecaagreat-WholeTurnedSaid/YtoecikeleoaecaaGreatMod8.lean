/- Contracts of the model's calls: a choice. -/
import Derived.Test.YtoecikeleoaecaaGreatMod7
namespace Go.Proofs.YtoecikeleoaecaaGreat
set_option maxRecDepth 4000
open Go.ChangeShapes Go.WideShapes Go.ChangeAt Go.RowKit
open PHist PRing PSat PClamp PBound PFrame PSign PTree PEv
set_option linter.unusedVariables false
set_option linter.unusedSimpArgs false

/-- Another state, whose rows are its own, and its events. -/
def MoD (K : Option Addr → Nat → List R → Prop) (s : St) (es : List Ev) (rs : List Rul) (rn : Nat) (w : World) (e : Ending) (w' : World) : Prop :=
  ∃ ra rc a c l r, e = .returned (.tuple #[.agg #[.slice ra rn rc, .int .i64 s.timeout, .int .i64 s.drift, .slice a s.ps.length c, .int .i64 s.clock, .int .i64 s.now], r]) ∧ RowU w' ra rs ∧ RowG w' 10 Pv.cells a l ∧ (∀ v ∈ l, K v.a v.c v.p.recs) ∧ l.map (·.p) = s.ps ∧ Sl w.heap.size w' 1 r es.length (es.map evv) ∧ Below w.heap.size w w' ∧ (∀ p, ra = some p → w.heap.size ≤ p.block) ∧ (∀ p, a = some p → w.heap.size ≤ p.block)
/-- A state whose rows have just been made. -/
theorem MoS.made {K : Option Addr → Nat → List R → Prop} {w w2 : World} {B : Nat} {ra : Option Addr} {rn rc : Nat} {a : Option Addr} {n c : Nat} {l : List Pv} {ps : List Pt} {t d k m : Int} {ex : TypeId} (hb : Below w.heap.size w w2) (hB : w.heap.size ≤ B) (hs : Sl B w2 10 (.slice a n c) n (pvs l)) (hn : n = l.length) (hl : l.map (·.p) = ps) (hok : ∀ v ∈ l, PvOk w v) (hk : ∀ v ∈ l, K v.a v.c v.p.recs) :
    MoS K w.heap.size (w2.alloc (.cells #[.slice ra rn rc, .int .i64 t, .int .i64 d, .slice a n c, .int .i64 k, .int .i64 m] ex)) w2.heap.size (.slice ra rn rc) a n c l ps t d k m :=
  ⟨At.alloc w2 [.slice ra rn rc, .int .i64 t, .int .i64 d, .slice a n c, .int .i64 k, .int .i64 m] ex, (hs.alloc _).base hB, hn, hl, fun h => Nat.lt_irrefl _ (hs.lt _ h).2, fun v hv => ((hok v hv).on hb).on ((Below.refl _ _).alloc (Nat.le_refl _) _), hk, fun v hv p hp h0 => by
    obtain ⟨b', off, hab, hb', -⟩ := (hok v hv).row.at_ 0 h0
    rw [hab] at hp; cases hp
    have := hb.size
    refine ⟨fun e => ?_, fun e => ?_⟩
    · have e : b' = w2.heap.size := e
      omega
    · have := (hs.lt _ e).1
      have hb' : b' < w.heap.size := hb'
      have : B ≤ b' := this
      omega⟩
set_option maxHeartbeats 4000000 in
theorem mo_do_poll (K : Option Addr → Nat → List R → Prop) (ra : Option Addr) (rn rc : Nat) (rs : List Rul) (a : Option Addr) (n c : Nat) (l : List Pv) (s s2 : St) (es : List Ev) (x : Int) (w : World) (hru : RowU w ra rs) (hrn : rn = rs.length) (hr8 : rn ≤ 10000) (hr : RowP w a l) (hn : n = l.length) (hl : l.map (·.p) = s.ps) (h0 : ∀ v ∈ l, K v.a v.c v.p.recs) (h8 : n ≤ 1000) (hn2 : s2.ps.length = n)
    (HC : ∀ (g : Nat) (ra2 : Option Addr) (rc2 : Nat) (a2 : Option Addr) (c2 : Nat) (w3 : World), MoS K w.heap.size w3 g (.slice ra2 rn rc2) a2 n c2 l s.ps s.timeout s.drift s.clock s.now → Calls Tryz.prog 82 #[.pointer (some ⟨g, 0, none⟩), .int .i64 x] w3 (MoPost K w.heap.size g (.slice ra2 rn rc2) a2 n c2 s2.ps s2.timeout s2.drift s2.clock s2.now (fun b => b = g ∨ (Value.slice a2 n c2).ownBlock = some b) es w3)) :
    Calls Tryz.prog 36 #[.agg #[.slice ra rn rc, .int .i64 s.timeout, .int .i64 s.drift, .slice a n c, .int .i64 s.clock, .int .i64 s.now], .agg #[.bool false, .int .i64 x]] w (MoD K s2 es rs rn w) := by
  have e := fun (w : World) (o : Obj) => (Below.refl w.heap.size w).alloc (Nat.le_refl _) o
  have hA0 := At.alloc w [.slice ra rn rc, .int .i64 s.timeout, .int .i64 s.drift, .slice a n c, .int .i64 s.clock, .int .i64 s.now] 70
  have hA1 := At.alloc (w.alloc (.cells #[.slice ra rn rc, .int .i64 s.timeout, .int .i64 s.drift, .slice a n c, .int .i64 s.clock, .int .i64 s.now] 70)) [.bool false, .int .i64 x] 48
  have hA2 := At.alloc ((w.alloc (.cells #[.slice ra rn rc, .int .i64 s.timeout, .int .i64 s.drift, .slice a n c, .int .i64 s.clock, .int .i64 s.now] 70)).alloc (.cells #[.bool false, .int .i64 x] 48)) [.slice none 0 0, .int .i64 0, .int .i64 0, .slice none 0 0, .int .i64 0, .int .i64 0] 70
  simp only [World.size_alloc] at hA1 hA2
  have hA0' := (hA0.on (e _ (.cells #[.bool false, .int .i64 x] 48))).on (e _ (.cells #[.slice none 0 0, .int .i64 0, .int .i64 0, .slice none 0 0, .int .i64 0, .int .i64 0] 70))
  have hA1' := hA1.on (e _ (.cells #[.slice none 0 0, .int .i64 0, .int .i64 0, .slice none 0 0, .int .i64 0, .int .i64 0] 70))
  have hB0 : Below w.heap.size w (((w.alloc (.cells #[.slice ra rn rc, .int .i64 s.timeout, .int .i64 s.drift, .slice a n c, .int .i64 s.clock, .int .i64 s.now] 70)).alloc (.cells #[.bool false, .int .i64 x] 48)).alloc (.cells #[.slice none 0 0, .int .i64 0, .int .i64 0, .slice none 0 0, .int .i64 0, .int .i64 0] 70)) := on_below (on_below (e _ _) (e _ _)) (e _ _)
  have HAP := fun w' (hb : Below w.heap.size w w') => Lib.hid (mo_apart ra rn rc rs a n c l s.timeout s.drift s.clock s.now w' (hru.below hb) hrn (hr.on hb) hn h8 hr8)
  have HC' := fun g ra2 rc2 a2 c2 w3 h => Lib.hid (HC g ra2 rc2 a2 c2 w3 h)
  have HM := fun (w2 : World) (B : Nat) (ra2 : Option Addr) (rc2 : Nat) (a2 : Option Addr) (c2 : Nat) (hb : Below w.heap.size w w2) (hB : w.heap.size ≤ B) (hs : Sl B w2 10 (.slice a2 n c2) n (pvs l)) => MoS.made (ra := ra2) (rn := rn) (rc := rc2) (t := s.timeout) (d := s.drift) (k := s.clock) (m := s.now) (ex := 70) hb hB hs hn hl hr.ok h0
  have HN2 := Lib.hid hn2
  have HRN := Lib.hid hrn
  clear hru hrn hr hn hl h0 HC hA0 hA1 hn2 e
  obtain ⟨ps, tm, dr, ck, nw⟩ := s
  simp only at *
  go_enter Tryz.func36, Tryz.ntmps36
  go_upto_region 1 with fail
  generalize ((w.alloc (.cells #[.slice ra rn rc, .int .i64 tm, .int .i64 dr, .slice a n c, .int .i64 ck, .int .i64 nw] 70)).alloc (.cells #[.bool false, .int .i64 x] 48)).alloc (.cells #[.slice none 0 0, .int .i64 0, .int .i64 0, .slice none 0 0, .int .i64 0, .int .i64 0] 70) = w1 at *
  have hsz1 : w.heap.size + 1 + 1 < w1.heap.size := hA2.1
  obtain ⟨-, p0, -, p1, -, p2, -, p3, -, p4, -, p5, -⟩ := hA0'.cells6
  have HA1 := HAP _ hB0
  go_upto_region 2 with (first | (go_at_call 76; (with_reducible refine HA1.out.mono ?_); intro e2 w2 hY; obtain ⟨ra2, rc2, a2, c2, rfl, hs2, ht2, hb2, hne2, -⟩ := hY) | fail)
  have hM3 := HM w2 w1.heap.size ra2 rc2 a2 c2 (on_below hB0 hb2) hB0.size ht2
  have hba := (Below.refl w2.heap.size w2).alloc (Nat.le_refl _) (.cells #[.slice ra2 rn rc2, .int .i64 tm, .int .i64 dr, .slice a2 n c2, .int .i64 ck, .int .i64 nw] 70)
  have hb3 := on_below hb2 hba
  have hC3 := hA1'.on hb3
  have hZ3 := hA2.on hb3
  have hs3 := hs2.onW hba
  have hB3 := on_below hB0 hb3
  have hg2 : w1.heap.size ≤ w2.heap.size := hb2.size
  have hrg : ∀ q, (Value.slice ra2 rn rc2).ownBlock = some q → q < w2.heap.size := fun q hq => (hs2.lt q hq).2
  have hpg : ∀ q, (Value.slice a2 n c2).ownBlock = some q → w1.heap.size ≤ q := fun q hq => (ht2.lt q hq).1
  have HC3 := HC' _ _ _ _ _ _ hM3
  clear p0 p1 p2 p3 p4 p5 hA0' hA1' hA2 hs2 ht2 hb2 hb3 hba HM HAP HA1 HC' hM3 hB0
  generalize w2.alloc (.cells #[.slice ra2 rn rc2, .int .i64 tm, .int .i64 dr, .slice a2 n c2, .int .i64 ck, .int .i64 nw] 70) = w3 at *
  generalize w2.heap.size = g at *
  obtain ⟨-, c0, -, c1, -⟩ := hC3.two
  go_upto_region 6 with (first | (go_at_call 82; (with_reducible refine HC3.out.mono ?_); intro e4 w4 hY; obtain ⟨l4, r4, rfl, hs4, hM4, hu4⟩ := hY) | fail)
  have hZ4 := hZ3.upd hu4 (fun h => by rcases h with h | h; · omega
                                       · have := hpg _ h; omega)
  obtain ⟨-, p0, y0, p1, y1, p2, y2, p3, y3, p4, y4, p5, y5⟩ := hM4.blk.cells6
  obtain ⟨-, q0, z0, q1, z1, q2, z2, q3, z3, q4, z4, q5, z5⟩ := hZ4.cells6
  have hT := Lib.hid (fun x0 x1 x2 x3 x4 x5 => At.all6 hZ4 x0 x1 x2 x3 x4 x5)
  have hUf := Lib.hid (fun x0 x1 x2 x3 x4 x5 => Upd.all6 (Upd.refl (fun b => b = w.heap.size + 1 + 1) w4) (g := w.heap.size + 1 + 1) (fun _ => rfl) x0 x1 x2 x3 x4 x5)
  have hB4 : Below w.heap.size w w4 := hB3.upd hu4 hB3.size (fun q _ h => by rcases h with h | h; · omega
                                                                             · have := hpg _ h; omega)
  have hs4r := hs3.upd hu4 (fun q h1 h2 => by rcases h2 with h2 | h2; · have := hrg q h1; omega
                                              · exact hne2 q h1 h2)
  have HFI : Hid (∀ wf, Upd (fun b => b = w.heap.size + 1 + 1) w4 wf → MoD K s2 es rs rn w (.returned (.tuple #[.agg #[.slice ra2 rn rc2, .int .i64 s2.timeout, .int .i64 s2.drift, .slice a2 n c2, .int .i64 s2.clock, .int .i64 s2.now], r4])) wf) := fun wf hu => by
    have hB := hB4.upd hu hB4.size (fun q _ h => by omega)
    have hrow := hs4r.upd hu (fun q h1 h2 => by have := (hs4r.lt q h1).1; omega)
    have hrow2 := hM4.row.upd hu (fun q h1 h2 => by have := hpg q h1; omega)
    have hev := hs4.upd hu (fun q h1 h2 => by have := (hs4.lt q h1).1; have := hB3.size; have := hZ3.1; omega)
    obtain ⟨a', c', hv, hG⟩ := rowg_of_sl (f := Rul.cells) hrow HRN.out rul_len
    cases hv
    obtain ⟨a', c', hv, hG2⟩ := rowg_of_sl (f := Pv.cells) hrow2 hM4.len (fun _ => rfl)
    cases hv
    have hn2 := HN2.out
    refine ⟨ra2, rc2, a2, c2, l4, r4, by rw [hn2], hG, hG2, hM4.kk, hM4.map, hev.base (by have := hZ3.1; omega), hB, fun p hp => ?_, fun p hp => ?_⟩
    · have := (hs4r.lt p.block (by rw [hp]; rfl)).1
      omega
    · have := hpg p.block (by rw [hp]; rfl)
      omega
  clear hZ4 hB4 hs4r hM4 hs4 hu4 hZ3 hC3 hs3
  go_wp2_with fail
  refine bodyPost_ret (results_at2 (fn := Tryz.f36) rfl _ rfl (hT.out _ _ _ _ _ _) Tryz.underlying70 rfl (by kernel_rfl)) rfl ?_
  exact HFI.out _ (hUf.out _ _ _ _ _ _)
set_option maxHeartbeats 4000000 in
theorem mo_do_tick (K : Option Addr → Nat → List R → Prop) (ra : Option Addr) (rn rc : Nat) (rs : List Rul) (a : Option Addr) (n c : Nat) (l : List Pv) (s s2 : St) (es : List Ev) (x : Int) (w : World) (hru : RowU w ra rs) (hrn : rn = rs.length) (hr8 : rn ≤ 10000) (hr : RowP w a l) (hn : n = l.length) (hl : l.map (·.p) = s.ps) (h0 : ∀ v ∈ l, K v.a v.c v.p.recs) (h8 : n ≤ 1000) (hn2 : s2.ps.length = n)
    (HC : ∀ (g : Nat) (ra2 : Option Addr) (rc2 : Nat) (a2 : Option Addr) (c2 : Nat) (w3 : World), MoS K w.heap.size w3 g (.slice ra2 rn rc2) a2 n c2 l s.ps s.timeout s.drift s.clock s.now → Calls Tryz.prog 81 #[.pointer (some ⟨g, 0, none⟩), .int .i64 x] w3 (MoPost K w.heap.size g (.slice ra2 rn rc2) a2 n c2 s2.ps s2.timeout s2.drift s2.clock s2.now (fun b => b = g ∨ (Value.slice a2 n c2).ownBlock = some b) es w3)) :
    Calls Tryz.prog 36 #[.agg #[.slice ra rn rc, .int .i64 s.timeout, .int .i64 s.drift, .slice a n c, .int .i64 s.clock, .int .i64 s.now], .agg #[.bool true, .int .i64 x]] w (MoD K s2 es rs rn w) := by
  have e := fun (w : World) (o : Obj) => (Below.refl w.heap.size w).alloc (Nat.le_refl _) o
  have hA0 := At.alloc w [.slice ra rn rc, .int .i64 s.timeout, .int .i64 s.drift, .slice a n c, .int .i64 s.clock, .int .i64 s.now] 70
  have hA1 := At.alloc (w.alloc (.cells #[.slice ra rn rc, .int .i64 s.timeout, .int .i64 s.drift, .slice a n c, .int .i64 s.clock, .int .i64 s.now] 70)) [.bool true, .int .i64 x] 48
  have hA2 := At.alloc ((w.alloc (.cells #[.slice ra rn rc, .int .i64 s.timeout, .int .i64 s.drift, .slice a n c, .int .i64 s.clock, .int .i64 s.now] 70)).alloc (.cells #[.bool true, .int .i64 x] 48)) [.slice none 0 0, .int .i64 0, .int .i64 0, .slice none 0 0, .int .i64 0, .int .i64 0] 70
  simp only [World.size_alloc] at hA1 hA2
  have hA0' := (hA0.on (e _ (.cells #[.bool true, .int .i64 x] 48))).on (e _ (.cells #[.slice none 0 0, .int .i64 0, .int .i64 0, .slice none 0 0, .int .i64 0, .int .i64 0] 70))
  have hA1' := hA1.on (e _ (.cells #[.slice none 0 0, .int .i64 0, .int .i64 0, .slice none 0 0, .int .i64 0, .int .i64 0] 70))
  have hB0 : Below w.heap.size w (((w.alloc (.cells #[.slice ra rn rc, .int .i64 s.timeout, .int .i64 s.drift, .slice a n c, .int .i64 s.clock, .int .i64 s.now] 70)).alloc (.cells #[.bool true, .int .i64 x] 48)).alloc (.cells #[.slice none 0 0, .int .i64 0, .int .i64 0, .slice none 0 0, .int .i64 0, .int .i64 0] 70)) := on_below (on_below (e _ _) (e _ _)) (e _ _)
  have HAP := fun w' (hb : Below w.heap.size w w') => Lib.hid (mo_apart ra rn rc rs a n c l s.timeout s.drift s.clock s.now w' (hru.below hb) hrn (hr.on hb) hn h8 hr8)
  have HC' := fun g ra2 rc2 a2 c2 w3 h => Lib.hid (HC g ra2 rc2 a2 c2 w3 h)
  have HM := fun (w2 : World) (B : Nat) (ra2 : Option Addr) (rc2 : Nat) (a2 : Option Addr) (c2 : Nat) (hb : Below w.heap.size w w2) (hB : w.heap.size ≤ B) (hs : Sl B w2 10 (.slice a2 n c2) n (pvs l)) => MoS.made (ra := ra2) (rn := rn) (rc := rc2) (t := s.timeout) (d := s.drift) (k := s.clock) (m := s.now) (ex := 70) hb hB hs hn hl hr.ok h0
  have HN2 := Lib.hid hn2
  have HRN := Lib.hid hrn
  clear hru hrn hr hn hl h0 HC hA0 hA1 hn2 e
  obtain ⟨ps, tm, dr, ck, nw⟩ := s
  simp only at *
  go_enter Tryz.func36, Tryz.ntmps36
  go_upto_region 1 with fail
  generalize ((w.alloc (.cells #[.slice ra rn rc, .int .i64 tm, .int .i64 dr, .slice a n c, .int .i64 ck, .int .i64 nw] 70)).alloc (.cells #[.bool true, .int .i64 x] 48)).alloc (.cells #[.slice none 0 0, .int .i64 0, .int .i64 0, .slice none 0 0, .int .i64 0, .int .i64 0] 70) = w1 at *
  have hsz1 : w.heap.size + 1 + 1 < w1.heap.size := hA2.1
  obtain ⟨-, p0, -, p1, -, p2, -, p3, -, p4, -, p5, -⟩ := hA0'.cells6
  have HA1 := HAP _ hB0
  go_upto_region 2 with (first | (go_at_call 76; (with_reducible refine HA1.out.mono ?_); intro e2 w2 hY; obtain ⟨ra2, rc2, a2, c2, rfl, hs2, ht2, hb2, hne2, -⟩ := hY) | fail)
  have hM3 := HM w2 w1.heap.size ra2 rc2 a2 c2 (on_below hB0 hb2) hB0.size ht2
  have hba := (Below.refl w2.heap.size w2).alloc (Nat.le_refl _) (.cells #[.slice ra2 rn rc2, .int .i64 tm, .int .i64 dr, .slice a2 n c2, .int .i64 ck, .int .i64 nw] 70)
  have hb3 := on_below hb2 hba
  have hC3 := hA1'.on hb3
  have hZ3 := hA2.on hb3
  have hs3 := hs2.onW hba
  have hB3 := on_below hB0 hb3
  have hg2 : w1.heap.size ≤ w2.heap.size := hb2.size
  have hrg : ∀ q, (Value.slice ra2 rn rc2).ownBlock = some q → q < w2.heap.size := fun q hq => (hs2.lt q hq).2
  have hpg : ∀ q, (Value.slice a2 n c2).ownBlock = some q → w1.heap.size ≤ q := fun q hq => (ht2.lt q hq).1
  have HC3 := HC' _ _ _ _ _ _ hM3
  clear p0 p1 p2 p3 p4 p5 hA0' hA1' hA2 hs2 ht2 hb2 hb3 hba HM HAP HA1 HC' hM3 hB0
  generalize w2.alloc (.cells #[.slice ra2 rn rc2, .int .i64 tm, .int .i64 dr, .slice a2 n c2, .int .i64 ck, .int .i64 nw] 70) = w3 at *
  generalize w2.heap.size = g at *
  obtain ⟨-, c0, -, c1, -⟩ := hC3.two
  go_upto_region 6 with (first | (go_at_call 81; (with_reducible refine HC3.out.mono ?_); intro e4 w4 hY; obtain ⟨l4, r4, rfl, hs4, hM4, hu4⟩ := hY) | fail)
  have hZ4 := hZ3.upd hu4 (fun h => by rcases h with h | h; · omega
                                       · have := hpg _ h; omega)
  obtain ⟨-, p0, y0, p1, y1, p2, y2, p3, y3, p4, y4, p5, y5⟩ := hM4.blk.cells6
  obtain ⟨-, q0, z0, q1, z1, q2, z2, q3, z3, q4, z4, q5, z5⟩ := hZ4.cells6
  have hT := Lib.hid (fun x0 x1 x2 x3 x4 x5 => At.all6 hZ4 x0 x1 x2 x3 x4 x5)
  have hUf := Lib.hid (fun x0 x1 x2 x3 x4 x5 => Upd.all6 (Upd.refl (fun b => b = w.heap.size + 1 + 1) w4) (g := w.heap.size + 1 + 1) (fun _ => rfl) x0 x1 x2 x3 x4 x5)
  have hB4 : Below w.heap.size w w4 := hB3.upd hu4 hB3.size (fun q _ h => by rcases h with h | h; · omega
                                                                             · have := hpg _ h; omega)
  have hs4r := hs3.upd hu4 (fun q h1 h2 => by rcases h2 with h2 | h2; · have := hrg q h1; omega
                                              · exact hne2 q h1 h2)
  have HFI : Hid (∀ wf, Upd (fun b => b = w.heap.size + 1 + 1) w4 wf → MoD K s2 es rs rn w (.returned (.tuple #[.agg #[.slice ra2 rn rc2, .int .i64 s2.timeout, .int .i64 s2.drift, .slice a2 n c2, .int .i64 s2.clock, .int .i64 s2.now], r4])) wf) := fun wf hu => by
    have hB := hB4.upd hu hB4.size (fun q _ h => by omega)
    have hrow := hs4r.upd hu (fun q h1 h2 => by have := (hs4r.lt q h1).1; omega)
    have hrow2 := hM4.row.upd hu (fun q h1 h2 => by have := hpg q h1; omega)
    have hev := hs4.upd hu (fun q h1 h2 => by have := (hs4.lt q h1).1; have := hB3.size; have := hZ3.1; omega)
    obtain ⟨a', c', hv, hG⟩ := rowg_of_sl (f := Rul.cells) hrow HRN.out rul_len
    cases hv
    obtain ⟨a', c', hv, hG2⟩ := rowg_of_sl (f := Pv.cells) hrow2 hM4.len (fun _ => rfl)
    cases hv
    have hn2 := HN2.out
    refine ⟨ra2, rc2, a2, c2, l4, r4, by rw [hn2], hG, hG2, hM4.kk, hM4.map, hev.base (by have := hZ3.1; omega), hB, fun p hp => ?_, fun p hp => ?_⟩
    · have := (hs4r.lt p.block (by rw [hp]; rfl)).1
      omega
    · have := hpg p.block (by rw [hp]; rfl)
      omega
  clear hZ4 hB4 hs4r hM4 hs4 hu4 hZ3 hC3 hs3
  go_wp2_with fail
  refine bodyPost_ret (results_at2 (fn := Tryz.f36) rfl _ rfl (hT.out _ _ _ _ _ _) Tryz.underlying70 rfl (by kernel_rfl)) rfl ?_
  exact HFI.out _ (hUf.out _ _ _ _ _ _)
theorem mo_do (K : Option Addr → Nat → List R → Prop) (ra : Option Addr) (rn rc : Nat) (rs : List Rul) (a : Option Addr) (n c : Nat) (l : List Pv) (s : St) (t : Bool) (x : Int) (w : World) (hru : RowU w ra rs) (hrn : rn = rs.length) (hr8 : rn ≤ 10000) (hr : RowP w a l) (hn : n = l.length) (hl : l.map (·.p) = s.ps) (h0 : ∀ v ∈ l, K v.a v.c v.p.recs) (hok : s.Ok) (hx : in64 x) :
    Calls Tryz.prog 36 #[.agg #[.slice ra rn rc, .int .i64 s.timeout, .int .i64 s.drift, .slice a n c, .int .i64 s.clock, .int .i64 s.now], .agg #[.bool t, .int .i64 x]] w (MoD K (s.doS (t, x)) (s.doE (t, x)) rs rn w) := by
  have hln : s.ps.length = n := by rw [hn, ← hl, List.length_map]
  have h8 : n ≤ 1000 := by have := hok.n; omega
  have hn2 : (s.doS (t, x)).ps.length = n := by rw [doS_len, hln]
  cases t
  · refine mo_do_poll K ra rn rc rs a n c l s _ _ x w hru hrn hr8 hr hn hl h0 h8 hn2 fun g ra2 rc2 a2 c2 w3 h => ?_
    cases hv : s.refused x
    · obtain ⟨k, rfl⟩ : ∃ k : Nat, x = k := ⟨x.toNat, by have := (refused_not hv).1; omega⟩
      rw [show s.doS (false, (k : Int)) = s.pollS k by show (if s.refused k = true then s else s.pollS (k : Int).toNat) = _; rw [if_neg (by rw [hv]; exact Bool.false_ne_true), Int.toNat_natCast], show s.doE (false, (k : Int)) = s.pollE k by show (if s.refused k = true then [] else s.pollE (k : Int).toNat) = _; rw [if_neg (by rw [hv]; exact Bool.false_ne_true), Int.toNat_natCast]]
      exact mo_poll K _ g ra2 rn rc2 a2 n c2 l s.ps s.timeout s.drift s.clock s.now k w3 h hok hv
    · rw [show s.doS (false, x) = s from if_pos hv, show s.doE (false, x) = [] from if_pos hv]
      exact mo_poll_no K _ g ra2 rn rc2 a2 n c2 l s x w3 h hok hv
  · refine mo_do_tick K ra rn rc rs a n c l s _ _ x w hru hrn hr8 hr hn hl h0 h8 hn2 fun g ra2 rc2 a2 c2 w3 h => ?_
    by_cases hx0 : x < 0
    · rw [show s.doS (true, x) = s from if_pos hx0, show s.doE (true, x) = [] from if_pos hx0]
      exact mo_tick_vain K _ g _ a2 n c2 l s.ps s.timeout s.drift s.clock s.now x w3 h hx0
    · rw [show s.doS (true, x) = s.tickS x from if_neg hx0, show s.doE (true, x) = s.tickE x from if_neg hx0]
      exact mo_tick K _ g _ a2 n c2 l s x w3 h hok (by omega) hx.2
end Go.Proofs.YtoecikeleoaecaaGreat
