/- Contracts of the model's calls: the beginning, all of it. -/
import Derived.Test.YtoecikeleoaecaaGreatMod9
namespace Go.Proofs.YtoecikeleoaecaaGreat
set_option maxRecDepth 4000
open Go.ChangeShapes Go.WideShapes Go.ChangeAt Go.RowKit
open PHist PRing PSat PClamp PBound PFrame PVar PCrc PSign PTree PEv
set_option linter.unusedVariables false
set_option linter.unusedSimpArgs false

theorem MoS.reK {K K' : Option Addr → Nat → List R → Prop} {B : Nat} {w : World} {g : Nat} {ru : Value} {a : Option Addr} {n c : Nat} {l : List Pv} {ps : List Pt} {t d k m : Int} (h : MoS K B w g ru a n c l ps t d k m) (hk : ∀ v ∈ l, K' v.a v.c v.p.recs) : MoS K' B w g ru a n c l ps t d k m :=
  ⟨h.blk, h.row, h.len, h.map, h.ne, h.ok, hk, h.fr⟩
theorem MoS.old_at {K : Option Addr → Nat → List R → Prop} {B : Nat} {w : World} {g : Nat} {ru : Value} {a : Option Addr} {n c : Nat} {l : List Pv} {ps : List Pt} {t d k m : Int} (h : MoS K B w g ru a n c l ps t d k m) {v : Pv} (hv : v ∈ l) {p : Addr} (hp : v.a = some p) (h0 : 0 < v.p.recs.length) : p.block < w.heap.size := by
  obtain ⟨b', off, hab, hb, -⟩ := (h.ok v hv).row.at_ 0 h0
  rw [hab] at hp; cases hp
  exact hb
theorem add_zero_in {t : Int} (h : 1 ≤ t ∧ t ≤ 9223372036854775807) : add 0 t = t := by
  unfold add clampI
  (repeat' split) <;> omega
/-- One more: behind a record's row, its settling, and what is told. -/
theorem MoN.step {w8 wr w5 wx ws w9 : World} {g : Nat} {ru : Value} {k : Nat} {t d : Int} {rs : List Rul} {ls : List (List UInt8)} {a a1 : Option Addr} {c c1 n9 : Nat} {out v9 : Value} {l l2 : List Pv} (h : MoN w8 wr g ru k t d rs ls a c out l) (h5 : Below wr.heap.size wr w5) (hg : g + 1 ≤ wr.heap.size)
    (hU1 : Upd (fun b => b = g ∨ (Value.slice a k c).ownBlock = some b) w5 wx) (hq3 : ∀ b, (Value.slice a1 (k + 1) c1).ownBlock = some b → (Value.slice a k c).ownBlock = some b ∨ w5.heap.size ≤ b)
    (hM2 : MoS (fun a _ r => ∀ p, a = some p → 0 < r.length → g + 1 ≤ p.block ∧ out.ownBlock ≠ some p.block) (g + 1) ws g ru a1 (k + 1) c1 l2 ((begun t rs ls).take (k + 1)) t d 0 (-9223372036854775808)) (hU2 : Upd (fun b => (Value.slice a1 (k + 1) c1).ownBlock = some b) wx ws)
    (hn : n9 = (faultsTo (raws t rs ls) (k + 1)).length) (l1 : Sl (g + 1) w9 1 v9 n9 ((faultsTo (raws t rs ls) (k + 1)).map evv)) (u1 : Upd (fun b => out.ownBlock = some b) ws w9) (l3 : ∀ b, v9.ownBlock = some b → out.ownBlock = some b ∨ ws.heap.size ≤ b) :
    MoN w8 w9 g ru (k + 1) t d rs ls a1 c1 v9 l2 := by
  subst hn
  have hs5 := h5.size
  have hsx := hU1.size
  have hss := hU2.size
  have hap : ∀ b, (Value.slice a1 (k + 1) c1).ownBlock = some b → out.ownBlock ≠ some b := fun b h1 h2 => (hq3 b h1).elim (fun h3 => (h.fo b h2).1 h3) (fun h3 => by have := (h.evr.lt b h2).2; omega)
  have hog : ∀ b, out.ownBlock = some b → g + 1 ≤ b := fun b hb => (h.evr.lt b hb).1
  have hpg : ∀ b, (Value.slice a k c).ownBlock = some b → g + 1 ≤ b := fun b hb => (h.st.row.lt b hb).1
  have hpg1 : ∀ b, (Value.slice a1 (k + 1) c1).ownBlock = some b → g + 1 ≤ b := fun b hb => (hM2.row.lt b hb).1
  have hM3 := hM2.upd u1 (fun e => by have := hog _ e; omega) (fun b h1 h2 => hap b h1 h2) (fun v hv p hp h0 e => (hM2.kk v hv p hp h0).2 e)
  refine ⟨hM3.reK (fun v hv p hp h0 => (hM2.kk v hv p hp h0).1), l1, fun b hb => ⟨fun e => ?_, fun v hv p hp h0 e => ?_⟩, ?_⟩
  · rcases l3 b hb with h1 | h1
    · exact hap b e h1
    · have := (hM2.row.lt b e).2; omega
  · rcases l3 b hb with h1 | h1
    · exact (hM2.kk v hv p hp h0).2 (by rw [e]; exact h1)
    · have := hM2.old_at hv hp h0; omega
  · refine (((h.new.trans (Upd.of_below (S := fun b => g ≤ b) h5 (fun q h1 h2 => by omega)) (fun _ _ h => h)).trans hU1 (fun q _ h => ?_)).trans hU2 (fun q _ h => ?_)).trans u1 (fun q _ h => ?_)
    · rcases h with h | h
      · show g ≤ q; omega
      · have := hpg q h; show g ≤ q; omega
    · have := hpg1 q h; show g ≤ q; omega
    · have := hog q h; show g ≤ q; omega
/-- The end: all are there, and time goes on. -/
theorem MoN.done {w w8 wr ws w9 wf : World} {g : Nat} {ra : Option Addr} {rn rc : Nat} {k : Nat} {t d fu : Int} {rs : List Rul} {ls : List (List UInt8)} {a : Option Addr} {c n9 : Nat} {out v9 : Value} {l l2 : List Pv} {es : List Ev} {xs : List Value} (h : MoN w8 wr g (.slice ra rn rc) k t d rs ls a c out l) (hw : Below w.heap.size w w8) (hg8 : w.heap.size + 1 < g)
    (hru : Sl (w.heap.size + 2) w8 5 (.slice ra rn rc) rn (rs.flatMap Rul.cells)) (hrg : ∀ b, (Value.slice ra rn rc).ownBlock = some b → b < g) (hrn : rn = rs.length) (hk : k = (begun t rs ls).length)
    (hM2 : MoS (fun a _ r => ∀ p, a = some p → 0 < r.length → g + 1 ≤ p.block ∧ out.ownBlock ≠ some p.block) (g + 1) ws g (.slice ra rn rc) a k c l2 (begun t rs ls) t d 0 fu) (hU2 : Upd (fun b => b = g) wr ws)
    (hn : n9 = es.length) (hxs : xs = es.map evv) (l1 : Sl (g + 1) w9 1 v9 n9 xs) (u1 : Upd (fun b => out.ownBlock = some b) ws w9) (l3 : ∀ b, v9.ownBlock = some b → out.ownBlock = some b ∨ ws.heap.size ≤ b) (hf : Upd (fun b => b = w.heap.size + 1) w9 wf) :
    NewM ⟨begun t rs ls, t, d, 0, fu⟩ es rs rn w (.returned (.tuple #[.agg #[.slice ra rn rc, .int .i64 t, .int .i64 d, .slice a k c, .int .i64 0, .int .i64 fu], v9, .int .i64 0])) wf := by
  subst hn hxs
  have hss := hU2.size
  have hog : ∀ b, out.ownBlock = some b → g + 1 ≤ b := fun b hb => (h.evr.lt b hb).1
  have hpg1 : ∀ b, (Value.slice a k c).ownBlock = some b → g + 1 ≤ b := fun b hb => (hM2.row.lt b hb).1
  have hgl := hM2.blk.1
  have hM3 := hM2.upd u1 (fun e => by have := hog _ e; omega) (fun b h1 h2 => (h.fo b h2).1 h1) (fun v hv p hp h0 e => (hM2.kk v hv p hp h0).2 e)
  have hM4 := hM3.upd hf (fun e => by omega) (fun b h1 h2 => by have := hpg1 b h1; omega) (fun v hv p hp h0 e => by have := (hM2.kk v hv p hp h0).1; omega)
  have hU9 : Upd (fun b => g ≤ b) w8 w9 := (h.new.trans hU2 (fun q _ h => by show g ≤ q; omega)).trans u1 (fun q _ h => by have := hog q h; show g ≤ q; omega)
  have hUf : Upd (fun b => g ≤ b ∨ b = w.heap.size + 1) w8 wf := (hU9.mono (fun _ _ h => .inl h)).trans hf (fun _ _ h => .inr h)
  have hru4 := hru.upd hUf (fun b h1 h2 => by have := hrg b h1; have := (hru.lt b h1).1; omega)
  obtain ⟨a', c', hv, hG⟩ := rowg_of_sl (f := Rul.cells) hru4 hrn rul_len
  cases hv
  have hl9 := l1.upd hf (fun b h1 h2 => by have := (l1.lt b h1).1; omega)
  refine ⟨ra, rc, a, c, l2, v9, by rw [hk], hG, hM4.rowp, hM4.map, hl9.base (by omega), hw.upd hUf hw.size (fun q _ h => by omega), fun p hp => ?_, fun p hp => ?_, fun q hq => ⟨fun p hp e => ?_, fun p hp e => ?_, fun v hv p hp h0 e => ?_⟩, fun v hv p hp h0 => ?_⟩
  · have := (hru.lt p.block (by rw [hp]; rfl)).1; omega
  · have := hpg1 p.block (by rw [hp]; rfl); omega
  · have h1 := hrg p.block (by rw [hp]; rfl)
    have := (l1.lt q hq).1
    omega
  · have h1 : (Value.slice a k c).ownBlock = some q := by rw [hp, e]; rfl
    rcases l3 q hq with h2 | h2
    · exact (h.fo q h2).1 h1
    · have := (hM2.row.lt q h1).2; omega
  · rcases l3 q hq with h2 | h2
    · exact (hM2.kk v hv p hp h0).2 (by rw [← e]; exact h2)
    · have := hM2.old_at hv hp h0; omega
  · have := (hM2.kk v hv p hp h0).1; omega
end Go.Proofs.YtoecikeleoaecaaGreat
