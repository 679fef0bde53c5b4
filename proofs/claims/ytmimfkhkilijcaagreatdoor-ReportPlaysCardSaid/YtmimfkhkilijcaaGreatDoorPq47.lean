/- RefV: what is reached of them. -/
import Derived.Test.YtmimfkhkilijcaaGreatDoorPq46
import Derived.Test.YtmimfkhkilijcaaGreatDoorPq30
set_option linter.unusedVariables false
set_option linter.unusedSimpArgs false
set_option maxRecDepth 100000
set_option maxHeartbeats 8000000
namespace Go.Proofs.YtmimfkhkilijcaaGreatDoor
open Go.ChangeShapes Go.WideShapes Go.ChangeAt Go.RowKit
open PHist PRing PSat PClamp PBound PFrame PVar PCrc PSign PTree PEv
theorem rowp_keep {S : Nat→Prop} {w w' : World} {a : Option Addr} {l : List Pv} (h : RowG w 10 Pv.cells a l) (hu : Upd S w w') (hn : ∀ p,a=some p→0<l.length→¬ S p.block) : RowG w' 10 Pv.cells a l:=by
  rcases Nat.eq_zero_or_pos l.length with h0|h0
  · exact ⟨fun i hi=>by omega⟩
  · exact h.upd hu fun p hp=>hn p hp h0
def KR (w1 : World) (t1 : Nat→Prop) (a : Option Addr) (c : Nat) (recs : List R) : Prop:=RowR w1 a recs∧recs.length≤c∧c≤maxLen∧∀ p,a=some p→0<recs.length→¬ t1 p.block
structure RefR (w1 : World) (t1 : Nat→Prop) (tag : Nat→Nat) (g5 : Nat) (wr : World) (a : Option Addr) (l : List Pv) (s : St) : Prop where
  row : RowG wr 10 Pv.cells a l
  k : ∀ v∈l,KR w1 t1 v.a v.c v.p.recs
  ps : l.map (·.p)=s.ps
  new : Upd t1 w1 wr
  fr : ∀ p,a=some p→0<l.length→tag p.block=0∧p.block≠g5
  old : ∀ b,b<w1.heap.size→tag b≠0→t1 b
  g : w1.heap.size≤g5
section
variable {w1 wr w' : World} {t1 : Nat→Prop} {tag tag' : Nat→Nat} {g5 : Nat} {a : Option Addr} {l : List Pv} {s : St}
theorem RefR.on (h : RefR w1 t1 tag g5 wr a l s) (hb : Below wr.heap.size wr w') : RefR w1 t1 tag g5 w' a l s :=
  ⟨h.row.below hb,h.k,h.ps,h.new.trans (Upd.of_below (S:=fun _=>False) hb (fun k h1 h2=>by omega)) (fun _ _ h=>h.elim),h.fr,h.old,h.g⟩
theorem RefR.len (h : RefR w1 t1 tag g5 wr a l s) : l.length=s.ps.length:=by rw [← h.ps,List.length_map]
theorem RefR.set (h : RefR w1 t1 tag g5 wr a l s) (hu : Upd (fun b=>b=g5) wr w') : RefR w1 t1 tag g5 w' a l s :=
  ⟨rowp_keep h.row hu (fun p hp h0 hn=>(h.fr p hp h0).2 hn),h.k,h.ps,h.new.trans hu (fun b hb hn=>by have hn : b=g5:=hn;have:=h.g;omega),h.fr,h.old,h.g⟩
theorem RefR.rowp (h : RefR w1 t1 tag g5 wr a l s) : RowP wr a l :=
  ⟨h.row,fun v hv=>by
    obtain ⟨k1,k2,k3,k4⟩:=h.k v hv
    exact PvOk.upd (w:=w1) ⟨k1,k2,k3⟩ h.new k4⟩
end
end Go.Proofs.YtmimfkhkilijcaaGreatDoor
