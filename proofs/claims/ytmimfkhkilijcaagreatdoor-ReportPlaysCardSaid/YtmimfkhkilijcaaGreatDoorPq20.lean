/- KTree: what is reached of them. -/
import Derived.Test.YtmimfkhkilijcaaGreatDoorPq01
import Derived.Deep.RegionHeld3
import Derived.Deep.OwnRows
import Derived.Deep.DeepCutAuto
import Derived.BigRegion
set_option linter.unusedVariables false
set_option linter.unusedSimpArgs false
set_option maxRecDepth 100000
set_option maxHeartbeats 8000000
namespace PTree
def wz (K : Nat→Int) (a b : Int) : Int :=
  if a = -1 then b else if b = -1 then a else if K a.toNat<K b.toNat then a else if K b.toNat<K a.toNat then b else min a b
inductive Up : Nat→Nat→Prop where
  | refl (m : Nat) : Up m m
  | half {k m : Nat} : Up k (m / 2)→Up k m
theorem up_le {k m : Nat} (h : Up k m) : k≤m:=by
  induction h with
  | refl=>exact Nat.le_refl _
  | half _ ih=>omega
theorem up_zero {k : Nat} (h : Up k 0) : k=0:=by have:=up_le h;omega
theorem up_one : ∀ (N m : Nat),m≤N→0<m→Up 1 m
  | 0,m,h,h0=>by omega
  | N+1,m,h,h0=>by
    by_cases h1 : m=1
    · subst h1;exact Up.refl 1
    · exact Up.half (up_one N (m / 2) (by omega) (by omega))
theorem up_trans {k c m : Nat} (hk : Up k c) (h : Up c m) : Up k m:=by
  induction h with
  | refl=>exact hk
  | half _ ih=>exact Up.half ih
theorem up_two {k m : Nat} (h : Up (2*k) m) : Up k m :=
  up_trans (Up.half (by rw [show 2*k / 2=k by omega];exact Up.refl k)) h
theorem up_odd {k m : Nat} (h : Up (2*k+1) m) : Up k m :=
  up_trans (Up.half (by rw [show (2*k+1) / 2=k by omega];exact Up.refl k)) h
theorem up_step {k m : Nat} (h : Up k m) : k<m→Up (2*k) m∨Up (2*k+1) m:=by
  induction h with
  | refl=>intro h;omega
  | @half m h ih =>
    intro hlt
    by_cases e : k=m / 2
    · by_cases e2 : m=2*k
      · subst e2;exact .inl (Up.refl _)
      · have e3 : m=2*k+1:=by omega
        subst e3;exact .inr (Up.refl _)
    · have:=up_le h
      exact (ih (by omega)).imp Up.half Up.half
theorem up_half {k m : Nat} (h : Up k m) (hlt : k≠m) : Up k (m / 2):=by
  cases h with
  | refl=>exact absurd rfl hlt
  | half h=>exact h
theorem up_leaf {n c i : Nat} (hc : n≤c) (hi : i<n) (h : Up c (n+i)) : c=n+i:=by
  by_cases e : c=n+i
  · exact e
  · have:=up_le (up_half h e);omega
def Beats (K : Nat→Int) (i j : Nat) : Prop:=K i<K j∨(K i=K j∧i≤j)
theorem beats_trans {K : Nat→Int} {i j k : Nat} (h : Beats K i j) (h2 : Beats K j k) : Beats K i k:=by
  unfold Beats at *;omega
theorem beats_refl (K : Nat→Int) (i : Nat) : Beats K i i:=by unfold Beats;omega
def Best (K : Nat→Int) (S : Nat→Prop) (p : Int) : Prop:=(p = -1∧∀ j,¬ S j)∨∃ i : Nat,p=i∧S i∧∀ j,S j→Beats K i j
theorem best_two {K : Nat→Int} {S T U : Nat→Prop} {a b : Int} (h : Best K S a) (k : Best K T b) (hU : ∀ j,U j↔S j∨T j) : Best K U (wz K a b):=by
  rcases h with ⟨rfl,h0⟩|⟨i,rfl,hi,hb⟩
  · unfold wz;rw [if_pos rfl]
    rcases k with ⟨rfl,k0⟩|⟨j,rfl,hj,kb⟩
    · exact .inl ⟨rfl,fun j hj=>((hU j).1 hj).elim (h0 j) (k0 j)⟩
    · exact .inr ⟨j,rfl,(hU j).2 (.inr hj),fun x hx=>((hU x).1 hx).elim (fun h=>absurd h (h0 x)) (kb x)⟩
  · rcases k with ⟨rfl,k0⟩|⟨j,rfl,hj,kb⟩
    · unfold wz;rw [if_neg (by omega),if_pos rfl]
      exact .inr ⟨i,rfl,(hU i).2 (.inl hi),fun x hx=>((hU x).1 hx).elim (hb x) (fun h=>absurd h (k0 x))⟩
    · have hl : Beats K i j→Best K U i:=fun hij=>.inr ⟨i,rfl,(hU i).2 (.inl hi),fun x hx=>((hU x).1 hx).elim (hb x) (fun h=>beats_trans hij (kb x h))⟩
      have hr : Beats K j i→Best K U j:=fun hij=>.inr ⟨j,rfl,(hU j).2 (.inr hj),fun x hx=>((hU x).1 hx).elim (fun h=>beats_trans hij (hb x h)) (kb x)⟩
      unfold wz
      rw [if_neg (by omega),if_neg (by omega)]
      simp only [Int.toNat_natCast]
      by_cases e1 : K i<K j
      · rw [if_pos e1];exact hl (.inl e1)
      · rw [if_neg e1]
        by_cases e2 : K j<K i
        · rw [if_pos e2];exact hr (.inl e2)
        · rw [if_neg e2]
          by_cases e3 : i≤j
          · rw [show min (i : Int) (j : Int)=i by omega];exact hl (.inr ⟨by omega,e3⟩)
          · rw [show min (i : Int) (j : Int)=j by omega];exact hr (.inr ⟨by omega,by omega⟩)
structure TMid (n : Nat) (K : Nat→Int) (out : Nat→Bool) (V : Nat→Int) (c : Nat) : Prop where
  leaf : ∀ i,i<n→V (n+i)=if out i then -1 else (i : Int)
  node : ∀ k,0<k→k<n→V k=wz K (V (2*k)) (V (2*k+1))∨Up k c
  rng : ∀ k,k<2*n→-1≤V k∧V k<n
abbrev TInv (n : Nat) (K : Nat→Int) (out : Nat→Bool) (V : Nat→Int) : Prop:=TMid n K out V 0
def put {α : Type} (f : Nat→α) (i : Nat) (x : α) : Nat→α:=fun j=>if j=i then x else f j
theorem put_same {α : Type} (f : Nat→α) (i : Nat) (x : α) : put f i x i=x:=if_pos rfl
theorem put_other {α : Type} (f : Nat→α) (i : Nat) (x : α) {j : Nat} (h : j≠i) : put f i x j=f j:=if_neg h
theorem wz_rng {K : Nat→Int} {a b n : Int} (ha : -1≤a∧a<n) (hb : -1≤b∧b<n) : -1≤wz K a b∧wz K a b<n:=by
  unfold wz
  (repeat' split) <;> omega
theorem TMid.right {n : Nat} {K : Nat→Int} {out : Nat→Bool} {V : Nat→Int} (h : TInv n K out V) (k : Nat) (h0 : 0<k) (h1 : k<n) : V k=wz K (V (2*k)) (V (2*k+1)) :=
  (h.node k h0 h1).elim id fun hu=>by have:=up_zero hu;omega
theorem TMid.best {n : Nat} {K : Nat→Int} {out : Nat→Bool} {V : Nat→Int} (h : TInv n K out V) : ∀ (N k : Nat),2*n - k≤N→0<k→k<2*n→Best K (fun j=>j<n∧out j=false∧Up k (n+j)) (V k)
  | 0,k,hN,h0,h1=>by omega
  | N+1,k,hN,h0,h1=>by
    by_cases hk : k<n
    · rw [h.right k h0 hk]
      refine best_two (TMid.best h N (2*k) (by omega) (by omega) (by omega)) (TMid.best h N (2*k+1) (by omega) (by omega) (by omega)) fun j=>⟨?_,?_⟩
      · rintro ⟨a,b,c⟩
        exact (up_step c (by omega)).imp (fun u=>⟨a,b,u⟩) (fun u=>⟨a,b,u⟩)
      · rintro (⟨a,b,c⟩|⟨a,b,c⟩)
        · exact ⟨a,b,up_two c⟩
        · exact ⟨a,b,up_odd c⟩
    · obtain ⟨i,rfl⟩ : ∃ i,k=n+i:=⟨k - n,by omega⟩
      rw [h.leaf i (by omega)]
      cases ho : out i
      · rw [if_neg (by simp)]
        refine .inr ⟨i,rfl,⟨by omega,ho,Up.refl _⟩,fun j hj=>?_⟩
        have:=up_leaf (by omega) hj.1 hj.2.2
        obtain rfl : j=i:=by omega
        exact beats_refl K j
      · rw [if_pos rfl]
        refine .inl ⟨rfl,fun j hj=>?_⟩
        have:=up_leaf (by omega) hj.1 hj.2.2
        obtain rfl : j=i:=by omega
        rw [ho] at hj
        cases hj.2.1
theorem TMid.all {n : Nat} {K : Nat→Int} {out : Nat→Bool} {V : Nat→Int} (h : TInv n K out V) (hn : 0<n) : Best K (fun j=>j<n∧out j=false) (V 1):=by
  rcases h.best (2*n) 1 (by omega) (by omega) (by omega) with ⟨h1,h2⟩|⟨i,h1,h2,h3⟩
  · exact .inl ⟨h1,fun j hj=>h2 j ⟨hj.1,hj.2,up_one (n+j) _ (Nat.le_refl _) (by omega)⟩⟩
  · exact .inr ⟨i,h1,⟨h2.1,h2.2.1⟩,fun j hj=>h3 j ⟨hj.1,hj.2,up_one (n+j) _ (Nat.le_refl _) (by omega)⟩⟩
theorem TMid.play {n : Nat} {K : Nat→Int} {out : Nat→Bool} {V : Nat→Int} {c : Nat} (h : TMid n K out V c) (h0 : 0<c) (h1 : c<n) : TMid n K out (put V c (wz K (V (2*c)) (V (2*c+1)))) (c / 2):=by
  refine ⟨fun i hi=>?_,fun k k0 k1=>?_,fun k hk=>?_⟩
  · rw [put_other _ _ _ (by omega)];exact h.leaf i hi
  · by_cases e : k=c
    · subst e
      rw [put_same,put_other _ _ _ (by omega),put_other _ _ _ (by omega)]
      exact .inl rfl
    · rcases h.node k k0 k1 with hv|hu
      · by_cases e1 : 2*k=c∨2*k+1=c
        · right
          have : c / 2=k:=by omega
          rw [this];exact Up.refl k
        · left
          rw [put_other _ _ _ e,put_other _ _ _ (by omega),put_other _ _ _ (by omega)]
          exact hv
      · exact .inr (up_half hu e)
  · by_cases e : k=c
    · subst e;rw [put_same];exact wz_rng (h.rng _ (by omega)) (h.rng _ (by omega))
    · rw [put_other _ _ _ e];exact h.rng k hk
theorem TMid.leave {n : Nat} {K : Nat→Int} {out : Nat→Bool} {V : Nat→Int} (h : TInv n K out V) (i : Nat) (hi : i<n) (o : Bool) (v : Int) (hv : v=if o then -1 else (i : Int)) : TMid n K (put out i o) (put V (n+i) v) ((n+i) / 2):=by
  subst hv
  refine ⟨fun j hj=>?_,fun k k0 k1=>?_,fun k hk=>?_⟩
  · by_cases e : j=i
    · subst e;rw [put_same,put_same]
    · rw [put_other _ _ _ (by omega),put_other _ _ _ e];exact h.leaf j hj
  · by_cases e1 : 2*k=n+i∨2*k+1=n+i
    · right
      have : (n+i) / 2=k:=by omega
      rw [this];exact Up.refl k
    · left
      rw [put_other _ _ _ (by omega),put_other _ _ _ (by omega),put_other _ _ _ (by omega)]
      exact h.right k k0 k1
  · by_cases e : k=n+i
    · subst e;rw [put_same];split <;> omega
    · rw [put_other _ _ _ e];exact h.rng k hk
theorem wz_put {K : Nat→Int} {i : Nat} {x a b : Int} (ha : a≠i) (ha0 : -1≤a) (hb : b≠i) (hb0 : -1≤b) : wz (put K i x) a b=wz K a b:=by
  unfold wz
  by_cases e1 : a = -1
  · rw [if_pos e1,if_pos e1]
  · rw [if_neg e1,if_neg e1]
    by_cases e2 : b = -1
    · rw [if_pos e2,if_pos e2]
    · rw [if_neg e2,if_neg e2,put_other K i x (j:=a.toNat) (by omega),put_other K i x (j:=b.toNat) (by omega)]
theorem TMid.under {n : Nat} {K : Nat→Int} {out : Nat→Bool} {V : Nat→Int} (h : TInv n K out V) {k i : Nat} (h0 : 0<k) (h1 : k<2*n) (hv : V k=i) : Up k (n+i):=by
  rcases h.best (2*n) k (by omega) h0 h1 with ⟨e,_⟩|⟨j,e,hj,_⟩
  · omega
  · obtain rfl : j=i:=by omega
    exact hj.2.2
theorem TMid.set {n : Nat} {K : Nat→Int} {out : Nat→Bool} {V : Nat→Int} (h : TInv n K out V) (i : Nat) (hi : i<n) (x : Int) : TMid n (put K i x) out V ((n+i) / 2):=by
  refine ⟨h.leaf,fun k k0 k1=>?_,h.rng⟩
  by_cases e1 : V (2*k)=i
  · exact .inr (up_half (up_two (h.under (by omega) (by omega) e1)) (by omega))
  by_cases e2 : V (2*k+1)=i
  · exact .inr (up_half (up_odd (h.under (by omega) (by omega) e2)) (by omega))
  left
  rw [wz_put e1 (h.rng _ (by omega)).1 e2 (h.rng _ (by omega)).1]
  exact h.right k k0 k1
structure TNew (n : Nat) (K : Nat→Int) (out : Nat→Bool) (V : Nat→Int) (c : Nat) : Prop where
  leaf : ∀ i,i<n→V (n+i)=if out i then -1 else (i : Int)
  node : ∀ k,c<k→k<n→V k=wz K (V (2*k)) (V (2*k+1))
  rng : ∀ k,k<2*n→-1≤V k∧V k<n
theorem TNew.play {n : Nat} {K : Nat→Int} {out : Nat→Bool} {V : Nat→Int} {c : Nat} (h : TNew n K out V (c+1)) (h1 : c+1<n) : TNew n K out (put V (c+1) (wz K (V (2*(c+1))) (V (2*(c+1)+1)))) c:=by
  refine ⟨fun i hi=>?_,fun k k0 k1=>?_,fun k hk=>?_⟩
  · rw [put_other _ _ _ (by omega)];exact h.leaf i hi
  · by_cases e : k=c+1
    · subst e
      rw [put_same,put_other _ _ _ (by omega),put_other _ _ _ (by omega)]
    · rw [put_other _ _ _ e,put_other _ _ _ (by omega),put_other _ _ _ (by omega)]
      exact h.node k (by omega) k1
  · by_cases e : k=c+1
    · subst e;rw [put_same];exact wz_rng (h.rng _ (by omega)) (h.rng _ (by omega))
    · rw [put_other _ _ _ e];exact h.rng k hk
theorem TNew.inv {n : Nat} {K : Nat→Int} {out : Nat→Bool} {V : Nat→Int} (h : TNew n K out V 0) : TInv n K out V :=
  ⟨h.leaf,fun k k0 k1=>.inl (h.node k k0 k1),h.rng⟩
def scan (K : Nat→Int) (out : Nat→Bool) : Nat→Int×Int×Bool
  | 0=>(0,0,false)
  | j+1=>if out j=false∧((scan K out j).2.2=false∨K j<(scan K out j).1) then (K j,(j : Int),true) else scan K out j
theorem scan_none (K : Nat→Int) (out : Nat→Bool) : ∀ j,(scan K out j).2.2=false→scan K out j=(0,0,false)∧∀ i,i<j→out i=true
  | 0,_=>⟨rfl,fun i hi=>by omega⟩
  | j+1,h=>by
    unfold scan at h ⊢
    split at h
    · cases h
    · rename_i hc
      obtain ⟨h1,h2⟩:=scan_none K out j h
      have ho : out j=true:=by
        cases ho : out j
        · exact absurd ⟨ho,.inl h⟩ hc
        · rfl
      rw [if_neg hc]
      refine ⟨h1,fun i hi=>?_⟩
      by_cases e : i=j
      · subst e;exact ho
      · exact h2 i (by omega)
theorem scan_some (K : Nat→Int) (out : Nat→Bool) : ∀ j,(scan K out j).2.2=true→∃ i : Nat,scan K out j=(K i,(i : Int),true)∧i<j∧out i=false∧∀ m,m<j→out m=false→Beats K i m
  | 0,h=>by cases h
  | j+1,h=>by
    unfold scan at h ⊢
    by_cases hc : out j=false∧((scan K out j).2.2=false∨K j<(scan K out j).1)
    · rw [if_pos hc]
      refine ⟨j,rfl,by omega,hc.1,fun m hm ho=>?_⟩
      by_cases e : m=j
      · subst e;exact beats_refl K m
      · cases hs : (scan K out j).2.2
        · rw [(scan_none K out j hs).2 m (by omega)] at ho;cases ho
        · obtain ⟨i,e1,e2,e3,e4⟩:=scan_some K out j hs
          have hb:=e4 m (by omega) ho
          rcases hc.2 with h0|h0
          · rw [hs] at h0;cases h0
          · rw [e1] at h0
            unfold Beats at *
            left
            have h0' : K j<K i:=h0
            omega
    · rw [if_neg hc] at h ⊢
      obtain ⟨i,e1,e2,e3,e4⟩:=scan_some K out j h
      refine ⟨i,e1,by omega,e3,fun m hm ho=>?_⟩
      by_cases e : m=j
      · subst e
        have : ¬ K m<(scan K out m).1:=fun hx=>hc ⟨ho,.inr hx⟩
        rw [e1] at this
        unfold Beats
        have this' : ¬ K m<K i:=this
        omega
      · exact e4 m (by omega) ho
theorem TMid.least {n : Nat} {K : Nat→Int} {out : Nat→Bool} {V : Nat→Int} (h : TInv n K out V) (hn : 0<n) : scan K out n=if V 1 = -1 then (0,0,false) else (K (V 1).toNat,V 1,true):=by
  rcases h.all hn with ⟨e,h0⟩|⟨i,e,hi,hb⟩
  · rw [if_pos e]
    cases hs : (scan K out n).2.2
    · exact (scan_none K out n hs).1
    · obtain ⟨i,e1,e2,e3,e4⟩:=scan_some K out n hs
      exact absurd ⟨e2,e3⟩ (h0 i)
  · rw [if_neg (by omega),e]
    cases hs : (scan K out n).2.2
    · have:=(scan_none K out n hs).2 i hi.1
      rw [hi.2] at this;cases this
    · obtain ⟨j,e1,e2,e3,e4⟩:=scan_some K out n hs
      have h1:=hb j ⟨e2,e3⟩
      have h2:=e4 i hi.1 hi.2
      obtain rfl : i=j:=by unfold Beats at *;omega
      rw [e1];rfl
end PTree
namespace Go.Proofs.YtmimfkhkilijcaaGreatDoor
open Go.ChangeShapes Go.WideShapes Go.ChangeAt Go.RowKit
open PTree
structure TreeC (w : World) (g gk gw n : Nat) (K V : Nat→Int) : Prop where
  at_ : At w g [.slice (some ⟨gk,0,none⟩) n n,.slice (some ⟨gw,0,none⟩) (2*n) (2*n)]
  keys : Own w gk 0 n (fun j=>.int .i64 (K j))
  won : Own w gw 0 (2*n) (fun j=>.int .i64 (V j))
  n1 : g≠gk
  n2 : g≠gw
  n3 : gk≠gw
section
variable {w w' : World} {g gk gw n : Nat} {K V : Nat→Int}
theorem TreeC.upd {S : Nat→Prop} (h : TreeC w g gk gw n K V) (hu : Upd S w w') (h1 : ¬ S g) (h2 : ¬ S gk) (h3 : ¬ S gw) : TreeC w' g gk gw n K V :=
  ⟨h.at_.upd hu h1,h.keys.upd hu h2,h.won.upd hu h3,h.n1,h.n2,h.n3⟩
theorem TreeC.drewN (h : TreeC w g gk gw n K V) (m : Nat) : TreeC (w.drewN m) g gk gw n K V:=h.upd (S:=fun _=>False) ((Upd.refl _ _).drewN m) id id id
theorem TreeC.drew (h : TreeC w g gk gw n K V) : TreeC w.drew g gk gw n K V:=h.upd (S:=fun _=>False) ((Upd.refl _ _).drew) id id id
theorem TreeC.key (h : TreeC w g gk gw n K V) (j : Nat) (hj : j<n) : w.cell? ⟨gk,j,none⟩=some (.int .i64 (K j))∧w.frozen? ⟨gk,j,none⟩=false:=by
  have h1:=h.keys.cell j hj
  have h2:=h.keys.free j hj
  rw [Nat.zero_add] at h1 h2
  exact ⟨h1,h2⟩
theorem TreeC.win (h : TreeC w g gk gw n K V) (j : Nat) (hj : j<2*n) : w.cell? ⟨gw,j,none⟩=some (.int .i64 (V j))∧w.frozen? ⟨gw,j,none⟩=false:=by
  have h1:=h.won.cell j hj
  have h2:=h.won.free j hj
  rw [Nat.zero_add] at h1 h2
  exact ⟨h1,h2⟩
theorem own_put {w : World} {b n : Nat} {f : Nat→Int} (h : Own w b 0 n (fun j=>.int .i64 (f j))) (j : Nat) (hj : j<n) (x : Int) : Own (w.setCell ⟨b,j,none⟩ (.int .i64 x)) b 0 n (fun i=>.int .i64 (put f j x i)):=by
  have h1:=h.set j hj (.int .i64 x)
  rw [Nat.zero_add] at h1
  exact h1.congr (fun i hi=>by unfold put;by_cases e : i=j <;> simp [e])
theorem TreeC.setKey (h : TreeC w g gk gw n K V) (j : Nat) (hj : j<n) (x : Int) : TreeC (w.setCell ⟨gk,j,none⟩ (.int .i64 x)) g gk gw n (put K j x) V :=
  have hu : Upd (fun k=>k=gk) w (w.setCell ⟨gk,j,none⟩ (.int .i64 x)):=(Upd.refl (fun k=>k=gk) w).setCell (p:=⟨gk,j,none⟩) (fun _=>rfl) _
  ⟨h.at_.upd hu h.n1,own_put h.keys j hj x,h.won.upd hu (fun e=>h.n3 e.symm),h.n1,h.n2,h.n3⟩
theorem TreeC.setWin (h : TreeC w g gk gw n K V) (j : Nat) (hj : j<2*n) (x : Int) : TreeC (w.setCell ⟨gw,j,none⟩ (.int .i64 x)) g gk gw n K (put V j x) :=
  have hu : Upd (fun k=>k=gw) w (w.setCell ⟨gw,j,none⟩ (.int .i64 x)):=(Upd.refl (fun k=>k=gw) w).setCell (p:=⟨gw,j,none⟩) (fun _=>rfl) _
  ⟨h.at_.upd hu h.n2,h.keys.upd hu h.n3,own_put h.won j hj x,h.n1,h.n2,h.n3⟩
end
theorem tr_len (g gk gw n : Nat) (K V : Nat→Int) (w : World) (h : TreeC w g gk gw n K V) :
    Calls Tryz.prog 149 #[.pointer (some ⟨g,0,none⟩)] w fun e w'=>e = .returned (.int .i64 n)∧w=w':=by
  obtain ⟨hg,c0,z0,c1,z1⟩:=h.at_.two
  go_enter Tryz.func149,Tryz.ntmps149
  go_wp2
  go_ret
  exact ⟨rfl,rfl⟩
theorem tr_has (g gk gw n : Nat) (K V : Nat→Int) (i : Int) (w : World) (h : TreeC w g gk gw n K V) :
    Calls Tryz.prog 221 #[.pointer (some ⟨g,0,none⟩),.int .i64 i] w fun e w'=>e = .returned (.bool (decide (0≤i∧i<n)))∧w=w':=by
  have HL:=Lib.hid (tr_len g gk gw n K V w h)
  clear h
  by_cases h0 : 0≤i
  · by_cases h1 : i<n
    · have hd : decide (0≤i∧i<n)=true:=decide_eq_true ⟨h0,h1⟩
      rw [hd]
      go_enter Tryz.func221,Tryz.ntmps221
      go_wp2_with (go_at_call 149;refine HL.out.mono ?_;rintro e w' ⟨rfl,rfl⟩)
      go_ret
      exact ⟨rfl,rfl⟩
    · have hd : decide (0≤i∧i<n)=false:=decide_eq_false (by omega)
      rw [hd]
      go_enter Tryz.func221,Tryz.ntmps221
      go_wp2_with (go_at_call 149;refine HL.out.mono ?_;rintro e w' ⟨rfl,rfl⟩)
      go_ret
      exact ⟨ret_bool (by simp;omega),rfl⟩
  · have hd : decide (0≤i∧i<n)=false:=decide_eq_false (by omega)
    rw [hd]
    have h1 : i<0:=by omega
    go_enter Tryz.func221,Tryz.ntmps221
    go_wp2_with (go_at_call 149;refine HL.out.mono ?_;rintro e w' ⟨rfl,rfl⟩)
    go_ret
    exact ⟨rfl,rfl⟩
theorem tr_winner (g gk gw n : Nat) (K V : Nat→Int) (a b : Int) (w : World) (h : TreeC w g gk gw n K V) (ha : -1≤a∧a<n) (hb : -1≤b∧b<n) :
    Calls Tryz.prog 240 #[.pointer (some ⟨g,0,none⟩),.int .i64 a,.int .i64 b] w fun e w'=>e = .returned (.int .i64 (wz K a b))∧∃ m,w'=w.drewN m:=by
  by_cases ea : a = -1
  · subst ea
    have hz : wz K (-1) b=b:=by unfold wz;rw [if_pos rfl]
    rw [hz]
    clear hz h
    go_enter Tryz.func240,Tryz.ntmps240
    go_wp2
    go_ret
    exact ⟨rfl,0,rfl⟩
  have fa : (a == -1)=false:=by simpa using ea
  by_cases eb : b = -1
  · subst eb
    have hz : wz K a (-1)=a:=by unfold wz;rw [if_neg ea,if_pos rfl]
    rw [hz]
    clear hz h ea
    go_enter Tryz.func240,Tryz.ntmps240
    go_wp2
    go_ret
    exact ⟨rfl,0,rfl⟩
  have fb : (b == -1)=false:=by simpa using eb
  obtain ⟨i,rfl⟩ : ∃ i : Nat,a=i:=⟨a.toNat,by omega⟩
  obtain ⟨j,rfl⟩ : ∃ j : Nat,b=j:=⟨b.toNat,by omega⟩
  have hi : i<n:=by omega
  have hj : j<n:=by omega
  obtain ⟨hg,c0,z0,c1,z1⟩:=h.at_.two
  have ci:=(h.key i hi).1
  have cj:=(h.key j hj).1
  have hgk:=h.keys.lt
  unfold wz
  rw [if_neg ea,if_neg eb]
  simp only [Int.toNat_natCast]
  clear h z0 z1 c1 ea eb
  by_cases e1 : K i<K j
  · rw [if_pos e1]
    generalize K i=x at *
    generalize K j=y at *
    go_enter Tryz.func240,Tryz.ntmps240
    go_wp2
    go_quiet (fail)
    go_wp2
    go_ret
    exact ⟨rfl,_,rfl⟩
  rw [if_neg e1]
  by_cases e2 : K j<K i
  · rw [if_pos e2]
    generalize K i=x at *
    generalize K j=y at *
    go_enter Tryz.func240,Tryz.ntmps240
    go_wp2
    go_quiet (fail)
    go_wp2
    go_quiet (fail)
    go_wp2
    go_ret
    exact ⟨rfl,_,by simp;rfl⟩
  rw [if_neg e2]
  generalize K i=x at *
  generalize K j=y at *
  obtain ⟨m,hm⟩ : ∃ m : Int,min (i : Int) (j : Int)=m:=⟨_,rfl⟩
  have HM:=Lib.hid hm
  rw [hm]
  clear hm
  go_enter Tryz.func240,Tryz.ntmps240
  go_wp2
  go_quiet (fail)
  go_wp2
  go_quiet (fail)
  go_wp2
  all_goals go_ret
  all_goals refine ⟨ret_int ?_,_,by first|rfl|(simp;rfl)⟩
  all_goals (have:=HM.out;omega)
def TrPost (g gk gw n : Nat) (K V : Nat→Int) (w w' : World) : Prop:=TreeC w' g gk gw n K V∧Upd (fun k=>k=gw) w w'
theorem tr_play (g gk gw n : Nat) (K V : Nat→Int) (k : Nat) (w : World) (h : TreeC w g gk gw n K V) (hn : n≤1000000) (h0 : 0<k) (h1 : k<n) (hr : ∀ j,j<2*n→-1≤V j∧V j<n) :
    Calls Tryz.prog 201 #[.pointer (some ⟨g,0,none⟩),.int .i64 k] w fun e w'=>e = .returned (.tuple #[])∧TrPost g gk gw n K (put V k (wz K (V (2*k)) (V (2*k+1)))) w w':=by
  obtain ⟨hg,c0,z0,c1,z1⟩:=h.at_.two
  have ca:=(h.win (2*k) (by omega)).1
  have cb:=(h.win (2*k+1) (by omega)).1
  obtain ⟨ck,zk⟩:=h.win k (by omega)
  have HW:=Lib.hid (fun w' (h' : TreeC w' g gk gw n K V)=>tr_winner g gk gw n K V (V (2*k)) (V (2*k+1)) w' h' (hr _ (by omega)) (hr _ (by omega)))
  have HT:=Lib.hid h
  have hlt:=h.won.lt
  clear h hr z0 c0 z1
  generalize wz K (V (2*k)) (V (2*k+1))=z at *
  obtain ⟨a,ea⟩ : ∃ a,V (2*k)=a:=⟨_,rfl⟩
  obtain ⟨b,eb⟩ : ∃ b,V (2*k+1)=b:=⟨_,rfl⟩
  have EA:=Lib.hid ea
  have EB:=Lib.hid eb
  rw [ea] at ca HW
  rw [eb] at cb HW
  clear ea eb
  generalize V k=c at *
  have HS:=Lib.hid (fun m=>(HT.out.drewN m).setWin k (by omega) z)
  have i1 : (0 : Int)≤2*(k : Int):=by omega
  have i3 : (0 : Int)≤2*(k : Int)+1:=by omega
  have i5 : (0 : Int)≤(k : Int):=by omega
  obtain ⟨M,hM⟩ : ∃ M,2*n=M:=⟨_,rfl⟩
  have i2 : 2*(k : Int)<(M : Int):=by omega
  have i4 : 2*(k : Int)+1<(M : Int):=by omega
  have i6 : (k : Int)<(M : Int):=by omega
  have HM:=Lib.hid hM
  rw [hM] at c1
  clear hM
  have e1 : (2*(k : Int)).toNat=2*k:=by omega
  have e2 : (2*(k : Int)+1).toNat=2*k+1:=by omega
  rw [← e1] at ca
  rw [← e2] at cb
  have E1:=Lib.hid e1
  have E2:=Lib.hid e2
  clear e1 e2
  have hkeep : ∀ m,((w.drewN m).setCell ⟨gw,k,none⟩ (.int .i64 z)).cell? ⟨g,1,none⟩=some (.slice (some ⟨gw,0,none⟩) M M)∧((w.drewN m).setCell ⟨gw,k,none⟩ (.int .i64 z)).cell? ⟨gw,(2*(k : Int)).toNat,none⟩=some (.int .i64 a)∧((w.drewN m).setCell ⟨gw,k,none⟩ (.int .i64 z)).cell? ⟨gw,(2*(k : Int)+1).toNat,none⟩=some (.int .i64 b):=by
    intro m
    have hs:=HS.out m
    have q1:=hs.at_.two.2.2.2.1
    have q2:=(hs.win (2*k) (by omega)).1
    have q3:=(hs.win (2*k+1) (by omega)).1
    rw [put_other _ _ _ (by omega)] at q2 q3
    rw [EA.out] at q2
    rw [EB.out] at q3
    rw [HM.out] at q1
    rw [E1.out,E2.out]
    exact ⟨q1,q2,q3⟩
  have HK:=Lib.hid hkeep
  clear hkeep
  have hw1 : IntKind.i64.wrap (2*(k : Int))=2*(k : Int):=by rw [IntKind.wrap_i64];omega
  have hw2 : IntKind.i64.wrap (2*(k : Int)+1)=2*(k : Int)+1:=by rw [IntKind.wrap_i64];omega
  go_enter Tryz.func201,Tryz.ntmps201
  go_region_held3 (fun wx=>wx.cell? ⟨g,1,none⟩=some (.slice (some ⟨gw,0,none⟩) M M)∧wx.cell? ⟨gw,(2*(k : Int)).toNat,none⟩=some (.int .i64 a)∧wx.cell? ⟨gw,(2*(k : Int)+1).toNat,none⟩=some (.int .i64 b)) (first|exact ⟨c1,ca,cb⟩|exact ⟨d1,da,db⟩|exact HK.out _) (first|(go_at_call 240;refine (HW.out _ HT.out.drew).mono ?_;rintro e w2 ⟨rfl,m,rfl⟩;have hT2:=HT.out.drew.drewN m;have d1:=hT2.at_.two.2.2.2.1;rw [HM.out] at d1;have da:=(hT2.win (2*k) (by omega)).1;rw [EA.out,← E1.out] at da;have db:=(hT2.win (2*k+1) (by omega)).1;rw [EB.out,← E2.out] at db))
  all_goals go_end0
  all_goals exact ⟨rfl,HS.out _,((Upd.refl (fun b=>b=gw) w).drewN _).setCell (p:=⟨gw,k,none⟩) (fun _=>rfl) _⟩
def TrDone (g gk gw n : Nat) (K : Nat→Int) (out : Nat→Bool) (w w' : World) : Prop:=∃ V,TreeC w' g gk gw n K V∧TInv n K out V∧Upd (fun k=>k=gw) w w'
theorem tr_replay (g gk gw n : Nat) (K : Nat→Int) (out : Nat→Bool) (V : Nat→Int) (i : Nat) (w : World) (h : TreeC w g gk gw n K V) (hn : n≤1000000) (hi : i<n) (hm : TMid n K out V ((n+i) / 2)) :
    Calls Tryz.prog 241 #[.pointer (some ⟨g,0,none⟩),.int .i64 i] w fun e w'=>e = .returned (.tuple #[])∧TrDone g gk gw n K out w w':=by
  have HL:=Lib.hid (tr_len g gk gw n K V w h)
  have HH:=Lib.hid h
  have HM:=Lib.hid hm
  clear h hm
  go_enter Tryz.func241,Tryz.ntmps241
  go_wp2_with (go_at_call 149;refine HL.out.mono ?_;rintro e w' ⟨rfl,rfl⟩)
  go_loopw [4] (fun k wr=>∃ (c : Nat) (V' : Nat→Int),k = .int .i64 c∧c<n∧TreeC wr g gk gw n K V'∧TMid n K out V' c∧Upd (fun b=>b=gw) w wr) (fun k _=>(intOf k).toNat)
  case atStart=>exact ⟨(n+i) / 2,V,by go_num,by omega,HH.out,HM.out,Upd.refl _ _⟩
  case round =>
    obtain ⟨c,V',rfl,hc,hT,hI,hU⟩:=hrel
    by_cases h0 : 0<c
    · have HP:=Lib.hid (tr_play g gk gw n K V' c wr hT hn h0 hc hI.rng)
      have HI:=Lib.hid (hI.play h0 hc)
      have HU:=Lib.hid hU
      generalize put V' c (wz K (V' (2*c)) (V' (2*c+1)))=V2 at *
      clear hI hT hU
      go_wp2_with (go_at_call 201;refine HP.out.mono ?_;rintro e w2 ⟨rfl,hT2,hU2⟩)
      go_roundw
      case rel=>exact ⟨c / 2,V2,by go_num,by omega,hT2,HI.out,HU.out.trans hU2 (fun _ _ h=>h)⟩
      case measure=>simp [intOf];omega
    · obtain rfl : c=0:=by omega
      have HI:=Lib.hid hI
      clear hI
      go_wp2
      go_end0
      exact ⟨rfl,V',hT,HI.out,hU⟩
def TreeI (w : World) (F : Nat→Prop) (g n : Nat) (K : Nat→Int) (out : Nat→Bool) : Prop :=
  ∃ gk gw V,TreeC w g gk gw n K V∧TInv n K out V∧(∀ b,F b↔b=g∨b=gk∨b=gw)∧n≤1000000
def TIPost (F : Nat→Prop) (g n : Nat) (K : Nat→Int) (out : Nat→Bool) (w w' : World) : Prop:=TreeI w' F g n K out∧Upd F w w'
section
variable {w w' : World} {F : Nat→Prop} {g n : Nat} {K : Nat→Int} {out : Nat→Bool}
theorem TreeI.upd {S : Nat→Prop} (h : TreeI w F g n K out) (hu : Upd S w w') (hn : ∀ b,F b→¬ S b) : TreeI w' F g n K out:=by
  obtain ⟨gk,gw,V,h1,h2,h3,h4⟩:=h
  exact ⟨gk,gw,V,h1.upd hu (hn _ ((h3 _).2 (.inl rfl))) (hn _ ((h3 _).2 (.inr (.inl rfl)))) (hn _ ((h3 _).2 (.inr (.inr rfl)))),h2,h3,h4⟩
theorem TreeI.lt (h : TreeI w F g n K out) : ∀ b,F b→b<w.heap.size:=by
  obtain ⟨gk,gw,V,h1,h2,h3,h4⟩:=h
  intro b hb
  rcases (h3 b).1 hb with rfl|rfl|rfl
  · exact h1.at_.1
  · exact h1.keys.lt
  · exact h1.won.lt
theorem TreeI.on (h : TreeI w F g n K out) (hb : Below w.heap.size w w') : TreeI w' F g n K out :=
  h.upd (S:=fun k=>w.heap.size≤k) (Upd.of_below hb (fun _ _ h=>h)) (fun b hb h2=>by have:=h.lt b hb;omega)
theorem TreeI.alloc (h : TreeI w F g n K out) (o : Obj) : TreeI (w.alloc o) F g n K out:=h.upd (S:=fun _=>False) ((Upd.refl _ _).alloc o) (fun _ _=>id)
end
theorem ti_len (F : Nat→Prop) (g n : Nat) (K : Nat→Int) (out : Nat→Bool) (w : World) (h : TreeI w F g n K out) :
    Calls Tryz.prog 149 #[.pointer (some ⟨g,0,none⟩)] w fun e w'=>e = .returned (.int .i64 n)∧w=w':=by
  obtain ⟨gk,gw,V,h1,h2,h3,h4⟩:=h
  exact tr_len g gk gw n K V w h1
theorem ti_key (F : Nat→Prop) (g n : Nat) (K : Nat→Int) (out : Nat→Bool) (i : Nat) (w : World) (h : TreeI w F g n K out) (hi : i<n) :
    Calls Tryz.prog 174 #[.pointer (some ⟨g,0,none⟩),.int .i64 i] w fun e w'=>e = .returned (.int .i64 (K i))∧w=w':=by
  obtain ⟨gk,gw,V,h1,h2,h3,h4⟩:=h
  have HL:=Lib.hid (tr_has g gk gw n K V i w h1)
  rw [decide_eq_true (by omega)] at HL
  obtain ⟨hg,c0,z0,c1,z1⟩:=h1.at_.two
  have ci:=(h1.key i hi).1
  clear h1 h2 h3
  go_enter Tryz.func174,Tryz.ntmps174
  go_wp2_with (go_at_call 221;refine HL.out.mono ?_;rintro e w' ⟨rfl,rfl⟩)
  go_ret
  exact ⟨rfl,rfl⟩
theorem ti_key_none (F : Nat→Prop) (g n : Nat) (K : Nat→Int) (out : Nat→Bool) (i : Int) (w : World) (h : TreeI w F g n K out) (hi : ¬ (0≤i∧i<n)) :
    Calls Tryz.prog 174 #[.pointer (some ⟨g,0,none⟩),.int .i64 i] w fun e w'=>e = .returned (.int .i64 0)∧w=w':=by
  obtain ⟨gk,gw,V,h1,h2,h3,h4⟩:=h
  have HL:=Lib.hid (tr_has g gk gw n K V i w h1)
  rw [decide_eq_false hi] at HL
  clear h1 h2 h3 hi
  go_enter Tryz.func174,Tryz.ntmps174
  go_wp2_with (go_at_call 221;refine HL.out.mono ?_;rintro e w' ⟨rfl,rfl⟩)
  go_ret
  exact ⟨rfl,rfl⟩
theorem ti_set (F : Nat→Prop) (g n : Nat) (K : Nat→Int) (out : Nat→Bool) (i : Nat) (x : Int) (w : World) (h : TreeI w F g n K out) (hi : i<n) :
    Calls Tryz.prog 203 #[.pointer (some ⟨g,0,none⟩),.int .i64 i,.int .i64 x] w fun e w'=>e = .returned (.bool true)∧TIPost F g n (put K i x) out w w':=by
  obtain ⟨gk,gw,V,h1,h2,h3,h4⟩:=h
  have HL:=Lib.hid (tr_has g gk gw n K V i w h1)
  rw [decide_eq_true (by omega)] at HL
  obtain ⟨hg,c0,z0,c1,z1⟩:=h1.at_.two
  obtain ⟨ci,zi⟩:=h1.key i hi
  have hlt:=h1.keys.lt
  have hT:=h1.setKey i hi x
  have HR:=Lib.hid (tr_replay g gk gw n (put K i x) out V i _ hT h4 hi (h2.set i hi x))
  have HU:=Lib.hid ((Upd.refl F w).setCell (p:=⟨gk,i,none⟩) (fun _=>(h3 gk).2 (.inr (.inl rfl))) (.int .i64 x))
  have HF:=Lib.hid h3
  clear h1 h2 h3 hT
  go_enter Tryz.func203,Tryz.ntmps203
  go_wp2_with (first|(go_at_call 221;refine HL.out.mono ?_;rintro e w' ⟨rfl,rfl⟩)|(go_at_call 241;refine HR.out.mono ?_;intro e w2 hd;obtain ⟨rfl,hd⟩:=hd))
  go_ret
  obtain ⟨V',k1,k2,k3⟩:=hd
  exact ⟨rfl,⟨gk,gw,V',k1,k2,HF.out,h4⟩,HU.out.trans k3 (fun b _ e=>(HF.out b).2 (.inr (.inr e)))⟩
theorem put_put {α : Type} (f : Nat→α) (i : Nat) (x y : α) : put (put f i x) i y=put f i y:=by
  funext j
  unfold put
  by_cases e : j=i <;> simp [e]
theorem ti_leave (F : Nat→Prop) (g n : Nat) (K : Nat→Int) (out : Nat→Bool) (i : Nat) (o : Bool) (w : World) (h : TreeI w F g n K out) (hi : i<n) :
    Calls Tryz.prog 202 #[.pointer (some ⟨g,0,none⟩),.int .i64 i,.bool o] w fun e w'=>e = .returned (.bool true)∧TIPost F g n K (put out i o) w w':=by
  obtain ⟨gk,gw,V,h1,h2,h3,h4⟩:=h
  have HL:=Lib.hid (tr_has g gk gw n K V i w h1)
  rw [decide_eq_true (by omega)] at HL
  have HN:=fun V' w' (h : TreeC w' g gk gw n K V')=>Lib.hid (tr_len g gk gw n K V' w' h)
  have HT:=Lib.hid h1
  have HF:=Lib.hid h3
  have HI:=Lib.hid h2
  obtain ⟨M,hM⟩ : ∃ M,2*n=M:=⟨_,rfl⟩
  have i1 : (0 : Int)≤(n : Int)+(i : Int):=by omega
  have i2 : (n : Int)+(i : Int)<(M : Int):=by omega
  have e1 : ((n : Int)+(i : Int)).toNat=n+i:=by omega
  have HM:=Lib.hid hM
  have E1:=Lib.hid e1
  have hw1 : IntKind.i64.wrap ((n : Int)+(i : Int))=(n : Int)+(i : Int):=by rw [IntKind.wrap_i64];omega
  obtain ⟨hg,c0,z0,c1,z1⟩:=h1.at_.two
  rw [hM] at c1
  have hlt:=h1.won.lt
  obtain ⟨ci,zi⟩:=h1.win (n+i) (by omega)
  rw [← e1] at ci zi
  have HS:=Lib.hid (fun (x : Int) V' w' (h : TreeC w' g gk gw n K V')=>(show TreeC (w'.setCell ⟨gw,((n : Int)+(i : Int)).toNat,none⟩ (.int .i64 x)) g gk gw n K (put V' (n+i) x) by rw [e1];exact h.setWin (n+i) (by omega) x))
  have HK:=Lib.hid (fun V' w' (h : TreeC w' g gk gw n K V')=>(show w'.cell? ⟨g,1,none⟩=some (.slice (some ⟨gw,0,none⟩) M M) by rw [← hM];exact h.at_.two.2.2.2.1))
  clear h1 h2 h3 hM e1 z0 c0
  go_enter Tryz.func202,Tryz.ntmps202
  go_wp2_with (go_at_call 221;refine HL.out.mono ?_;rintro e w' ⟨rfl,rfl⟩)
  go_cut [] (fun wx=>TreeC wx g gk gw n K (put V (n+i) i)∧Upd F w wx)
  case first =>
    go_region_held3 (fun wx=>wx.cell? ⟨g,1,none⟩=some (.slice (some ⟨gw,0,none⟩) M M)) (first|exact c1|exact HK.out _ _ HT.out.drew|exact HK.out _ _ (HS.out _ _ _ HT.out.drew)) (first|(go_at_call 149;refine (HN _ _ HT.out.drew).out.mono ?_;rintro e w2 ⟨rfl,rfl⟩))
    all_goals
      go_wp2
      go_meet
      exact ⟨HS.out _ _ _ HT.out.drew,((Upd.refl F w).drewN _).setCell (p:=⟨gw,((n : Int)+(i : Int)).toNat,none⟩) (fun _=>(HF.out gw).2 (.inr (.inr rfl))) _⟩
  case rest =>
    obtain ⟨hT1,hU1⟩:=hcut
    have HT1:=Lib.hid hT1
    have HU1:=Lib.hid hU1
    clear HL HT ci zi c1 hU1
    have c1:=HK.out _ _ hT1
    have hlt1:=hT1.won.lt
    obtain ⟨ci,zi⟩:=hT1.win (n+i) (by have:=HM.out;omega)
    rw [← E1.out] at ci zi
    clear hT1 hg hlt
    cases o
    · have HR:=Lib.hid (tr_replay g gk gw n K (put out i false) (put V (n+i) i) i wc HT1.out h4 hi (HI.out.leave i hi false i rfl))
      go_wp2_with (go_at_call 241;refine HR.out.mono ?_;intro e w2 hd;obtain ⟨rfl,hd⟩:=hd)
      go_ret
      obtain ⟨V',k1,k2,k3⟩:=hd
      exact ⟨rfl,⟨gk,gw,V',k1,k2,HF.out,h4⟩,HU1.out.trans k3 (fun b _ e=>(HF.out b).2 (.inr (.inr e)))⟩
    · go_wp2
      go_cut [] (fun wx=>TreeC wx g gk gw n K (put V (n+i) (-1))∧Upd F w wx)
      case first =>
        go_region_held3 (fun wx=>wx.cell? ⟨g,1,none⟩=some (.slice (some ⟨gw,0,none⟩) M M)) (first|exact c1|exact HK.out _ _ HT1.out.drew|exact HK.out _ _ (HS.out _ _ _ HT1.out.drew)) (first|(go_at_call 149;refine (HN _ _ HT1.out.drew).out.mono ?_;rintro e w2 ⟨rfl,rfl⟩))
        all_goals
          go_wp2
          go_meet
          exact ⟨by have h5:=HS.out (-1) _ _ HT1.out.drew;rw [put_put] at h5;exact h5,(HU1.out.drew).setCell (p:=⟨gw,((n : Int)+(i : Int)).toNat,none⟩) (fun _=>(HF.out gw).2 (.inr (.inr rfl))) _⟩
      case rest =>
        obtain ⟨hT2,hU2⟩:=hcut
        have HR:=Lib.hid (tr_replay g gk gw n K (put out i true) (put V (n+i) (-1)) i _ hT2 h4 hi (HI.out.leave i hi true (-1) rfl))
        have HU2:=Lib.hid hU2
        clear hU2
        go_wp2_with (go_at_call 241;refine HR.out.mono ?_;intro e w2 hd;obtain ⟨rfl,hd⟩:=hd)
        go_ret
        obtain ⟨V',k1,k2,k3⟩:=hd
        exact ⟨rfl,⟨gk,gw,V',k1,k2,HF.out,h4⟩,HU2.out.trans k3 (fun b _ e=>(HF.out b).2 (.inr (.inr e)))⟩
theorem ti_least (F : Nat→Prop) (g n : Nat) (K : Nat→Int) (out : Nat→Bool) (w : World) (h : TreeI w F g n K out) (key place : Int) (ok : Bool) (hs : scan K out n=(key,place,ok)) :
    Calls Tryz.prog 249 #[.pointer (some ⟨g,0,none⟩)] w fun e w'=>e = .returned (.tuple #[.int .i64 key,.int .i64 place,.bool ok])∧w=w':=by
  obtain ⟨gk,gw,V,h1,h2,h3,h4⟩:=h
  have HL:=Lib.hid (tr_len g gk gw n K V w h1)
  obtain ⟨hg,c0,z0,c1,z1⟩:=h1.at_.two
  by_cases hn : n=0
  · subst hn
    obtain ⟨rfl,rfl,rfl⟩ : (0 : Int)=key∧(0 : Int)=place∧false=ok:=by simpa [scan] using hs
    clear h1 h2 h3 hs
    go_enter Tryz.func249,Tryz.ntmps249
    go_wp2_with (go_at_call 149;refine HL.out.mono ?_;rintro e w' ⟨rfl,rfl⟩)
    go_ret3
    exact ⟨rfl,rfl⟩
  have hn0 : 0<n:=by omega
  have hle:=h2.least hn0
  rw [hs] at hle
  have hr:=h2.rng 1 (by omega)
  have cw:=(h1.win 1 (by omega)).1
  have hnz : ((n : Int) == 0)=false:=by simp;omega
  have hn1 : (1 : Int)<2*(n : Int):=by omega
  have hn2 : 1<2*n:=by omega
  by_cases hv : V 1 = -1
  · rw [if_pos hv] at hle
    obtain ⟨rfl,rfl,rfl⟩ : key=(0 : Int)∧place=(0 : Int)∧ok=false:=by simpa using hle
    rw [hv] at cw
    clear h1 h2 h3 hs hle hv hr hn
    go_enter Tryz.func249,Tryz.ntmps249
    go_wp2_with (go_at_call 149;refine HL.out.mono ?_;rintro e w' ⟨rfl,rfl⟩)
    go_ret3
    exact ⟨rfl,rfl⟩
  · rw [if_neg hv] at hle
    obtain ⟨p,hp⟩ : ∃ p : Nat,V 1=p:=⟨(V 1).toNat,by omega⟩
    rw [hp] at hle cw hv hr
    obtain ⟨rfl,rfl,rfl⟩ : key=K p∧place=(p : Int)∧ok=true:=by simp at hle;exact hle
    have hpn : p<n:=by omega
    have ck:=(h1.key p hpn).1
    have hpz : ((p : Int) == -1)=false:=by simp
    generalize K p=x at *
    clear h1 h2 h3 hs hle hv hr hn hp
    go_enter Tryz.func249,Tryz.ntmps249
    go_wp2_with (go_at_call 149;refine HL.out.mono ?_;rintro e w' ⟨rfl,rfl⟩)
    go_ret3
    exact ⟨rfl,rfl⟩
theorem own_row (w : World) (z : Value) (n : Nat) (e : TypeId) : Own (w.alloc (.cells (madeCells #[z] n) e)) w.heap.size 0 n (fun _=>z):=by
  refine ⟨by simp,fun j hj=>?_,fun j hj=>?_⟩
  · rw [cell_of_row _ w.heap.size (0+j) _ e (0,0) (heap_alloc_new w _)]
    simp [madeCells,hj,Nat.mod_one]
  · have e0:=heap_alloc_new w (.cells (madeCells #[z] n) e (0,0))
    simp only [World.frozen?,e0]
    simp
def TNewC (n : Nat) (w : World) (e : Ending) (w' : World) : Prop:=∃ F g,e = .returned (.pointer (some ⟨g,0,none⟩))∧TreeI w' F g n (fun _=>0) (fun _=>false)∧F g∧(∀ b,F b→w.heap.size≤b)∧Below w.heap.size w w'
def vat (n k : Nat) : Nat→Int:=fun j=>if n≤j∧j<n+k then (j : Int) - n else 0
theorem vat_zero (n : Nat) : vat n 0=fun _=>0:=by
  funext j
  unfold vat
  rw [if_neg (by omega)]
theorem vat_put (n k : Nat) : put (vat n k) (n+k) k=vat n (k+1):=by
  funext j
  unfold put vat
  by_cases e : j=n+k
  · subst e;rw [if_pos rfl,if_pos (by omega)];omega
  · rw [if_neg e]
    by_cases e2 : n≤j∧j<n+k
    · rw [if_pos e2,if_pos (by omega)]
    · rw [if_neg e2,if_neg (by omega)]
theorem vat_new (n : Nat) : PTree.TNew n (fun _=>0) (fun _=>false) (vat n n) (n - 1):=by
  refine ⟨fun i hi=>?_,fun k k0 k1=>by omega,fun k hk=>?_⟩
  · unfold vat;rw [if_pos (by omega),if_neg (by simp)];omega
  · unfold vat;split <;> omega
theorem made_one (w : World) (n : Nat) (e t : TypeId) : TreeC (((w.alloc (.cells (madeCells #[.int .i64 0] n) e)).alloc (.cells (madeCells #[.int .i64 0] (2*n)) e)).alloc (.cells #[.slice (some ⟨w.heap.size,0,none⟩) n n,.slice (some ⟨w.heap.size+1,0,none⟩) (2*n) (2*n)] t)).drew (w.heap.size+1+1) w.heap.size (w.heap.size+1) n (fun _=>0) (fun _=>0):=by
  have hk:=own_row w (.int .i64 0) n e
  have hw:=own_row (w.alloc (.cells (madeCells #[.int .i64 0] n) e)) (.int .i64 0) (2*n) e
  have ha:=At.alloc ((w.alloc (.cells (madeCells #[.int .i64 0] n) e)).alloc (.cells (madeCells #[.int .i64 0] (2*n)) e)) [.slice (some ⟨w.heap.size,0,none⟩) n n,.slice (some ⟨w.heap.size+1,0,none⟩) (2*n) (2*n)] t
  rw [show ((w.alloc (.cells (madeCells #[.int .i64 0] n) e)).alloc (.cells (madeCells #[.int .i64 0] (2*n)) e)).heap.size=w.heap.size+1+1 by simp] at ha
  rw [show (w.alloc (.cells (madeCells #[.int .i64 0] n) e)).heap.size=w.heap.size+1 by simp] at hw
  exact ⟨ha.drew,((hk.alloc _).alloc _).drew,(hw.alloc _).drew,by omega,by omega,by omega⟩
theorem made_two (w : World) (n : Nat) (e t : TypeId) : TreeC (((w.alloc (.cells (madeCells #[.int .i64 0] (2*n)) e)).alloc (.cells (madeCells #[.int .i64 0] n) e)).alloc (.cells #[.slice (some ⟨w.heap.size+1,0,none⟩) n n,.slice (some ⟨w.heap.size,0,none⟩) (2*n) (2*n)] t)).drew (w.heap.size+1+1) (w.heap.size+1) w.heap.size n (fun _=>0) (fun _=>0):=by
  have hw:=own_row w (.int .i64 0) (2*n) e
  have hk:=own_row (w.alloc (.cells (madeCells #[.int .i64 0] (2*n)) e)) (.int .i64 0) n e
  have ha:=At.alloc ((w.alloc (.cells (madeCells #[.int .i64 0] (2*n)) e)).alloc (.cells (madeCells #[.int .i64 0] n) e)) [.slice (some ⟨w.heap.size+1,0,none⟩) n n,.slice (some ⟨w.heap.size,0,none⟩) (2*n) (2*n)] t
  rw [show ((w.alloc (.cells (madeCells #[.int .i64 0] (2*n)) e)).alloc (.cells (madeCells #[.int .i64 0] n) e)).heap.size=w.heap.size+1+1 by simp] at ha
  rw [show (w.alloc (.cells (madeCells #[.int .i64 0] (2*n)) e)).heap.size=w.heap.size+1 by simp] at hk
  exact ⟨ha.drew,(hk.alloc _).drew,((hw.alloc _).alloc _).drew,by omega,by omega,by omega⟩
theorem made_below (w : World) (a b c : Obj) : Below w.heap.size w (((w.alloc a).alloc b).alloc c).drew :=
  (((((Upd.refl (fun _=>False) w).alloc a).alloc b).alloc c).drew).below (Nat.le_refl _) (fun _ _ h=>h.elim)
theorem ti_new (a : Int) (n : Nat) (w : World) (hn : max a 0=(n : Int)) (hb : n≤1000000) :
    Calls Tryz.prog 148 #[.int .i64 a] w fun e w'=>TNewC n w e w':=by
  have hif : (if a<0 then (0 : Int) else a)=(n : Int):=by split <;> omega
  have hmk:=run_make_row' (P:=Tryz.prog) 106 3 (.int .i64 0) 8 Tryz.underlying106 (by kernel_rfl) rfl .i64 .i64 n (by omega) (by omega)
  have hmk2 : ∀ w,(Instr.makeSlice 106 (.int .i64 (2*(n : Int))) (.int .i64 (2*(n : Int)))).run Tryz.prog w = .ok (.slice (some ⟨w.heap.size,0,none⟩) (2*n) (2*n)) (w.alloc (.cells (madeCells #[.int .i64 0] (2*n)) 3)):=by
    have:=run_make_row' (P:=Tryz.prog) 106 3 (.int .i64 0) 8 Tryz.underlying106 (by kernel_rfl) rfl .i64 .i64 (2*n) (by omega) (by omega)
    rw [show ((2*n : Nat) : Int)=2*(n : Int) by omega] at this
    exact this
  have hw1 : IntKind.i64.wrap (2*(n : Int))=2*(n : Int):=by rw [IntKind.wrap_i64];omega
  have hnb : (n : Int)≤1000000:=by omega
  clear hn
  go_enter Tryz.func148,Tryz.ntmps148
  go_wp2
  go_cut [3] (fun t wx=>∃ g gk gw,t = .pointer (some ⟨g,0,none⟩)∧TreeC wx g gk gw n (fun _=>0) (fun _=>0)∧w.heap.size≤g∧w.heap.size≤gk∧w.heap.size≤gw∧Below w.heap.size w wx)
  case first =>
    go_region
    all_goals go_wp2
    all_goals go_meet
    · exact ⟨_,_,_,rfl,made_one w n 3 273,by omega,by omega,by omega,made_below w _ _ _⟩
    · exact ⟨_,_,_,rfl,made_two w n 3 273,by omega,by omega,by omega,made_below w _ _ _⟩
  case rest =>
    obtain ⟨g,gk,gw,rfl,hT,hg0,hgk0,hgw0,hbl⟩:=hcut
    clear hmk hmk2 hw1 hif
    obtain ⟨M,hM⟩ : ∃ M,2*n=M:=⟨_,rfl⟩
    have HM:=Lib.hid hM
    go_wp2
    go_loopw [17] (fun i wr=>∃ k : Nat,k≤n∧i = .int .i64 k∧TreeC wr g gk gw n (fun _=>0) (vat n k)∧Below w.heap.size w wr) (fun i _=>n - (intOf i).toNat)
    case atStart=>exact ⟨0,Nat.zero_le _,rfl,by rw [vat_zero];exact hT,hbl⟩
    case round =>
      obtain ⟨k,hk,rfl,hTk,hbk⟩:=hrel
      by_cases hlt : k<n
      · have HT:=Lib.hid hTk
        have HB:=Lib.hid hbk
        obtain ⟨hgl,c0,z0,c1,z1⟩:=hTk.at_.two
        obtain ⟨ci,zi⟩:=hTk.win (n+k) (by omega)
        have hlt1:=hTk.won.lt
        have hw1 : IntKind.i64.wrap ((n : Int)+(k : Int))=(n : Int)+(k : Int):=by rw [IntKind.wrap_i64];omega
        have i1 : (0 : Int)≤(n : Int)+(k : Int):=by omega
        have i2 : (n : Int)+(k : Int)<(M : Int):=by have:=HM.out;omega
        rw [hM] at c1
        clear hTk hbk z0 z1 c0
        go_wp2
        go_roundw
        case rel=>exact ⟨k+1,by omega,by go_num,by rw [← vat_put];exact HT.out.setWin (n+k) (by omega) k,HB.out.upd (S:=fun b=>b=gw) ((Upd.refl (fun b=>b=gw) wr).setCell (p:=⟨gw,n+k,none⟩) (fun _=>rfl) _) HB.out.size (fun b _ e=>by omega)⟩
        case measure=>simp [intOf];omega
      · obtain rfl : k=n:=by omega
        by_cases hn0 : k=0
        · subst hn0
          go_wp2
          go_loopw [5] (fun i wr=>i = .int .i64 (-1)∧TreeC wr g gk gw 0 (fun _=>0) (vat 0 0)∧Below w.heap.size w wr) (fun i _=>0)
          case atStart=>exact ⟨by go_num,hTk,hbk⟩
          case round =>
            obtain ⟨rfl,hT2,hb2⟩:=hrel
            go_wp2
            go_ret
            exact ⟨fun b=>b=g∨b=gk∨b=gw,g,rfl,⟨gk,gw,_,hT2,⟨fun i hi=>by omega,fun k h0 h1=>by omega,fun k h0=>by omega⟩,fun b=>Iff.rfl,by omega⟩,.inl rfl,fun b hb=>by omega,hb2⟩
        · have hsb : IntKind.i64.wrap ((k : Int) - 1)=(k : Int) - 1:=by rw [IntKind.wrap_i64];omega
          have hNEW:=Lib.hid (vat_new k)
          go_wp2
          go_loopw [5] (fun i wr=>∃ (c : Nat) (V : Nat→Int),i = .int .i64 c∧c<k∧TreeC wr g gk gw k (fun _=>0) V∧PTree.TNew k (fun _=>0) (fun _=>false) V c∧Below w.heap.size w wr) (fun i _=>(intOf i).toNat)
          case atStart=>exact ⟨k - 1,vat k k,by go_num,by omega,hTk,hNEW.out,hbk⟩
          case round =>
            obtain ⟨c,V,rfl,hc,hT2,hN2,hb2⟩:=hrel
            by_cases h0 : 0<c
            · obtain ⟨d,rfl⟩ : ∃ d,c=d+1:=⟨c - 1,by omega⟩
              have HP:=Lib.hid (tr_play g gk gw k (fun _=>0) V (d+1) wr hT2 hb (by omega) hc hN2.rng)
              have HI:=Lib.hid (hN2.play hc)
              have HB:=Lib.hid hb2
              generalize put V (d+1) (wz (fun _=>0) (V (2*(d+1))) (V (2*(d+1)+1)))=V2 at *
              clear hT2 hN2 hb2
              have hdd : ((d+1 : Nat) : Int) - 1=(d : Int):=by omega
              go_wp2_with (go_at_call 201;refine HP.out.mono ?_;rintro e w2 ⟨rfl,hT3,hU3⟩)
              go_roundw
              case rel=>exact ⟨d,V2,by go_num,by omega,hT3,HI.out,HB.out.upd hU3 HB.out.size (fun b _ e=>by omega)⟩
              case measure=>(simp [intOf] <;> omega)
            · obtain rfl : c=0:=by omega
              have HI:=Lib.hid hN2.inv
              clear hN2
              go_wp2
              go_ret
              exact ⟨fun b=>b=g∨b=gk∨b=gw,g,rfl,⟨gk,gw,_,hT2,HI.out,fun b=>Iff.rfl,hb⟩,.inl rfl,fun b hb=>by omega,hb2⟩
section
variable {w0 w w' : World} {F : Nat→Prop} {g n : Nat} {K K' : Nat→Int} {out out' : Nat→Bool}
end
end Go.Proofs.YtmimfkhkilijcaaGreatDoor
