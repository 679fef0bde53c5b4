/- KRing: what is reached of them. -/
import Derived.Test.YtmimfkhkilijcaaGreatDoorWq01
import Derived.Laws.Slices
import Derived.Deep.RegionLaw
import Derived.Handy
import Derived.BigQuiet
import Derived.Deep.QuietTactic
import Derived.IntWalk
import Derived.Outline
import Derived.WalkLawsBesides
import Derived.Deep.RegionWith
import Derived.Deep.DeepCutAuto
import Derived.Deep.DeepFit
import Derived.BigRegion
set_option linter.unusedVariables false
set_option linter.unusedSimpArgs false
set_option maxRecDepth 100000
set_option maxHeartbeats 8000000
namespace Go.Proofs.YtmimfkhkilijcaaGreatDoor
namespace PRing
variable {α : Type}
def view (e : Nat) (xs : List α) : List α:=xs.drop e++xs.take e
def last (n : Nat) (l : List α) : List α:=l.drop (l.length - n)
def push (r : Nat) (l : List α) (x : α) : List α:=if l.length<r then l++[x] else l.drop 1++[x]
theorem view_len (e : Nat) (xs : List α) : (view e xs).length=xs.length:=by unfold view;rw [List.length_append,List.length_drop,List.length_take];omega
theorem view_zero (xs : List α) : view 0 xs=xs:=by simp [view]
theorem view_get (e : Nat) (xs : List α) (he : e<xs.length) (i : Nat) (hi : i<xs.length) : (view e xs)[i]? = xs[(e+i) % xs.length]?:=by
  unfold view
  by_cases h : i<xs.length - e
  · rw [List.getElem?_append_left (by simpa using h),List.getElem?_drop,Nat.mod_eq_of_lt (by omega)]
  · rw [List.getElem?_append_right (by simp;omega),List.length_drop,List.getElem?_take_of_lt (by omega)]
    congr 1
    rw [Nat.mod_eq_sub_mod (by omega),Nat.mod_eq_of_lt (by omega)]
    omega
theorem view_head (e : Nat) (xs : List α) (he : e<xs.length) : (view e xs)[0]? = xs[e]?:=by
  rw [view_get e xs he 0 (by omega),Nat.add_zero,Nat.mod_eq_of_lt he]
theorem view_set (e : Nat) (xs : List α) (he : e<xs.length) (x : α) : view ((e+1) % xs.length) (xs.set e x)=(view e xs).drop 1++[x]:=by
  apply List.ext_getElem?
  intro i
  have hl : (xs.set e x).length=xs.length:=List.length_set
  by_cases hi : i<xs.length
  · have hm : (e+1) % xs.length<xs.length:=Nat.mod_lt _ (by omega)
    have h1:=view_get ((e+1) % xs.length) (xs.set e x) (by rw [hl];exact hm) i (by rw [hl];exact hi)
    rw [h1,hl]
    have e1 : ((e+1) % xs.length+i) % xs.length=(e+(1+i)) % xs.length:=by rw [Nat.mod_add_mod];congr 1;omega
    rw [e1]
    by_cases hl1 : i<xs.length - 1
    · rw [List.getElem?_append_left (by rw [List.length_drop,view_len];exact hl1),List.getElem?_drop,view_get e xs he (1+i) (by omega)]
      rw [List.getElem?_set_ne]
      intro hc
      by_cases hw : e+(1+i)<xs.length
      · rw [Nat.mod_eq_of_lt hw] at hc;omega
      · rw [Nat.mod_eq_sub_mod (by omega),Nat.mod_eq_of_lt (by omega)] at hc;omega
    · have e2 : e+(1+i)=e+xs.length:=by omega
      rw [e2,Nat.add_mod_right,Nat.mod_eq_of_lt he,List.getElem?_set_self he,List.getElem?_append_right (by rw [List.length_drop,view_len];omega),List.length_drop,view_len]
      rw [show i - (xs.length - 1)=0 by omega]
      rfl
  · rw [List.getElem?_eq_none (by rw [view_len,hl];omega),List.getElem?_eq_none (by rw [List.length_append,List.length_drop,view_len];simp;omega)]
theorem last_len (n : Nat) (l : List α) : (last n l).length=min n l.length:=by unfold last;rw [List.length_drop];omega
theorem last_push (n : Nat) (h1 : 1≤n) (l : List α) (x : α) : push n (last n l) x=last n (l++[x]):=by
  unfold push
  rw [last_len]
  unfold last
  rw [List.length_append]
  by_cases h : min n l.length<n
  · rw [if_pos h,show l.length - n=0 by omega,show l.length+[x].length - n=0 by simp;omega]
    simp
  · rw [if_neg h,List.drop_drop,List.drop_append_of_le_length (by simp;omega)]
    congr 2
    simp;omega
end PRing
open Go.ChangeShapes Go.WideShapes Go.ChangeAt Go.RowKit
section
variable {P : Program}
theorem step_append_run {ops : Array Oper} {o : Oper} {a : Act} {w : World} {K : Act→World→Prop} {Q : Exit→Act→World→Prop} {E : Prop}
    (hg : o.guard=none) (d x : Operand) (dT sT : TypeId) (hop : o.op=Op.call { callee:=Callee.builtin Builtin.append,args:=#[d,x],argTypes:=#[dT,sT] })
    (v u : Value) (hd : a.eval d=v) (hx : a.eval x=u) {v' : Value} {w' : World} (hr : (Builtin.append_ #[dT,sT] o.type #[v,u]).run P w = .ok v' w') (hK : K (a.put o.dst v') w') :
    if Region.wanted o (yielded ops a.tmps)=true then Oper.wp P o a w K Q else E:=by
  have hw : Region.wanted o (yielded ops a.tmps)=true:=by simp [Region.wanted,hg]
  rw [if_pos hw]
  unfold Oper.wp
  simp [execOp,hop,resolve,invoke,builtin,hd,hx,hr,Result.andThen]
  exact hK
theorem step_copy_run {ops : Array Oper} {o : Oper} {a : Act} {w : World} {K : Act→World→Prop} {Q : Exit→Act→World→Prop} {E : Prop}
    (hg : o.guard=none) (d x : Operand) (dT sT : TypeId) (hop : o.op=Op.call { callee:=Callee.builtin Builtin.copy,args:=#[d,x],argTypes:=#[dT,sT] })
    (v u : Value) (hd : a.eval d=v) (hx : a.eval x=u) {v' : Value} {w' : World} (hr : (Builtin.copy_ #[dT,sT] o.type #[v,u]).run P w = .ok v' w') (hK : K (a.put o.dst v') w') :
    if Region.wanted o (yielded ops a.tmps)=true then Oper.wp P o a w K Q else E:=by
  have hw : Region.wanted o (yielded ops a.tmps)=true:=by simp [Region.wanted,hg]
  rw [if_pos hw]
  unfold Oper.wp
  simp [execOp,hop,resolve,invoke,builtin,hd,hx,hr,Result.andThen]
  exact hK
theorem wpList_append_run (w : World) {ops : Array Oper} {rest : List Oper} {o : Oper} {a : Act} {Q : Exit→Act→World→Prop} (hgd : o.guard=none) (s x : Operand) (t tx : TypeId)
    (ho : o.op = .call { callee:=.builtin .append,args:=#[s,x],argTypes:=#[t,tx] }) (v u : Value) (hv : a.eval s=v) (hx : a.eval x=u) {v' : Value} {w' : World}
    (hr : (Builtin.append_ #[t,tx] o.type #[v,u]).run P w = .ok v' w') (hK : wpList P ops Q rest (a.put o.dst v') w') : wpList P ops Q (o::rest) a w:=by
  refine wpList_plain hgd fun K hK'=>?_
  unfold Oper.wp
  simp [execOp,ho,resolve,invoke,builtin,hv,hx,hr,Result.andThen]
  exact hK' _ _ hK
theorem wpList_copy_run (w : World) {ops : Array Oper} {rest : List Oper} {o : Oper} {a : Act} {Q : Exit→Act→World→Prop} (hgd : o.guard=none) (s x : Operand) (t tx : TypeId)
    (ho : o.op = .call { callee:=.builtin .copy,args:=#[s,x],argTypes:=#[t,tx] }) (v u : Value) (hv : a.eval s=v) (hx : a.eval x=u) {v' : Value} {w' : World}
    (hr : (Builtin.copy_ #[t,tx] o.type #[v,u]).run P w = .ok v' w') (hK : wpList P ops Q rest (a.put o.dst v') w') : wpList P ops Q (o::rest) a w:=by
  refine wpList_plain hgd fun K hK'=>?_
  unfold Oper.wp
  simp [execOp,ho,resolve,invoke,builtin,hv,hx,hr,Result.andThen]
  exact hK' _ _ hK
end
open PRing
structure RingC (w : World) (F : Nat→Prop) (g r : Nat) (v : Value) (e : Nat) (xs : List Value) : Prop where
  at_ : At w g [.int .i64 r,v,.int .i64 e]
  sl : Sl 0 w 1 v xs.length xs
  own : F g∧(∀ k,F k→k<w.heap.size)∧∀ k,v.ownBlock=some k→F k∧k≠g
  one : 1≤r
  room : xs.length≤r
  first : xs.length<r→e=0
  eld : e<xs.length∨e=0
def Ring (w : World) (F : Nat→Prop) (g r : Nat) (l : List Value) : Prop:=∃ v e xs,RingC w F g r v e xs∧l=view e xs
def RNew (g r : Nat) (w w' : World) : Prop:=Ring w' (fun k=>k=g) g r []∧Below w.heap.size w w'
def RPush (F : Nat→Prop) (g r : Nat) (l : List Value) (w w' : World) : Prop:=∃ F',Ring w' F' g r l∧Upd F w w'∧∀ k,F' k→F k∨w.heap.size≤k
theorem RingC.upd {S : Nat→Prop} {w w' : World} {F : Nat→Prop} {g r : Nat} {v : Value} {e : Nat} {xs : List Value} (h : RingC w F g r v e xs) (hu : Upd S w w') (hn : ∀ k,F k→¬ S k) : RingC w' F g r v e xs :=
  ⟨h.at_.upd hu (hn g h.own.1),h.sl.upd hu (fun k hk=>hn k (h.own.2.2 k hk).1),⟨h.own.1,fun k hk=>Nat.lt_of_lt_of_le (h.own.2.1 k hk) hu.size,h.own.2.2⟩,h.one,h.room,h.first,h.eld⟩
theorem Ring.upd {S : Nat→Prop} {w w' : World} {F : Nat→Prop} {g r : Nat} {l : List Value} (h : Ring w F g r l) (hu : Upd S w w') (hn : ∀ k,F k→¬ S k) : Ring w' F g r l:=by
  obtain ⟨v,e,xs,h1,h2⟩:=h
  exact ⟨v,e,xs,h1.upd hu hn,h2⟩
theorem Ring.lt {w : World} {F : Nat→Prop} {g r : Nat} {l : List Value} (h : Ring w F g r l) : ∀ k,F k→k<w.heap.size:=by
  obtain ⟨v,e,xs,h1,h2⟩:=h
  exact h1.own.2.1
theorem Ring.len {w : World} {F : Nat→Prop} {g r : Nat} {l : List Value} (h : Ring w F g r l) : l.length≤r:=by
  obtain ⟨v,e,xs,h1,rfl⟩:=h
  rw [view_len]
  exact h1.room
theorem upd_drewN (w : World) (n : Nat) : Upd (fun _=>False) w (w.drewN n):=(Upd.refl _ _).drewN n
theorem RingC.drewN {w : World} {F : Nat→Prop} {g r : Nat} {v : Value} {e : Nat} {xs : List Value} (h : RingC w F g r v e xs) (n : Nat) : RingC (w.drewN n) F g r v e xs:=h.upd (upd_drewN w n) (fun _ _ h=>h)
theorem Upd.cat {S1 S2 S : Nat→Prop} {a b c : World} (h1 : Upd S1 a b) (h2 : Upd S2 b c) (hs1 : ∀ k,k<a.heap.size→S1 k→S k) (hs2 : ∀ k,k<a.heap.size→S2 k→S k) : Upd S a c:=(h1.mono hs1).trans h2 hs2
theorem ring_put {w w0 w1 : World} {F : Nat→Prop} {g r e : Nat} {v : Value} {xs : List Value} (h : RingC w F g r v e xs) (hu : Upd (fun _=>False) w w0) (k2 : Upd (fun k=>v.ownBlock=some k) w0 w1) : At w1 g [.int .i64 r,v,.int .i64 e] :=
  (h.at_.upd hu id).upd k2 (fun hk=>(h.own.2.2 g hk).2 rfl)
theorem ring_push_room {w w0 w1 : World} {F : Nat→Prop} {g r : Nat} {v v1 : Value} {xs : List Value} {x : Value} (h : RingC w F g r v 0 xs) (hl : xs.length<r) (hu : Upd (fun _=>False) w w0)
    (k1 : Sl 0 w1 1 v1 (xs.length+1) (xs++[x])) (k2 : Upd (fun k=>v.ownBlock=some k) w0 w1) (k3 : ∀ k,v1.ownBlock=some k→v.ownBlock=some k∨w0.heap.size≤k) : RPush F g r (view 0 xs++[x]) w (w1.setCell ⟨g,1,none⟩ v1):=by
  have hat:=ring_put h hu k2
  have hg:=h.at_.1
  have hg1:=hat.1
  have hne : ∀ k,v1.ownBlock=some k→k≠g:=fun k hk=>by
    rcases k3 k hk with h1|h1
    · exact (h.own.2.2 k h1).2
    · have:=hu.size;omega
  have hset : Upd (fun k=>k=g) w1 (w1.setCell ⟨g,1,none⟩ v1):=(Upd.refl (fun k=>k=g) w1).setCell (p:=⟨g,1,none⟩) (fun _=>rfl) v1
  have hsz:=hset.size
  refine ⟨fun k=>k=g∨v1.ownBlock=some k,⟨v1,0,xs++[x],⟨hat.set 1 (by simp) v1,?_,⟨.inl rfl,fun k hk=>?_,fun k hk=>⟨.inr hk,hne k hk⟩⟩,h.one,by simp;omega,fun _=>rfl,.inr rfl⟩,by rw [view_zero,view_zero]⟩,?_,fun k hk=>?_⟩
  · have:=k1.upd hset (fun k hk=>hne k hk)
    simpa using this
  · rcases hk with rfl|hk
    · omega
    · have:=(k1.lt k hk).2;omega
  · exact (hu.cat (S:=F) k2 (fun _ _ h=>h.elim) (fun i _ hi=>(h.own.2.2 i hi).1)).cat hset (fun _ _ h=>h) (fun i _ hi=>by subst hi;exact h.own.1)
  · rcases hk with rfl|hk
    · exact .inl h.own.1
    · rcases k3 k hk with h1|h1
      · exact .inl (h.own.2.2 k h1).1
      · have:=hu.size;exact .inr (by omega)
theorem ring_over {w w0 : World} {F : Nat→Prop} {g r e : Nat} {b off c : Nat} {xs : List Value} (h : RingC w0 F g r (.slice (some ⟨b,off,none⟩) xs.length c) e xs) (hu : Upd (fun _=>False) w w0) (he : e<xs.length) (x : Value) :
    RingC (w0.setCell ⟨b,off+e,none⟩ x) F g r (.slice (some ⟨b,off,none⟩) xs.length c) e (xs.set e x)∧Upd F w (w0.setCell ⟨b,off+e,none⟩ x):=by
  obtain ⟨hf,hne⟩:=h.own.2.2 b rfl
  have hset : Upd (fun k=>k=b) w0 (w0.setCell ⟨b,off+e,none⟩ x):=(Upd.refl (fun k=>k=b) w0).setCell (p:=⟨b,off+e,none⟩) (fun _=>rfl) x
  have hl : (xs.set e x).length=xs.length:=List.length_set
  refine ⟨⟨h.at_.upd hset (fun hk=>hne hk.symm),?_,⟨h.own.1,fun k hk=>Nat.lt_of_lt_of_le (h.own.2.1 k hk) hset.size,h.own.2.2⟩,h.one,by rw [hl];exact h.room,by rw [hl];exact h.first,by rw [hl];exact h.eld⟩,hu.cat hset (fun _ _ h=>h.elim) (fun k _ hk=>by subst hk;exact hf)⟩
  rw [hl]
  refine ⟨by rw [hl];omega,.inr ?_⟩
  rcases h.sl.2 with ⟨h0,_⟩|⟨g',off',cap',e0,h1,hb,hn,hm,h3,h4⟩
  · cases h0
  · cases e0
    refine ⟨b,off,c,rfl,h1,Nat.lt_of_lt_of_le hb hset.size,hn,hm,fun j hj=>?_,fun j hj=>?_⟩
    · by_cases ej : j=e
      · subst ej
        have:=h3 j hj
        rw [List.getElem?_eq_getElem (by omega)] at this
        rw [World.cell?_setCell_same w0 ⟨b,off+j,none⟩ x this,List.getElem?_set_self he]
      · rw [World.cell?_setCell_other _ _ _ _ (fun hx=>ej (by have:=congrArg Addr.off hx;simp at this;omega)),List.getElem?_set_ne (fun e=>ej e.symm)]
        exact h3 j hj
    · refine ⟨?_,by rw [World.frozen?_setCell];exact (h4 j hj).2⟩
      by_cases ej : j=e
      · subst ej
        have:=h3 j (by omega)
        rw [List.getElem?_eq_getElem (by omega)] at this
        rw [World.cell?_setCell_same w0 ⟨b,off+j,none⟩ x this];rfl
      · rw [World.cell?_setCell_other _ _ _ _ (fun hx=>ej (by have:=congrArg Addr.off hx;simp at this;omega))]
        exact (h4 j hj).1
theorem ring_push_full {w w4 : World} {F : Nat→Prop} {g e : Nat} {v v' : Value} {xs : List Value} {x : Value} (h : RingC w4 F g xs.length v e (xs.set e x)) (hu : Upd F w w4) (h0 : RingC w F g xs.length v' e xs) (hx : 0<xs.length) (z : Int) (hz : z=((e+1) % xs.length : Nat)) :
    RPush F g xs.length ((view e xs).drop 1++[x]) w (w4.setCell ⟨g,2,none⟩ (.int .i64 z)):=by
  subst hz
  have he : e<xs.length:=by have:=h0.eld;omega
  have hset : Upd (fun k=>k=g) w4 (w4.setCell ⟨g,2,none⟩ (.int .i64 ((e+1) % xs.length : Nat))):=(Upd.refl (fun k=>k=g) w4).setCell (p:=⟨g,2,none⟩) (fun _=>rfl) _
  have hl : (xs.set e x).length=xs.length:=List.length_set
  refine ⟨F,⟨v,(e+1) % xs.length,xs.set e x,⟨?_,h.sl.upd hset (fun k hk=>(h.own.2.2 k hk).2),⟨h.own.1,fun k hk=>Nat.lt_of_lt_of_le (h.own.2.1 k hk) hset.size,h.own.2.2⟩,h.one,h.room,fun hc=>by omega,.inl (by rw [hl];exact Nat.mod_lt _ hx)⟩,(view_set e xs he x).symm⟩,hu.cat hset (fun _ _ h=>h) (fun k _ hk=>by subst hk;exact h.own.1),fun k hk=>.inl hk⟩
  have:=h.at_.set 2 (by simp) (.int .i64 ((e+1) % xs.length : Nat))
  simpa using this
theorem ring_made (w : World) (r : Nat) (n : Int) (hn : n=r) (h1 : 1≤r) (ty : TypeId) : RNew w.heap.size r w (w.alloc (.cells #[.int .i64 n,.slice none 0 0,.int .i64 0] ty)):=by
  subst hn
  refine ⟨⟨.slice none 0 0,0,[],⟨At.alloc w [.int .i64 r,.slice none 0 0,.int .i64 0] ty,Sl.nil _ _ _,⟨rfl,fun k hk=>by subst hk;simp,fun k hk=>by simp [Value.ownBlock] at hk⟩,h1,by simp,fun _=>rfl,.inr rfl⟩,(view_zero []).symm⟩,?_⟩
  exact ((Upd.refl (fun _=>False) w).alloc _).below (Nat.le_refl _) (fun k _ h=>h.elim)
theorem ri_new (n : Int) (r : Nat) (hr : (r : Int)=max n 1) (h2 : r≤100000) (w : World) :
    Calls Tryz.prog 205 #[.int .i64 n] w fun e w'=>e = .returned (.pointer (some ⟨w.heap.size,0,none⟩))∧RNew w.heap.size r w w':=by
  go_enter Tryz.func205,Tryz.ntmps205
  go_wp2
  case inr|inl =>
    go_ret
    exact ⟨rfl,ring_made w r _ (by omega) (by omega) _⟩
theorem ri_place (F : Nat→Prop) (g r : Nat) (v : Value) (e : Nat) (xs : List Value) (z : Int) (i : Nat) (hzi : z=i) (w : World) (h : RingC w F g r v e xs) (hi : i≤100000) (hx : 0<xs.length) (h2 : r≤100000) :
    Calls Tryz.prog 316 #[.pointer (some ⟨g,0,none⟩),.int .i64 z] w fun z w'=>z = .returned (.int .i64 ((e+i) % xs.length : Nat))∧∃ n,w'=w.drewN n:=by
  subst hzi
  obtain ⟨hat,hsl,hF,hr1,hr2,hr3,hr4⟩:=h
  obtain ⟨hg,c0,z0,c1,z1,c2,z2⟩:=hat.three
  go_enter Tryz.func316,Tryz.ntmps316
  have hl:=hsl.len
  have he : e≤100000:=by omega
  obtain ⟨a,c,rfl⟩:=hsl.shape
  go_wp2
  go_quiet (fail)
  go_wp2
  go_ret
  exact ⟨ret_int (by simp),_,rfl⟩
theorem RingC.cell {w : World} {F : Nat→Prop} {g r : Nat} {a : Option Addr} {n c : Nat} {e : Nat} {xs : List Value} (h : RingC w F g r (.slice a n c) e xs) (k : Nat) (hk : k<xs.length) : n=xs.length∧∃ b off,a=some ⟨b,off,none⟩∧w.cell? ⟨b,off+k,none⟩=xs[k]?∧w.frozen? ⟨b,off+k,none⟩=false∧F b∧b≠g∧b<w.heap.size:=by
  obtain ⟨h1,h2⟩:=h.sl
  rcases h2 with ⟨_,h0⟩|⟨b,off,cap,e0,_,hb,hn,_,h3,h4⟩
  · omega
  · cases e0
    obtain ⟨hf,hne⟩:=h.own.2.2 b rfl
    exact ⟨rfl,b,off,rfl,h3 k (by omega),(h4 k (by omega)).2,hf,hne,hb⟩
theorem ri_push_room (F : Nat→Prop) (g r : Nat) (l : List Value) (x : Int) (w : World) (h : Ring w F g r l) (hl : l.length<r) (h2 : r≤100000) :
    Calls Tryz.prog 312 #[.pointer (some ⟨g,0,none⟩),.int .i64 x] w fun z w'=>z = .returned (.tuple #[.int .i64 0,.bool false])∧RPush F g r (l++[.int .i64 x]) w w':=by
  obtain ⟨v,e,xs,h,rfl⟩:=h
  rw [view_len] at hl
  obtain ⟨a,c,rfl⟩:=h.sl.shape
  have hm:=h.sl.len
  have he:=h.first hl
  subst he
  obtain ⟨hg,c0,z0,c1,z1,c2,z2⟩:=h.at_.three
  obtain ⟨i0,hi0,hz0,hz1,hz2⟩:=info_parts info_int
  go_enter Tryz.func312,Tryz.ntmps312
  go_wp2
  go_quiet (fail)
  have hs:=h.sl
  go_wp2_with (at_builtin;refine wpList_append_sl _ rfl (.tmp 20) (.tmp 22) 106 106 rfl 3 i0 (.int .i64 0) 8 Tryz.underlying106 hi0 hz0 hz1 hz2 rfl rfl ((hs.drewN _).alloc _) _ 1 [.int .i64 x] rfl (src_oneN Tryz.underlying106 _ (.int .i64 x) _ _ (by simp) rfl) (by unfold maxLen;omega) (by omega) (by simp) ?_;intro v1 w1 k1 k2 k3;have hu:=((Upd.refl (fun _=>False) w).drewN nq).alloc (.cells #[.int .i64 x] 3);obtain ⟨hg1,d0,y0,d1,y1,d2,y2⟩:=(ring_put h hu k2).three;obtain ⟨av,cv,rfl⟩:=k1.shape)
  go_wp2
  go_ret2
  exact ⟨rfl,ring_push_room h hl hu k1 k2 k3⟩
theorem ri_push_full (F : Nat→Prop) (g r : Nat) (l : List Value) (x : Int) (y : Value) (w : World) (h : Ring w F g r l) (hl : l.length=r) (hy : l[0]? = some y) (h2 : r≤100000) :
    Calls Tryz.prog 312 #[.pointer (some ⟨g,0,none⟩),.int .i64 x] w fun z w'=>z = .returned (.tuple #[y,.bool true])∧RPush F g r (l.drop 1++[.int .i64 x]) w w':=by
  obtain ⟨v,e,xs,h,rfl⟩:=h
  rw [view_len] at hl
  subst hl
  obtain ⟨a,c,rfl⟩:=h.sl.shape
  have hm:=h.sl.len
  have hr1:=h.one
  have hxs : 0<xs.length:=by omega
  have he : e<xs.length:=by have:=h.eld;omega
  obtain ⟨_,b,off,rfl,cb,zb,hf,hne,hb⟩:=h.cell e he
  rw [view_head e xs he] at hy
  rw [hy] at cb
  obtain ⟨hg,c0,z0,c1,z1,c2,z2⟩:=h.at_.three
  go_enter Tryz.func312,Tryz.ntmps312
  go_wp2
  go_quiet (fail)
  obtain ⟨n1,e1⟩ : ∃ n,n=nq:=⟨nq,rfl⟩
  subst e1
  go_wp2
  go_quiet (fail)
  go_wp2
  have hC:=(h.drewN n1).drewN nq
  have cb' : ((w.drewN n1).drewN nq).cell? ⟨b,off+e,none⟩=some y:=cb
  have hu0 : Upd (fun _=>False) w ((w.drewN n1).drewN nq):=((Upd.refl _ w).drewN _).drewN _
  clear c0 c1 c2 z0 z1 z2 cb zb hg
  generalize (w.drewN n1).drewN nq=w2 at *
  obtain ⟨hg,c0,z0,c1,z1,c2,z2⟩:=hC.at_.three
  obtain ⟨_,b',off',hb',cb,zb,_⟩:=hC.cell e he
  cases hb'
  have HS:=hC.at_
  go_region
  obtain ⟨hC3,hu3⟩:=ring_over hC hu0 he (.int .i64 x)
  have hC3:=hC3.drewN 1
  have hu3:=hu3.drew
  change RingC (w2.setCell ⟨b,off+e,none⟩ (.int .i64 x)).drew F g xs.length _ e _ at hC3
  generalize (w2.setCell ⟨b,off+e,none⟩ (.int .i64 x)).drew=w3 at *
  have HP:=Lib.hid (ri_place F g xs.length _ e _ 1 1 rfl w3 hC3 (by omega) (by simp;omega) h2)
  go_wp2_with (go_at_call 316;go_loud (refine HP.out.mono ?_);rintro z w4 ⟨rfl,n4,rfl⟩;have hC4:=hC3.drewN n4;obtain ⟨hg4,d0,y0,d1,y1,d2,y2⟩:=hC4.at_.three)
  go_wp2
  go_ret2
  exact ⟨rfl,ring_push_full hC4 (hu3.drewN n4) h hxs _ (by simp)⟩
theorem ri_push (F : Nat→Prop) (g r : Nat) (L : List Int) (x gone : Int) (is : Bool) (w : World) (h : Ring w F g r (iv L)) (h2 : r≤100000) (hg : (L.length<r∧gone=0∧is=false)∨(r≤L.length∧L[0]? = some gone∧is=true)) :
    Calls Tryz.prog 312 #[.pointer (some ⟨g,0,none⟩),.int .i64 x] w fun z w'=>z = .returned (.tuple #[.int .i64 gone,.bool is])∧RPush F g r (iv (push r L x)) w w':=by
  unfold push
  rcases hg with ⟨h1,rfl,rfl⟩|⟨h1,h3,rfl⟩
  · rw [if_pos h1,iv_snoc]
    exact ri_push_room F g r (iv L) x w h (by rw [iv_len];exact h1) h2
  · rw [if_neg (by omega),iv_snoc,iv_drop]
    have hle:=h.len
    rw [iv_len] at hle
    exact ri_push_full F g r (iv L) x (.int .i64 gone) w h (by rw [iv_len];omega) (by simp [iv,h3]) h2
end Go.Proofs.YtmimfkhkilijcaaGreatDoor
