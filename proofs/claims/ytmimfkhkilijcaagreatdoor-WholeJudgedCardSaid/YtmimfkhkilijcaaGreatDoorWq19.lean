/- KH5: what is reached of them. -/
import Derived.Test.YtmimfkhkilijcaaGreatDoorWq18
set_option linter.unusedVariables false
set_option linter.unusedSimpArgs false
set_option maxRecDepth 100000
set_option maxHeartbeats 8000000
namespace Go.Proofs.YtmimfkhkilijcaaGreatDoor
open Go.ChangeShapes Go.WideShapes Go.ChangeAt Go.RowKit
open PHist
structure Pre where
  a : Value
  b : Value
  c : Value
  d : Value
  e : Value
theorem At.six {w : World} {g : Nat} {a b c d e v m : Value} (h : At w g [a,b,c,d,e,v,m]) : g<w.heap.size∧w.cell? ⟨g,5,none⟩=some v∧w.frozen? ⟨g,5,none⟩=false∧w.cell? ⟨g,6,none⟩=some m∧w.frozen? ⟨g,6,none⟩=false :=
  ⟨h.1,(h.2 5 (by simp)).1,(h.2 5 (by simp)).2,(h.2 6 (by simp)).1,(h.2 6 (by simp)).2⟩
structure HistCP (w : World) (F : Nat→Prop) (P : Pre) (g : Nat) (v : Value) (m : Nat) (rs : List NR) : Prop where
  at_ : At w g [P.a,P.b,P.c,P.d,P.e,v,.int .i64 m]
  sl : Sl 0 w 2 v rs.length (hv rs)
  own : F g∧(∀ k,F k→k<w.heap.size)∧∀ k,v.ownBlock=some k→F k∧k≠g
theorem HistCP.upd {S : Nat→Prop} {w w' : World} {F : Nat→Prop} {P : Pre} {g : Nat} {v : Value} {m : Nat} {rs : List NR} (h : HistCP w F P g v m rs) (hu : Upd S w w') (hn : ∀ k,F k→¬ S k) : HistCP w' F P g v m rs :=
  ⟨h.at_.upd hu (hn g h.own.1),h.sl.upd hu (fun k hk=>hn k (h.own.2.2 k hk).1),⟨h.own.1,fun k hk=>Nat.lt_of_lt_of_le (h.own.2.1 k hk) hu.size,h.own.2.2⟩⟩
theorem HistCP.below {w w' : World} {F : Nat→Prop} {P : Pre} {g : Nat} {v : Value} {m : Nat} {rs : List NR} (h : HistCP w F P g v m rs) (hb : Below w.heap.size w w') : HistCP w' F P g v m rs :=
  h.upd (S:=fun k=>w.heap.size≤k) (Upd.of_below hb (fun _ _ h=>h)) (fun k hk=>by have:=h.own.2.1 k hk;omega)
theorem HistCP.drewN {w : World} {F : Nat→Prop} {P : Pre} {g : Nat} {v : Value} {m : Nat} {rs : List NR} (h : HistCP w F P g v m rs) (n : Nat) : HistCP (w.drewN n) F P g v m rs:=h.upd (upd_drewN w n) (fun _ _ h=>h)
theorem HistCP.cell {w : World} {F : Nat→Prop} {P : Pre} {g : Nat} {a : Option Addr} {n c m : Nat} {rs : List NR} (h : HistCP w F P g (.slice a n c) m rs) (k : Nat) (hk : k<rs.length) :
    n=rs.length∧∃ b off,a=some ⟨b,off,none⟩∧w.cell? ⟨b,off+k*2,none⟩=some (.int .i64 rs[k].1)∧w.cell? ⟨b,off+k*2+1,none⟩=some (.int .i64 (rs[k].2 : Int))∧w.frozen? ⟨b,off+k*2,none⟩=false∧w.frozen? ⟨b,off+k*2+1,none⟩=false∧F b∧b≠g∧b<w.heap.size:=by
  obtain ⟨h1,h2⟩:=h.sl
  rcases h2 with ⟨_,h0⟩|⟨b,off,cap,e0,_,hb,hn,_,h3,h4⟩
  · omega
  · cases e0
    obtain ⟨hf,hne⟩:=h.own.2.2 b rfl
    obtain ⟨x1,x2⟩:=hv_at rs k hk
    refine ⟨rfl,b,off,rfl,(h3 (k*2) (by omega)).trans x1,?_,(h4 (k*2) (by omega)).2,?_,hf,hne,hb⟩
    · rw [Nat.add_assoc];exact (h3 (k*2+1) (by omega)).trans x2
    · rw [Nat.add_assoc];exact (h4 (k*2+1) (by omega)).2
theorem hi_place1P (F : Nat→Prop) (P : Pre) (g : Nat) (v : Value) (m : Nat) (rs : List NR) (n : Int) (i : Nat) (w : World) (h : HistCP w F P g v m rs) (hi : i<rs.length) (G : Nat) (hG : At w G [.pointer (some ⟨g,5,none⟩)]) (hG1 : At w (G+1) [.int .i64 n]) (hm : rs.length≤1000) :
    Calls Tryz.prog 321 #[.int .i64 i,.pointer (some ⟨G,0,none⟩),.pointer (some ⟨G+1,0,none⟩)] w fun e w'=>e = .returned (.bool (decide (n≤rs[i].1)))∧∃ q,w'=w.drewN q:=by
  obtain ⟨a,c,rfl⟩:=h.sl.shape
  obtain ⟨_,b,off,rfl,c0,c1,z0,z1,hf,hne,hb⟩:=h.cell i hi
  obtain ⟨hg,p0,q0,p1,q1⟩:=h.at_.six
  obtain ⟨hg2,r0,s0⟩:=hG.one
  obtain ⟨hg3,r1,s1⟩:=hG1.one
  clear h hG hG1
  generalize rs[i]=z at *
  go_enter Tryz.func321,Tryz.ntmps321
  go_wp2
  go_quiet (fail)
  go_wp2
  go_ret
  exact ⟨rfl,_,rfl⟩
def boxedP (g : Nat) (n : Int) (w : World) : World:=(w.alloc (.cells #[.pointer (some ⟨g,5,none⟩)] 365)).alloc (.cells #[.int .i64 n] 3)
theorem boxed_updP (g : Nat) (n : Int) (w : World) : Upd (fun _=>False) w (boxedP g n w):=((Upd.refl _ w).alloc _).alloc _
theorem boxed_atP (g : Nat) (n : Int) (w : World) : At (boxedP g n w) w.heap.size [.pointer (some ⟨g,5,none⟩)]∧At (boxedP g n w) (w.heap.size+1) [.int .i64 n]:=by
  refine ⟨(At.alloc w [.pointer (some ⟨g,5,none⟩)] 365).upd (S:=fun _=>False) ((Upd.refl _ _).alloc _) id,?_⟩
  have:=At.alloc (w.alloc (.cells #[.pointer (some ⟨g,5,none⟩)] 365)) [.int .i64 n] 3
  unfold boxedP
  simpa using this
theorem boxed_searchP (F : Nat→Prop) (P : Pre) (g : Nat) (v : Value) (m : Nat) (rs : List NR) (n : Int) (i : Nat) (w : World) (h : HistCP w F P g v m rs) (hp : Place rs n i) (hm : rs.length≤1000) :
    Calls Tryz.prog 320 #[.int .i64 rs.length,.func (.func 321) #[] #[.pointer (some ⟨w.heap.size,0,none⟩),.pointer (some ⟨w.heap.size+1,0,none⟩)]] (boxedP g n w) fun e w'=>e = .returned (.int .i64 i)∧∃ q,w'=(boxedP g n w).drewN q:=by
  obtain ⟨b1,b2⟩:=place_bools hp
  refine so_search _ rs.length i (fun t=>decide (n≤(rs.getD t (0,0)).1)) _ hm hp.1 b1 b2 (fun k t ht=>?_)
  obtain ⟨a1,a2⟩:=boxed_atP g n w
  have:=hi_place1P F P g v m rs n t ((boxedP g n w).drewN k) ((h.upd (boxed_updP g n w) (fun _ _ h=>h)).drewN k) ht w.heap.size (a1.drewN k) (a2.drewN k) hm
  rw [getD_at _ _ _ ht]
  exact this
theorem hi_place_hitP (F : Nat→Prop) (P : Pre) (g : Nat) (v : Value) (m : Nat) (rs : List NR) (n : Int) (i : Nat) (w : World) (h : HistCP w F P g v m rs) (hp : Place rs n i) (hi : i<rs.length) (hn : rs[i].1=n) (hm : rs.length≤1000) :
    Calls Tryz.prog 317 #[.pointer (some ⟨g,5,none⟩),.int .i64 n] w fun e w'=>e = .returned (.tuple #[.int .i64 i,.bool true])∧Below w.heap.size w w':=by
  have HS:=Lib.hid (boxed_searchP F P g v m rs n i w h hp hm)
  obtain ⟨a,c,rfl⟩:=h.sl.shape
  have hb:=h.upd (boxed_updP g n w) (fun _ _ h=>h)
  obtain ⟨a1,a2⟩:=boxed_atP g n w
  have hB : Below w.heap.size w (boxedP g n w):=(boxed_updP g n w).below (Nat.le_refl _) (fun _ _ h=>h.elim)
  obtain ⟨hg0,p0',q0',p1',q1'⟩:=h.at_.six
  obtain ⟨W0,hW0⟩ : ∃ W0,W0=boxedP g n w:=⟨_,rfl⟩
  rw [← hW0] at HS hb hB a1 a2
  unfold boxedP at hW0
  have HW0:=Lib.hid hW0
  clear hW0
  obtain ⟨_,b,off,rfl,c0,c1,z0,z1,hf,hne,hbb⟩:=hb.cell i hi
  rw [hn] at c0
  obtain ⟨hg,p0,q0,p1,q1⟩:=hb.at_.six
  obtain ⟨hg2,r0,s0⟩:=a1.one
  obtain ⟨hg3,r1,s1⟩:=a2.one
  clear a1 a2 hb hn h
  have hii : (i : Int)<(rs.length : Int):=by omega
  have hnn : (n == n)=true:=by simp
  go_enter Tryz.func317,Tryz.ntmps317
  go_wp2_with (go_at_call 320;rw [← HW0.out];refine HS.out.mono ?_;rintro e w' ⟨rfl,nq,rfl⟩)
  go_quiet (fail)
  go_wp2
  go_ret2
  exact ⟨rfl,below_drewN (below_drewN hB _) _⟩
theorem hi_place_missP (F : Nat→Prop) (P : Pre) (g : Nat) (v : Value) (m : Nat) (rs : List NR) (n : Int) (i : Nat) (w : World) (h : HistCP w F P g v m rs) (hp : Place rs n i) (hn : ∀ hi : i<rs.length,rs[i].1≠n) (hm : rs.length≤1000) :
    Calls Tryz.prog 317 #[.pointer (some ⟨g,5,none⟩),.int .i64 n] w fun e w'=>e = .returned (.tuple #[.int .i64 i,.bool false])∧Below w.heap.size w w':=by
  have HS:=Lib.hid (boxed_searchP F P g v m rs n i w h hp hm)
  obtain ⟨a,c,rfl⟩:=h.sl.shape
  have hb:=h.upd (boxed_updP g n w) (fun _ _ h=>h)
  obtain ⟨a1,a2⟩:=boxed_atP g n w
  have hB : Below w.heap.size w (boxedP g n w):=(boxed_updP g n w).below (Nat.le_refl _) (fun _ _ h=>h.elim)
  obtain ⟨hg0,p0',q0',p1',q1'⟩:=h.at_.six
  obtain ⟨W0,hW0⟩ : ∃ W0,W0=boxedP g n w:=⟨_,rfl⟩
  rw [← hW0] at HS hb hB a1 a2
  unfold boxedP at hW0
  have HW0:=Lib.hid hW0
  clear hW0
  have hp0:=hp.1
  obtain ⟨hg,p0,q0,p1,q1⟩:=hb.at_.six
  obtain ⟨hg2,r0,s0⟩:=a1.one
  obtain ⟨hg3,r1,s1⟩:=a2.one
  by_cases hi : i<rs.length
  · obtain ⟨_,b,off,rfl,c0,c1,z0,z1,hf,hne,hbb⟩:=hb.cell i hi
    have hn':=hn hi
    clear a1 a2 hb hn h hp
    have hii : (i : Int)<(rs.length : Int):=by omega
    generalize rs[i].1=z at *
    have hnn : (z == n)=false:=by simpa using hn'
    go_enter Tryz.func317,Tryz.ntmps317
    go_wp2_with (go_at_call 320;rw [← HW0.out];refine HS.out.mono ?_;rintro e w' ⟨rfl,nq,rfl⟩)
    go_quiet (fail)
    go_wp2
    go_ret2
    exact ⟨rfl,below_drewN (below_drewN hB _) _⟩
  · clear a1 a2 hb hn h hp
    have hii : decide ((i : Int)<(rs.length : Int))=false:=by simp;omega
    go_enter Tryz.func317,Tryz.ntmps317
    go_wp2_with (go_at_call 320;rw [← HW0.out];refine HS.out.mono ?_;rintro e w' ⟨rfl,nq,rfl⟩)
    go_quiet (fail)
    go_wp2
    go_ret2
    exact ⟨rfl,below_drewN (below_drewN hB _) _⟩
theorem hist_tickP {w : World} {F : Nat→Prop} {P : Pre} {g b off n c m : Nat} {rs : List NR} (h : HistCP w F P g (.slice (some ⟨b,off,none⟩) n c) m rs) (hn : n=rs.length) (i : Nat) (hi : i<rs.length) (t' m' : Nat) (zt zm : Int) (hzt : zt=t') (hzm : zm=m') :
    HistCP ((w.setCell ⟨b,off+i*2+1,none⟩ (.int .i64 zt)).setCell ⟨g,6,none⟩ (.int .i64 zm)) F P g (.slice (some ⟨b,off,none⟩) n c) m' (rs.set i (rs[i].1,t'))∧Upd F w ((w.setCell ⟨b,off+i*2+1,none⟩ (.int .i64 zt)).setCell ⟨g,6,none⟩ (.int .i64 zm)):=by
  subst hzt hzm hn
  obtain ⟨hf,hne⟩:=h.own.2.2 b rfl
  have hs:=h.sl.put (i*2+1) (.int .i64 (t' : Int)) (by omega)
  rw [hv_set rs i hi,← Nat.add_assoc] at hs
  have hu1 : Upd (fun k=>k=b) w (w.setCell ⟨b,off+i*2+1,none⟩ (.int .i64 t')):=(Upd.refl (fun k=>k=b) w).setCell (p:=⟨b,off+i*2+1,none⟩) (fun _=>rfl) _
  have hat:=(h.at_.upd hu1 (fun e=>hne e.symm))
  have hat2:=hat.set 6 (by simp) (.int .i64 (m' : Int))
  have hu2 : Upd (fun k=>k=g) (w.setCell ⟨b,off+i*2+1,none⟩ (.int .i64 t')) ((w.setCell ⟨b,off+i*2+1,none⟩ (.int .i64 t')).setCell ⟨g,6,none⟩ (.int .i64 m')):=(Upd.refl (fun k=>k=g) _).setCell (p:=⟨g,6,none⟩) (fun _=>rfl) _
  have hu:=hu1.cat (S:=F) hu2 (fun k _ hk=>by subst hk;exact hf) (fun k _ hk=>by subst hk;exact h.own.1)
  refine ⟨⟨by simpa using hat2,?_,⟨h.own.1,fun k hk=>Nat.lt_of_lt_of_le (h.own.2.1 k hk) hu.size,h.own.2.2⟩⟩,hu⟩
  rw [List.length_set]
  exact hs.upd hu2 (fun k hk e=>by
    have : b=k:=by simpa [Value.ownBlock] using hk
    omega)
theorem hist_rowP {w w0 w1 : World} {F : Nat→Prop} {P : Pre} {g m : Nat} {v v' : Value} {rs rs' : List NR} (h : HistCP w F P g v m rs) (hu : Upd (fun k=>w.heap.size≤k) w w0) (hp : InsPost v rs' w0 v' w1) :
    HistCP (w1.setCell ⟨g,5,none⟩ v') (fun k=>k=g∨v'.ownBlock=some k) P g v' m rs'∧Upd F w (w1.setCell ⟨g,5,none⟩ v')∧(∀ k,(k=g∨v'.ownBlock=some k)→F k∨w.heap.size≤k)∧At w1 g [P.a,P.b,P.c,P.d,P.e,v,.int .i64 m]:=by
  obtain ⟨p1,p2,p3⟩:=hp
  have hg:=h.at_.1
  have hat : At w1 g [P.a,P.b,P.c,P.d,P.e,v,.int .i64 m]:=(h.at_.upd hu (by omega)).upd p2 (fun hk=>(h.own.2.2 g hk).2 rfl)
  have hne : ∀ k,v'.ownBlock=some k→k≠g:=fun k hk=>by
    rcases p3 k hk with h1|h1
    · exact (h.own.2.2 k h1).2
    · have:=hu.size;omega
  have hset : Upd (fun k=>k=g) w1 (w1.setCell ⟨g,5,none⟩ v'):=(Upd.refl (fun k=>k=g) w1).setCell (p:=⟨g,5,none⟩) (fun _=>rfl) v'
  have hsz:=hset.size
  have hg1:=hat.1
  refine ⟨⟨by simpa using hat.set 5 (by simp) v',p1.upd hset (fun k hk=>hne k hk),⟨.inl rfl,fun k hk=>?_,fun k hk=>⟨.inr hk,hne k hk⟩⟩⟩,?_,fun k hk=>?_,hat⟩
  · rcases hk with rfl|hk
    · omega
    · have:=(p1.lt k hk).2;omega
  · exact (hu.cat (S:=F) (p2.cat (S:=F) hset (fun k _ hk=>(h.own.2.2 k hk).1) (fun k _ hk=>by subst hk;exact h.own.1)) (fun k hk hk'=>by omega) (fun _ _ h=>h))
  · rcases hk with rfl|hk
    · exact .inl h.own.1
    · rcases p3 k hk with h1|h1
      · exact .inl (h.own.2.2 k h1).1
      · have:=hu.size;exact .inr (by omega)
def HPostP (F : Nat→Prop) (P : Pre) (g m : Nat) (rs : List NR) (w w' : World) : Prop:=∃ F' v',HistCP w' F' P g v' m rs∧Upd F w w'∧∀ k,F' k→F k∨w.heap.size≤k
theorem hi_add_hitP (F : Nat→Prop) (P : Pre) (g : Nat) (v : Value) (m : Nat) (rs : List NR) (n : Int) (i : Nat) (w : World) (h : HistCP w F P g v m rs) (hp : Place rs n i) (hi : i<rs.length) (hn : rs[i].1=n) (hm : rs.length≤1000) (hm2 : m≤1000) (ht : rs[i].2≤1000) :
    Calls Tryz.prog 314 #[.pointer (some ⟨g,5,none⟩),.int .i64 n] w fun e w'=>e = .returned (.tuple #[])∧HPostP F P g (m+1) (rs.set i (n,rs[i].2+1)) w w':=by
  have HP:=Lib.hid (hi_place_hitP F P g v m rs n i w h hp hi hn hm)
  have hii : (i : Int)<(rs.length : Int):=by omega
  go_enter Tryz.func314,Tryz.ntmps314
  go_wp2_with (go_at_call 317;refine HP.out.mono ?_;rintro e w1 ⟨rfl,b1⟩;have h1:=h.below b1;obtain ⟨a,c,rfl⟩:=h.sl.shape;obtain ⟨_,b,off,rfl,c0,c1,z0,z1,hf,hne,hbb⟩:=h1.cell i hi;obtain ⟨hg,p0,q0,p1,q1⟩:=h1.at_.six;have hne2:=Ne.symm hne)
  go_end0
  have hT:=hist_tickP h1 rfl i hi (rs[i].2+1) (m+1) _ _ rfl rfl
  rw [hn] at hT
  exact ⟨rfl,F,_,by simpa using hT.1,by simpa using (Upd.of_below b1 (S:=F) (fun k hk hk'=>by omega)).cat hT.2 (fun _ _ h=>h) (fun _ _ h=>h),fun k hk=>.inl hk⟩
theorem ins_cellsP {w1 u : World} {F : Nat→Prop} {P : Pre} {g m N c : Nat} {a : Option Addr} {rs : List NR} (i : Nat) (n : Int) (hi : i≤rs.length) (h : Sl 0 w1 2 (.slice a N c) (rs.take i++(n,0)::rs.drop i).length (hv (rs.take i++(n,0)::rs.drop i))) (hC : HistCP u F P g (.slice a N c) m (rs.take i++(n,0)::rs.drop i)) :
    (rs.take i++(n,0)::rs.drop i).length=rs.length+1∧∃ b off,a=some ⟨b,off,none⟩∧w1.cell? ⟨b,off+i*2,none⟩=some (.int .i64 n)∧w1.cell? ⟨b,off+i*2+1,none⟩=some (.int .i64 0)∧w1.frozen? ⟨b,off+i*2,none⟩=false∧w1.frozen? ⟨b,off+i*2+1,none⟩=false∧F b∧b≠g∧b<w1.heap.size:=by
  have hl : (rs.take i++(n,0)::rs.drop i).length=rs.length+1:=by simp;omega
  have hlt : (rs.take i).length=i:=by rw [List.length_take];omega
  have hget : (rs.take i++(n,0)::rs.drop i)[i]'(by omega)=(n,0):=by
    rw [List.getElem_append_right (by omega)]
    simp [hlt]
  refine ⟨hl,?_⟩
  obtain ⟨h1,h2⟩:=h
  rcases h2 with ⟨_,h0⟩|⟨b,off,cap,e0,_,hb,hn,_,h3,h4⟩
  · omega
  · cases e0
    obtain ⟨hf,hne⟩:=hC.own.2.2 b rfl
    obtain ⟨x1,x2⟩:=hv_at _ i (show i<(rs.take i++(n,0)::rs.drop i).length by omega)
    rw [hget] at x1 x2
    refine ⟨b,off,rfl,(h3 (i*2) (by omega)).trans x1,?_,(h4 (i*2) (by omega)).2,?_,hf,hne,hb⟩
    · rw [Nat.add_assoc];exact (h3 (i*2+1) (by omega)).trans x2
    · rw [Nat.add_assoc];exact (h4 (i*2+1) (by omega)).2
theorem hi_add_missP (F : Nat→Prop) (P : Pre) (g : Nat) (v : Value) (m : Nat) (rs : List NR) (n : Int) (i : Nat) (w : World) (h : HistCP w F P g v m rs) (hp : Place rs n i) (hn : ∀ hi : i<rs.length,rs[i].1≠n) (hm : rs.length≤900) (hm2 : m≤1000) :
    Calls Tryz.prog 314 #[.pointer (some ⟨g,5,none⟩),.int .i64 n] w fun e w'=>e = .returned (.tuple #[])∧HPostP F P g (m+1) (rs.take i++(n,1)::rs.drop i) w w':=by
  have HP:=Lib.hid (hi_place_missP F P g v m rs n i w h hp hn (by omega))
  have hin:=hp.1
  go_enter Tryz.func314,Tryz.ntmps314
  go_wp2_with (first|(go_at_call 317;refine HP.out.mono ?_;rintro e w1 ⟨rfl,b1⟩;have h1:=h.below b1;obtain ⟨a,c,rfl⟩:=h.sl.shape;obtain ⟨hg,p0,q0,p1,q1⟩:=h1.at_.six)|(go_at_call 319;refine (hi_insert _ rs i n w1.heap.size _ (h1.sl.alloc (.cells #[.int .i64 n,.int .i64 0] 367)) (At.alloc w1 [.int .i64 n,.int .i64 0] 367) (fun hk=>by have:=(h1.sl.lt _ hk).2;omega) hin (by omega) (heap_alloc_new w1 _)).mono ?_;rintro e w3 ⟨v',rfl,hins⟩;obtain ⟨av,cv,rfl⟩:=hins.1.shape;obtain ⟨hC,hU,hF',hat3⟩:=hist_rowP h1 ((Upd.refl (fun k=>w1.heap.size≤k) w1).alloc (.cells #[.int .i64 n,.int .i64 0] 367)) hins;obtain ⟨hg3,d0,y0,d1,y1⟩:=hat3.six;obtain ⟨hlen3,b3,o3,rfl,x0,x1,z0,z1,hf3,hne3,hb3⟩:=ins_cellsP i n hin hins.1 hC;have hne4:=Ne.symm hne3))
  go_end0
  have hT:=hist_tickP hC rfl i (by omega) 1 (m+1) _ _ rfl rfl
  rw [ins_set rs i n hin] at hT
  have hbw:=b1.size
  refine ⟨rfl,(fun k=>k=g∨(Value.slice (some ⟨b3,o3,none⟩) (rs.length+1) cv).ownBlock=some k),.slice (some ⟨b3,o3,none⟩) (rs.length+1) cv,by have:=hT.1;rw [hlen3] at this;simpa using this,?_,fun k hk=>(hF' k hk).imp id (fun h=>by omega)⟩
  have:=((Upd.of_below b1 (S:=F) (fun k hk hk'=>by omega)).cat hU (fun _ _ h=>h) (fun _ _ h=>h)).cat (S:=F) hT.2 (fun _ _ h=>h) (fun k hk hk'=>(hF' k hk').elim id (fun h=>by omega))
  rw [hlen3] at this
  simpa using this
theorem hi_rem_moreP (F : Nat→Prop) (P : Pre) (g : Nat) (v : Value) (m : Nat) (rs : List NR) (n : Int) (i : Nat) (w : World) (h : HistCP w F P g v m rs) (hp : Place rs n i) (hi : i<rs.length) (hn : rs[i].1=n) (hm : rs.length≤1000) (hm1 : 1≤m) (hm2 : m≤1000) (ht : rs[i].2≤1000) (ht2 : 2≤rs[i].2) :
    Calls Tryz.prog 313 #[.pointer (some ⟨g,5,none⟩),.int .i64 n] w fun e w'=>e = .returned (.bool true)∧HPostP F P g (m - 1) (rs.set i (n,rs[i].2 - 1)) w w':=by
  have HP:=Lib.hid (hi_place_hitP F P g v m rs n i w h hp hi hn hm)
  have hii : (i : Int)<(rs.length : Int):=by omega
  go_enter Tryz.func313,Tryz.ntmps313
  go_wp2_with (go_at_call 317;refine HP.out.mono ?_;rintro e w1 ⟨rfl,b1⟩;have h1:=h.below b1;obtain ⟨a,c,rfl⟩:=h.sl.shape;obtain ⟨_,b,off,rfl,c0,c1,z0,z1,hf,hne,hbb⟩:=h1.cell i hi;obtain ⟨hg,p0,q0,p1,q1⟩:=h1.at_.six;have hne2:=Ne.symm hne)
  go_ret
  have hT:=hist_tickP h1 rfl i hi (rs[i].2 - 1) (m - 1) _ _ (show (rs[i].2 : Int) - 1=_ by omega) (show (m : Int) - 1=_ by omega)
  rw [hn] at hT
  exact ⟨rfl,F,_,by simpa using hT.1,by simpa using (Upd.of_below b1 (S:=F) (fun k hk hk'=>by omega)).cat hT.2 (fun _ _ h=>h) (fun _ _ h=>h),fun k hk=>.inl hk⟩
theorem hi_rem_lastP (F : Nat→Prop) (P : Pre) (g : Nat) (v : Value) (m : Nat) (rs : List NR) (n : Int) (i : Nat) (w : World) (h : HistCP w F P g v m rs) (hp : Place rs n i) (hi : i<rs.length) (hn : rs[i].1=n) (hm : rs.length≤1000) (hm1 : 1≤m) (hm2 : m≤1000) (ht : rs[i].2=1) :
    Calls Tryz.prog 313 #[.pointer (some ⟨g,5,none⟩),.int .i64 n] w fun e w'=>e = .returned (.bool true)∧HPostP F P g (m - 1) (rs.take i++rs.drop (i+1)) w w':=by
  have HP:=Lib.hid (hi_place_hitP F P g v m rs n i w h hp hi hn hm)
  have hii : (i : Int)<(rs.length : Int):=by omega
  go_enter Tryz.func313,Tryz.ntmps313
  go_wp2_with (first|(go_at_call 317;refine HP.out.mono ?_;rintro e w1 ⟨rfl,b1⟩;have h1:=h.below b1;obtain ⟨a,c,rfl⟩:=h.sl.shape;obtain ⟨_,b,off,rfl,c0,c1,z0,z1,hf,hne,hbb⟩:=h1.cell i hi;rw [ht] at c1;obtain ⟨hg,p0,q0,p1,q1⟩:=h1.at_.six;have hne2:=Ne.symm hne;have hT:=hist_tickP h1 rfl i hi 0 (m - 1) 0 ((m : Int) - 1) rfl (by omega);have hTs:=hT.1.sl;rw [List.length_set] at hTs)|(go_at_call 318;refine (hi_deleteN b off c (rs.set i (rs[i].1,0)) rs.length (by simp) i _ hTs hi hm).mono ?_;rintro e w3 ⟨v',rfl,hdel⟩;rw [del_set rs i hi] at hdel;obtain ⟨hC,hU,hF',hat3⟩:=hist_rowP hT.1 (Upd.refl (fun k=>_≤k) _) hdel;obtain ⟨hg3,d0,y0,d1,y1⟩:=hat3.six;obtain ⟨av,N,cv,rfl⟩ : ∃ a N c,v'=Value.slice a N c:=(by obtain ⟨a,c,h⟩:=hdel.1.shape;exact ⟨a,_,c,h⟩)))
  go_ret
  have hbw:=b1.size
  have hsz:=hT.2.size
  refine ⟨rfl,_,_,hC,?_,fun k hk=>(hF' k hk).imp id (fun h=>by omega)⟩
  exact ((Upd.of_below b1 (S:=F) (fun k hk hk'=>by omega)).cat hT.2 (fun _ _ h=>h) (fun _ _ h=>h)).cat (S:=F) hU (fun _ _ h=>h) (fun _ _ h=>h)
theorem hi_rankP (F : Nat→Prop) (P : Pre) (g : Nat) (v : Value) (m : Nat) (rs : List NR) (k : Nat) (o : Option Int) (z : Int) (kz : Int) (hkz : kz=k) (w : World) (h : HistCP w F P g v m rs) (hk : 1≤k) (hk2 : k≤9223372036854775807) (ho : rk rs k=o) (hz : z=o.getD 0) : Calls Tryz.prog 315 #[.pointer (some ⟨g,5,none⟩),.int .i64 kz] w fun e w'=>e = .returned (.tuple #[.int .i64 z,.bool o.isSome])∧Below w.heap.size w w':=by
  subst hkz
  obtain ⟨a,c,rfl⟩:=h.sl.shape
  have HO:=Lib.hid ho
  have HZ:=Lib.hid hz
  clear ho hz
  obtain ⟨hg,p0,q0,p1,q1⟩:=h.at_.six
  have hlen:=h.sl.len
  unfold maxLen at hlen
  go_enter Tryz.func315,Tryz.ntmps315
  go_wp2
  go_loopw [1,15] (fun kx i wr=>∃ j k' : Nat,j≤rs.length∧i = .int .i64 j∧kx = .int .i64 k'∧1≤k'∧k'≤9223372036854775807∧Hid (rk rs k=rk (rs.drop j) k')∧Below w.heap.size w wr) (fun _ i _=>rs.length - (intOf i).toNat)
  case atStart=>exact ⟨0,k,Nat.zero_le _,rfl,rfl,hk,hk2,Lib.hid rfl,Below.refl _ _⟩
  case round =>
    obtain ⟨j,k',hj,rfl,rfl,hk1',hk2',hrk,hbw⟩:=hrel
    by_cases hlt : j<rs.length
    · have h1:=h.below hbw
      obtain ⟨_,b,off,rfl,c0,c1,z0,z1,hf,hne,hbb⟩:=h1.cell j hlt
      have hstep : rk (rs.drop j) k'=if k'≤rs[j].2 then some rs[j].1 else rk (rs.drop (j+1)) (k' - rs[j].2):=by rw [List.drop_eq_getElem_cons hlt];rfl
      have HST:=Lib.hid hstep
      clear hstep h h1
      generalize rs[j]=r at *
      obtain ⟨n,t⟩:=r
      simp only at c0 c1
      by_cases hkt : k'≤t
      · have ho : o=some n:=by rw [← HO.out,hrk.out,HST.out,if_pos hkt]
        subst ho
        go_wp2
        go_ret2
        refine ⟨?_,hbw.alloc hbw.size _⟩
        rw [HZ.out]
        rfl
      · have HD:=Lib.hid (show rk rs k=rk (rs.drop (j+1)) (k' - t) by rw [hrk.out,HST.out,if_neg hkt])
        go_wp2
        exact ⟨⟨j+1,k' - t,by omega,by go_num,by rw [show (k' : Int) - (t : Int)=((k' - t : Nat) : Int) by omega],by omega,by omega,HD,hbw.alloc hbw.size _⟩,by simp [intOf];omega⟩
    · have ho : o=none:=by rw [← HO.out,hrk.out,List.drop_of_length_le (by omega)];rfl
      subst ho
      go_wp2
      go_ret2
      refine ⟨?_,hbw⟩
      rw [HZ.out]
      rfl
theorem hi_percentP (F : Nat→Prop) (P : Pre) (g : Nat) (v : Value) (m : Nat) (rs : List NR) (p : Nat) (pz : Int) (hpz : pz=p) (o : Option Int) (z : Int) (w : World) (h : HistCP w F P g v m rs) (hp : p≤100) (hm : m≤1000) (ho : rk rs (PHist.prank m p)=o) (hz : z=o.getD 0) : Calls Tryz.prog 311 #[.pointer (some ⟨g,5,none⟩),.int .i64 pz] w fun e w'=>e = .returned (.tuple #[.int .i64 z,.bool o.isSome])∧Below w.heap.size w w':=by
  subst hpz
  have hpm : p*m≤100*1000:=Nat.mul_le_mul hp hm
  have hpm2 : (p : Int)*(m : Int)=((p*m : Nat) : Int):=by simp
  unfold PHist.prank at ho
  obtain ⟨q,hq⟩ : ∃ q,p*m=q:=⟨_,rfl⟩
  rw [hq] at hpm hpm2 ho
  clear hq
  have HR:=fun kz hkz=>Lib.hid (hi_rankP F P g v m rs (max 1 ((q+99) / 100)) o z kz hkz w h (by omega) (by omega) ho hz)
  obtain ⟨hg,p0,q0,p1,q1⟩:=h.at_.six
  clear ho hz
  by_cases h1 : 1≤((q : Int)+99) / 100
  · go_enter Tryz.func311,Tryz.ntmps311
    go_wp2_with (go_at_call 315;refine (HR _ (by omega)).out.mono ?_;rintro e w1 ⟨rfl,b1⟩)
    all_goals (go_ret2;exact ⟨rfl,b1⟩)
  · go_enter Tryz.func311,Tryz.ntmps311
    go_wp2_with (go_at_call 315;refine (HR _ (by omega)).out.mono ?_;rintro e w1 ⟨rfl,b1⟩)
    all_goals (go_ret2;exact ⟨rfl,b1⟩)
def HistLP (w : World) (F : Nat→Prop) (P : Pre) (g : Nat) (l : List Int) : Prop:=∃ v rs,HistCP w F P g v l.length rs∧Rows rs∧(expand rs).Perm l
def HLPostP (F : Nat→Prop) (P : Pre) (g : Nat) (l : List Int) (w w' : World) : Prop:=∃ F',HistLP w' F' P g l∧Upd F w w'∧∀ k,F' k→F k∨w.heap.size≤k
theorem HistLP.upd {S : Nat→Prop} {w w' : World} {F : Nat→Prop} {P : Pre} {g : Nat} {l : List Int} (h : HistLP w F P g l) (hu : Upd S w w') (hn : ∀ k,F k→¬ S k) : HistLP w' F P g l:=by
  obtain ⟨v,rs,h1,h2⟩:=h
  exact ⟨v,rs,h1.upd hu hn,h2⟩
theorem HistLP.lt {w : World} {F : Nat→Prop} {P : Pre} {g : Nat} {l : List Int} (h : HistLP w F P g l) : ∀ k,F k→k<w.heap.size:=by
  obtain ⟨v,rs,h1,h2⟩:=h
  exact h1.own.2.1
theorem HistLP.perm {w : World} {F : Nat→Prop} {P : Pre} {g : Nat} {l l' : List Int} (h : HistLP w F P g l) (hp : l.Perm l') : HistLP w F P g l':=by
  obtain ⟨v,rs,h1,h2,h3⟩:=h
  exact ⟨v,rs,hp.length_eq▸h1,h2,h3.trans hp⟩
theorem hl_addP (F : Nat→Prop) (P : Pre) (g : Nat) (l : List Int) (n : Int) (w : World) (h : HistLP w F P g l) (hl : l.length≤900) : Calls Tryz.prog 314 #[.pointer (some ⟨g,5,none⟩),.int .i64 n] w fun e w'=>e = .returned (.tuple #[])∧HLPostP F P g (n::l) w w':=by
  obtain ⟨v,rs,h1,⟨hs,hr⟩,hp⟩:=h
  obtain ⟨i,hpl⟩:=place_exists rs n hs
  have hle:=rows_le hr
  rw [hp.length_eq] at hle
  by_cases hit : ∃ hi : i<rs.length,rs[i].1=n
  · obtain ⟨hi,hn⟩:=hit
    have ht:=times_le (List.getElem_mem hi)
    rw [hp.length_eq] at ht
    refine (hi_add_hitP F P g v _ rs n i w h1 hpl hi hn (by omega) (by omega) (by omega)).mono ?_
    rintro e w' ⟨he,F',v',hC,hU,hF⟩
    refine ⟨he,F',⟨v',_,hC,⟨?_,fun r hr'=>?_⟩,(perm_more rs i hi n hn).trans (hp.cons n)⟩,hU,hF⟩
    · subst hn;exact rising_set hs i hi _
    · rcases List.mem_or_eq_of_mem_set hr' with h0|rfl
      · exact hr r h0
      · show 1≤rs[i].2+1;omega
  · have hn : ∀ hi : i<rs.length,rs[i].1≠n:=fun hi e=>hit ⟨hi,e⟩
    refine (hi_add_missP F P g v _ rs n i w h1 hpl hn (by omega) (by omega)).mono ?_
    rintro e w' ⟨he,F',v',hC,hU,hF⟩
    refine ⟨he,F',⟨v',_,hC,⟨rising_ins hs hpl hn 1,fun r hr'=>?_⟩,(perm_new rs i n).trans (hp.cons n)⟩,hU,hF⟩
    rcases List.mem_append.1 hr' with h0|h0
    · exact hr r (List.mem_of_mem_take h0)
    · rcases List.mem_cons.1 h0 with rfl|h0
      · exact Nat.le_refl _
      · exact hr r (List.mem_of_mem_drop h0)
theorem hl_remP (F : Nat→Prop) (P : Pre) (g : Nat) (l l' : List Int) (n : Int) (w : World) (h : HistLP w F P g l) (hl : l.length≤900) (hp' : (n::l').Perm l) : Calls Tryz.prog 313 #[.pointer (some ⟨g,5,none⟩),.int .i64 n] w fun e w'=>e = .returned (.bool true)∧HLPostP F P g l' w w':=by
  obtain ⟨v,rs,h1,⟨hs,hr⟩,hp⟩:=h
  obtain ⟨i,hpl⟩:=place_exists rs n hs
  have hle:=rows_le hr
  rw [hp.length_eq] at hle
  have hmem : n∈expand rs:=(hp.trans hp'.symm).mem_iff.2 (List.mem_cons_self ..)
  obtain ⟨hi,hn⟩:=(place_mem hpl hs hr).1 hmem
  have hlen:=hp'.length_eq
  rw [List.length_cons] at hlen
  have ht:=times_le (List.getElem_mem hi)
  have ht1:=hr _ (List.getElem_mem hi)
  rw [hp.length_eq] at ht
  by_cases h2 : rs[i].2=1
  · refine (hi_rem_lastP F P g v _ rs n i w h1 hpl hi hn (by omega) (by omega) (by omega) h2).mono ?_
    rintro e w' ⟨he,F',v',hC,hU,hF⟩
    refine ⟨he,F',⟨v',_,by rw [show l'.length=l.length - 1 by omega];exact hC,⟨rising_del hs i,fun r hr'=>?_⟩,List.Perm.cons_inv ((perm_gone rs i hi n hn h2).trans (hp.trans hp'.symm))⟩,hU,hF⟩
    rcases List.mem_append.1 hr' with h0|h0
    · exact hr r (List.mem_of_mem_take h0)
    · exact hr r (List.mem_of_mem_drop h0)
  · refine (hi_rem_moreP F P g v _ rs n i w h1 hpl hi hn (by omega) (by omega) (by omega) (by omega) (by omega)).mono ?_
    rintro e w' ⟨he,F',v',hC,hU,hF⟩
    refine ⟨he,F',⟨v',_,by rw [show l'.length=l.length - 1 by omega];exact hC,⟨?_,fun r hr'=>?_⟩,List.Perm.cons_inv ((perm_less rs i hi n hn ht1).trans (hp.trans hp'.symm))⟩,hU,hF⟩
    · subst hn;exact rising_set hs i hi _
    · rcases List.mem_or_eq_of_mem_set hr' with h0|rfl
      · exact hr r h0
      · show 1≤rs[i].2 - 1;omega
theorem hl_percentP (F : Nat→Prop) (P : Pre) (g : Nat) (l : List Int) (p : Nat) (pz : Int) (hpz : pz=p) (o : Option Int) (z : Int) (b : Bool) (w : World) (h : HistLP w F P g l) (hl : l.length≤900) (hp : p≤100) (ho : (srt l)[prank l.length p - 1]? = o) (hz : z=o.getD 0) (hb : b=o.isSome) : Calls Tryz.prog 311 #[.pointer (some ⟨g,5,none⟩),.int .i64 pz] w fun e w'=>e = .returned (.tuple #[.int .i64 z,.bool b])∧Below w.heap.size w w':=by
  subst hb
  obtain ⟨v,rs,h1,h2,hpm⟩:=h
  exact hi_percentP F P g v _ rs p pz hpz o z w h1 hp (by omega) (by rw [rk_srt h2 hpm _ (by unfold prank;omega)];exact ho) hz
end Go.Proofs.YtmimfkhkilijcaaGreatDoor
