/- KGen: what is reached of them. -/
import Derived.Test.YtmimfkhkilijcaaGreatDoorPq15
import Derived.Test.YtmimfkhkilijcaaGreatDoorPq18
import Derived.Test.YtmimfkhkilijcaaGreatDoorPq16
import Derived.Test.YtmimfkhkilijcaaGreatDoorPq09
import Derived.Test.YtmimfkhkilijcaaGreatDoorPq17
set_option linter.unusedVariables false
set_option linter.unusedSimpArgs false
set_option maxRecDepth 100000
set_option maxHeartbeats 8000000
namespace Go.Proofs.YtmimfkhkilijcaaGreatDoor
open Go.ChangeShapes Go.WideShapes Go.ChangeAt Go.RowKit
open PHist PRing PSat PClamp PBound PFrame PSign
def times (l : List R) : List Int:=l.map fun r=>r.2.1
def saysR (n : Int) (r : R) : Bool:=says r.1 (bstr r.2.2) n
def said (n : Int) (l : List R) : List Int:=(l.filter (saysR n)).map fun r=>r.2.1
theorem times_len (l : List R) : (times l).length=l.length:=List.length_map _
theorem times_snoc (l : List R) (x : R) : times (l++[x])=times l++[x.2.1]:=by simp [times]
theorem said_snoc (n : Int) (l : List R) (x : R) : said n (l++[x])=said n l++(if saysR n x then [x.2.1] else []):=by
  unfold said
  rw [List.filter_append,List.map_append]
  cases h : saysR n x <;> simp [h]
theorem said_len (n : Int) (l : List R) : (said n l).length≤l.length:=by
  unfold said
  rw [List.length_map]
  exact List.length_filter_le _ _
theorem said_mem {n : Int} {l : List R} {x : Int} (h : x∈said n l) : x∈times l:=by
  obtain ⟨r,hr,rfl⟩:=List.mem_map.1 h
  exact List.mem_map_of_mem (List.mem_filter.1 hr).1
def InR (l : List R) : Prop:=∀ r∈l,(-9223372036854775808≤r.1∧r.1≤9223372036854775807)∧(-9223372036854775808≤r.2.1∧r.2.1≤9223372036854775807)
theorem InR.times {l : List R} (h : InR l) : ∀ x∈times l,-9223372036854775808≤x∧x≤9223372036854775807:=by
  intro x hx
  obtain ⟨r,hr,rfl⟩:=List.mem_map.1 hx
  exact (h r hr).2
theorem InR.take {l : List R} (h : InR l) (k : Nat) : InR (l.take k):=fun r hr=>h r (List.mem_of_mem_take hr)
def gnow (r : Rul) (l : List R) : Int :=
  if r.kind=0 then after (most (-9223372036854775808) (times l)) r.bound
  else if r.kind=1 then most (-9223372036854775808) (said r.sign l)
  else nowTo r.pct.toNat r.win.toNat (times l) l.length
theorem nowTo_snoc (p w : Nat) (l : List Int) (x : Int) (k : Nat) (hk : k≤l.length) : nowTo p w (l++[x]) k=nowTo p w l k:=by
  have h:=nowTo_take p w (l++[x]) l.length k hk
  rw [List.take_left] at h
  exact h.symm
theorem gnow_never {r : Rul} (h : rcheck r=0) : gnow r [] = -9223372036854775808:=by
  unfold gnow
  rcases rcheck_some h with ⟨h0,h1⟩|⟨h0,h1⟩|⟨h0,h1⟩
  · rw [if_pos h0]
    exact after_never h1
  · rw [if_neg (by omega),if_pos h0]
    rfl
  · rw [if_neg (by omega),if_neg (by omega)]
    rfl
theorem gnow_in {r : Rul} {l : List R} (h : InR l) : in64 (gnow r l):=by
  unfold gnow in64
  split
  · exact after_in _ _
  split
  · exact most_in64 _ (fun x hx=>h.times x (said_mem hx))
  · exact nowTo_in _ _ _ _
def GenC (w : World) (S : Nat→Prop) (t : TypeId) (g : Nat) (r : Rul) (l : List R) : Prop :=
  (r.kind=0∧t=234∧(∀ k,S k↔k=g)∧ClampC w g (after (most (-9223372036854775808) (times l)) r.bound) [.int .i64 r.bound]) ∨
  (r.kind=1∧t=236∧(∀ k,S k↔k=g)∧ClampC w g (most (-9223372036854775808) (said r.sign l)) [.int .i64 r.sign]) ∨
  (r.kind=2∧t=238∧PerAt w S g r.pct.toNat r.win.toNat (times l) l.length)
def GPost (S : Nat→Prop) (t : TypeId) (g : Nat) (r : Rul) (l : List R) (w w' : World) : Prop:=∃ S',GenC w' S' t g r l∧Upd S w w'∧∀ k,S' k→S k∨w.heap.size≤k
section
variable {S T : Nat→Prop} {w w' : World} {t : TypeId} {g : Nat} {r : Rul} {l : List R}
theorem GenC.upd (h : GenC w S t g r l) (hu : Upd T w w') (hn : ∀ k,S k→¬ T k) : GenC w' S t g r l:=by
  rcases h with ⟨h1,h2,h3,h4⟩|⟨h1,h2,h3,h4⟩|⟨h1,h2,h3⟩
  · exact .inl ⟨h1,h2,h3,h4.upd hu (hn g ((h3 g).2 rfl))⟩
  · exact .inr (.inl ⟨h1,h2,h3,h4.upd hu (hn g ((h3 g).2 rfl))⟩)
  · exact .inr (.inr ⟨h1,h2,h3.upd hu hn⟩)
theorem GenC.lt (h : GenC w S t g r l) : ∀ k,S k→k<w.heap.size:=by
  rcases h with ⟨h1,h2,h3,h4⟩|⟨h1,h2,h3,h4⟩|⟨h1,h2,h3⟩
  · intro k hk
    rw [(h3 k).1 hk]
    exact h4.lt
  · intro k hk
    rw [(h3 k).1 hk]
    exact h4.lt
  · exact h3.lt
theorem GenC.on (h : GenC w S t g r l) (hb : Below w.heap.size w w') : GenC w' S t g r l :=
  h.upd (T:=fun k=>w.heap.size≤k) (Upd.of_below hb (fun _ _ h=>h)) (fun k hk h2=>by have:=h.lt k hk;omega)
theorem GenC.alloc (h : GenC w S t g r l) (o : Obj) : GenC (w.alloc o) S t g r l:=h.upd (T:=fun _=>False) ((Upd.refl _ _).alloc o) (fun _ _=>id)
end
def fSeen (t : TypeId) : FuncId:=if t=234 then 302 else if t=236 then 305 else 309
theorem GenC.seen {w : World} {S : Nat→Prop} {t : TypeId} {g : Nat} {r : Rul} {l : List R} (h : GenC w S t g r l) : ∀ (n : Nat) (w' : World),(method (n+1) t (.pointer (some ⟨g,0,none⟩)) "Seen").run Tryz.prog w' = .ok (fSeen t,.pointer (some ⟨g,0,none⟩)) w':=by
  rcases h with ⟨h1,rfl,h3,h4⟩|⟨h1,rfl,h3,h4⟩|⟨h1,rfl,h3⟩
  · exact fun n w'=>by kernel_rfl
  · exact fun n w'=>by kernel_rfl
  · exact fun n w'=>by kernel_rfl
theorem GenC.enters {w : World} {S : Nat→Prop} {t : TypeId} {g : Nat} {r : Rul} {l : List R} (h : GenC w S t g r l) : ∀ (args : Array Value) (w' : World),(callFunc (fSeen t) args).run Tryz.prog w' = .ok (.enter (fSeen t) args) w':=by
  rcases h with ⟨h1,rfl,h3,h4⟩|⟨h1,rfl,h3,h4⟩|⟨h1,rfl,h3⟩
  · exact Tryz.call302
  · exact Tryz.call305
  · exact Tryz.call309
theorem GenC.now {w : World} {S : Nat→Prop} {t : TypeId} {g : Nat} {r : Rul} {l : List R} (h : GenC w S t g r l) : ∀ (n : Nat) (w' : World),(method (n+1) t (.pointer (some ⟨g,0,none⟩)) "Now").run Tryz.prog w' = .ok (120,.pointer (some ⟨g,0,none⟩)) w':=by
  rcases h with ⟨h1,rfl,h3,h4⟩|⟨h1,rfl,h3,h4⟩|⟨h1,rfl,h3⟩
  · exact fun n w'=>by kernel_rfl
  · exact fun n w'=>by kernel_rfl
  · exact fun n w'=>by kernel_rfl
theorem GenC.ahead {w : World} {S : Nat→Prop} {t : TypeId} {g : Nat} {r : Rul} {l : List R} (h : GenC w S t g r l) : ∀ (n : Nat) (w' : World),(nilAhead (n+1) t (.pointer (some ⟨g,0,none⟩)) "Seen").run Tryz.prog w' = .ok (some false) w':=by
  rcases h with ⟨h1,rfl,h3,h4⟩|⟨h1,rfl,h3,h4⟩|⟨h1,rfl,h3⟩
  · exact fun n w'=>by kernel_rfl
  · exact fun n w'=>by kernel_rfl
  · exact fun n w'=>by kernel_rfl
theorem gn_now (S : Nat→Prop) (t : TypeId) (g : Nat) (r : Rul) (l : List R) (w : World) (h : GenC w S t g r l) :
    Calls Tryz.prog 120 #[.pointer (some ⟨g,0,none⟩)] w fun e w'=>e = .returned (.int .i64 (gnow r l))∧w=w':=by
  unfold gnow
  rcases h with ⟨h1,h2,h3,h4⟩|⟨h1,h2,h3,h4⟩|⟨h1,h2,h3⟩
  · rw [if_pos h1]
    exact cl_now g _ _ w h4
  · rw [if_neg (by omega),if_pos h1]
    exact cl_now g _ _ w h4
  · rw [if_neg (by omega),if_neg (by omega)]
    exact pc_at_now S g _ _ _ _ w h3
theorem perAt_snoc {w : World} {S : Nat→Prop} {g p win : Nat} {l : List Int} (x : Int) : PerAt w S g p win l l.length↔PerAt w S g p win (l++[x]) l.length:=by
  unfold PerAt
  rw [List.take_left,List.take_length,nowTo_snoc _ _ _ _ _ (Nat.le_refl _)]
theorem gn_seen (S : Nat→Prop) (t : TypeId) (g : Nat) (r : Rul) (l : List R) (x : R) (w : World) (h : GenC w S t g r l) (hok : rcheck r=0) (hf : r.Fits) (hb : InR l) (hx : (-9223372036854775808≤x.1∧x.1≤9223372036854775807)∧(-9223372036854775808≤x.2.1∧x.2.1≤9223372036854775807)) (hl : l.length<800) :
    Calls Tryz.prog (fSeen t) #[.pointer (some ⟨g,0,none⟩),.agg #[.int .i64 x.1,.int .i64 x.2.1,.string (bstr x.2.2)]] w fun e w'=>e = .returned (.tuple #[])∧GPost S t g r (l++[x]) w w':=by
  rcases h with ⟨h1,rfl,h3,h4⟩|⟨h1,rfl,h3,h4⟩|⟨h1,rfl,h3⟩
  · refine (bo_seen g _ r.bound x.1 x.2.1 (bstr x.2.2) w h4 hf.bound hx.2 _ rfl).mono ?_
    rintro e w' ⟨rfl,a1,a2⟩
    refine ⟨rfl,S,.inl ⟨h1,rfl,h3,?_⟩,a2.mono (fun k _ e=>(h3 k).2 e),fun k hk=>.inl hk⟩
    rw [times_snoc,most_snoc]
    exact a1
  · refine (pu_seen g _ r.sign x.1 x.2.1 (bstr x.2.2) w h4 hf.sign _ rfl _ rfl).mono ?_
    rintro e w' ⟨rfl,a1,a2⟩
    refine ⟨rfl,S,.inr (.inl ⟨h1,rfl,h3,?_⟩),a2.mono (fun k _ e=>(h3 k).2 e),fun k hk=>.inl hk⟩
    rw [said_snoc]
    unfold rz at a1
    cases hs : saysR r.sign x
    · rw [if_neg (by simp),List.append_nil]
      rw [show says x.1 (bstr x.2.2) r.sign=false from hs] at a1
      simpa using a1
    · rw [if_pos rfl,most_snoc]
      rw [show says x.1 (bstr x.2.2) r.sign=true from hs] at a1
      simpa using a1
  · rcases rcheck_some hok with ⟨h0,_⟩|⟨h0,_⟩|⟨h0,⟨hp0,hp1⟩,hw0,hw1⟩
    · omega
    · omega
    have hlen : (times l).length<(times l++[x.2.1]).length:=by simp
    have hbb : ∀ y∈times l++[x.2.1],-9223372036854775808≤y∧y≤9223372036854775807:=by
      intro y hy
      rcases List.mem_append.1 hy with hy|hy
      · exact hb.times y hy
      · rw [List.mem_singleton.1 hy];exact hx.2
    rw [← times_len l] at h3
    have hN:=pc_next S g r.pct.toNat r.win.toNat (times l++[x.2.1]) (times l).length hlen hbb x.1 (bstr x.2.2) w ((perAt_snoc _).1 h3) (by omega) (by omega) (by omega) (by rw [List.length_append,times_len];simp;omega)
    have hlast : (times l++[x.2.1])[(times l).length]=x.2.1:=by simp
    rw [hlast] at hN
    refine hN.mono ?_
    rintro e w' ⟨rfl,S',a1,a2,a3⟩
    refine ⟨rfl,S',.inr (.inr ⟨h1,rfl,?_⟩),a2,a3⟩
    rw [times_snoc,List.length_append,← times_len l]
    exact a1
def OfPost (r : Rul) (w : World) (e : Ending) (w' : World) : Prop :=
  ∃ t g S,e = .returned (.tuple #[.iface t (.pointer (some ⟨g,0,none⟩)),.int .i64 0])∧GenC w' S t g r []∧(∀ k,S k→w.heap.size≤k)∧Below w.heap.size w w'
theorem gn_of (r : Rul) (w : World) (hok : rcheck r=0) : Calls Tryz.prog 106 #[r.val] w (OfPost r w):=by
  have HC:=fun w'=>Lib.hid (gn_check r w' 0 hok)
  have HK:=rcheck_some hok
  obtain ⟨k,b,p,n,s⟩:=r
  have hA:=At.alloc w [.int .i64 k,.int .i64 b,.int .i64 p,.int .i64 n,.int .i64 s] 59
  have hb0 : Below w.heap.size w (w.alloc (.cells #[.int .i64 k,.int .i64 b,.int .i64 p,.int .i64 n,.int .i64 s] 59)):=(Below.refl _ _).alloc (Nat.le_refl _) _
  have HA:=Lib.hid hA
  unfold Rul.val at *
  simp only at *
  clear hA
  rcases HK with ⟨rfl,h1⟩|⟨rfl,h1,h2⟩|⟨rfl,⟨h1,h2⟩,h3,h4⟩
  · have HN:=fun w'=>Lib.hid (bo_new b w')
    have HV:=Lib.hid (after_never h1)
    go_enter Tryz.func106,Tryz.ntmps106
    go_wp2_with (go_at_call 147;refine (HC _).out.mono ?_;rintro e w1 ⟨rfl,hb1⟩;obtain ⟨hg,c0,z0,c1,z1,c2,z2,c3,z3,c4,z4⟩:=(HA.out.on hb1).five)
    go_wp2_with (go_at_call 153;refine (HN _).out.mono ?_;rintro e w2 ⟨rfl,rfl⟩)
    go_ret2
    have hbw:=on_below hb0 hb1
    refine ⟨_,_,fun j=>j=w1.heap.size,rfl,.inl ⟨rfl,rfl,fun _=>Iff.rfl,?_⟩,fun j hj=>by rw [hj];exact hbw.size,hbw.alloc hbw.size _⟩
    show ClampC _ _ (after (-9223372036854775808) b) [.int .i64 b]
    rw [HV.out]
    exact ClampC.made w1 [.int .i64 b] _
  · have HN:=fun w'=>Lib.hid (pu_new s w')
    go_enter Tryz.func106,Tryz.ntmps106
    go_wp2_with (go_at_call 147;refine (HC _).out.mono ?_;rintro e w1 ⟨rfl,hb1⟩;obtain ⟨hg,c0,z0,c1,z1,c2,z2,c3,z3,c4,z4⟩:=(HA.out.on hb1).five)
    go_wp2_with (go_at_call 154;refine (HN _).out.mono ?_;rintro e w2 ⟨rfl,rfl⟩)
    go_ret2
    have hbw:=on_below hb0 hb1
    exact ⟨_,_,fun j=>j=w1.heap.size,rfl,.inr (.inl ⟨rfl,rfl,fun _=>Iff.rfl,ClampC.made w1 [.int .i64 s] _⟩),fun j hj=>by rw [hj];exact hbw.size,hbw.alloc hbw.size _⟩
  · have HN:=fun w'=>Lib.hid (pc_new p n n.toNat (by omega) (by omega) (by omega) w')
    have hpp : (p.toNat : Int)=p:=by omega
    have HP:=Lib.hid hpp
    clear hpp
    go_enter Tryz.func106,Tryz.ntmps106
    go_wp2_with (go_at_call 147;refine (HC _).out.mono ?_;rintro e w1 ⟨rfl,hb1⟩;obtain ⟨hg,c0,z0,c1,z1,c2,z2,c3,z3,c4,z4⟩:=(HA.out.on hb1).five)
    go_wp2_with (go_at_call 155;refine (HN _).out.mono ?_;rintro e w2 ⟨g,S,rfl,hp1,hS1,hb2⟩)
    go_ret2
    have hbw:=on_below hb0 hb1
    have hbw2:=on_below hbw hb2
    refine ⟨_,_,S,rfl,.inr (.inr ⟨rfl,rfl,?_⟩),fun j hj=>Nat.le_trans hbw.size (hS1 j hj),hbw2⟩
    rw [← HP.out] at hp1
    exact perAt_zero [] hp1
theorem times_take (l : List R) (k : Nat) (h : k<l.length) : times (l.take (k+1))=times (l.take k)++[l[k].2.1]:=by
  rw [List.take_succ_eq_append_getElem h,times_snoc]
theorem said_take (n : Int) (l : List R) (k : Nat) (h : k<l.length) : said n (l.take (k+1))=said n (l.take k)++(if saysR n l[k] then [l[k].2.1] else []):=by
  rw [List.take_succ_eq_append_getElem h,said_snoc]
def Two (B : Nat) (w : World) (v u : Value) (a b : List Int) : Prop:=Sl B w 1 v a.length (iv a)∧Sl B w 1 u b.length (iv b)∧∀ k,v.ownBlock=some k→u.ownBlock≠some k
theorem Two.left {B : Nat} {w w' : World} {v u v' : Value} {a b a' : List Int} (h : Two B w v u a b) (h1 : Sl B w' 1 v' a'.length (iv a')) (h2 : Upd (fun k=>v.ownBlock=some k) w w') (h3 : ∀ k,v'.ownBlock=some k→v.ownBlock=some k∨w.heap.size≤k) : Two B w' v' u a' b:=by
  refine ⟨h1,h.2.1.upd h2 (fun k hk hv=>h.2.2 k hv hk),fun k hk hu=>?_⟩
  rcases h3 k hk with h4|h4
  · exact h.2.2 k h4 hu
  · have:=(h.2.1.lt k hu).2;omega
theorem Two.right {B : Nat} {w w' : World} {v u u' : Value} {a b b' : List Int} (h : Two B w v u a b) (h1 : Sl B w' 1 u' b'.length (iv b')) (h2 : Upd (fun k=>u.ownBlock=some k) w w') (h3 : ∀ k,u'.ownBlock=some k→u.ownBlock=some k∨w.heap.size≤k) : Two B w' v u' a b':=by
  refine ⟨h.1.upd h2 (fun k hk hv=>h.2.2 k hk hv),h1,fun k hk hu=>?_⟩
  rcases h3 k hu with h4|h4
  · exact h.2.2 k hk h4
  · have:=(h.1.lt k hk).2;omega
theorem Two.upd {B : Nat} {S : Nat→Prop} {w w' : World} {v u : Value} {a b : List Int} (h : Two B w v u a b) (hu : Upd S w w') (hS : ∀ k,S k→w.heap.size≤k) : Two B w' v u a b :=
  ⟨h.1.upd hu (fun k hk hs=>by have:=(h.1.lt k hk).2;have:=hS k hs;omega),h.2.1.upd hu (fun k hk hs=>by have:=(h.2.1.lt k hk).2;have:=hS k hs;omega),h.2.2⟩
theorem Two.alloc {B : Nat} {w : World} {v u : Value} {a b : List Int} (h : Two B w v u a b) (o : Obj) : Two B (w.alloc o) v u a b:=h.upd (S:=fun _=>False) ((Upd.refl _ _).alloc o) (fun _ h=>h.elim)
theorem Two.on {B : Nat} {w w' : World} {v u : Value} {a b : List Int} (h : Two B w v u a b) (hb : Below w.heap.size w w') : Two B w' v u a b:=h.upd (S:=fun k=>w.heap.size≤k) (Upd.of_below hb (fun _ _ h=>h)) (fun _ h=>h)
theorem Two.drewN {B : Nat} {w : World} {v u : Value} {a b : List Int} (h : Two B w v u a b) (n : Nat) : Two B (w.drewN n) v u a b:=h.upd (S:=fun _=>False) ((Upd.refl _ _).drewN n) (fun _ h=>h.elim)
theorem Two.drew {B : Nat} {w : World} {v u : Value} {a b : List Int} (h : Two B w v u a b) : Two B w.drew v u a b:=h.upd (S:=fun _=>False) ((Upd.refl _ _).drew) (fun _ h=>h.elim)
def Short (l : List R) : Prop:=∀ r∈l,r.2.2.length≤4096
theorem ref_now13 (r : Rul) (a : Option Addr) (n c : Nat) (l : List R) (w : World) (hn : n=l.length) (h0 : 0<n) (hl : RowR w a l) (hs : Short l) (hf : r.Fits) (hok : rcheck r=0) (hb : l.length≤800) (z : Int) (hz : gnow r l=z) :
    Calls Tryz.prog 56 #[r.val,.slice a n c] w fun e w'=>e = .returned (.int .i64 z)∧Below w.heap.size w w':=by
  subst hn
  have HOK:=Lib.hid hok
  have HZ:=Lib.hid hz
  have hT : InR l:=hl.tm
  have HT:=Lib.hid hT
  obtain ⟨kd,bd,pc,wn,sg⟩:=r
  have hfb:=hf.bound
  unfold in64 at hfb
  simp only at hfb
  unfold Rul.val
  simp only
  have hA:=At.alloc w [.int .i64 kd,.int .i64 bd,.int .i64 pc,.int .i64 wn,.int .i64 sg] 59
  have hb0 : Below w.heap.size w (w.alloc (.cells #[.int .i64 kd,.int .i64 bd,.int .i64 pc,.int .i64 wn,.int .i64 sg] 59)):=(Below.refl _ _).alloc (Nat.le_refl _) _
  obtain ⟨i0,hi0,hz0,hz1,hz2⟩:=info_parts info_int
  clear hz hok hf hT
  have hsz0 : (w.alloc (.cells #[.int .i64 kd,.int .i64 bd,.int .i64 pc,.int .i64 wn,.int .i64 sg] 59)).heap.size=w.heap.size+1:=by simp
  go_enter Tryz.func56,Tryz.ntmps56
  go_wp2
  generalize w.alloc (.cells #[.int .i64 kd,.int .i64 bd,.int .i64 pc,.int .i64 wn,.int .i64 sg] 59)=w0 at *
  have hbw:=(hb0.alloc hb0.size (.cells #[] 3)).alloc (by have:=hb0.size;simp;omega) (.cells #[] 3)
  have hA2:=(hA.upd (S:=fun _=>False) ((Upd.refl _ _).alloc (.cells #[] 3)) id).upd (S:=fun _=>False) ((Upd.refl _ _).alloc (.cells #[] 3)) id
  have hs1 : Sl (w.heap.size+1) (w0.alloc (.cells #[] 3)) 1 (.slice (some ⟨w0.heap.size,0,none⟩) 0 0) 0 []:=Sl.made (B:=w.heap.size+1) w0 #[] 3 1 0 0 (by omega) (Nat.le_refl _) (Nat.zero_le _) (by simp)
  have hs2 : Sl (w.heap.size+1) ((w0.alloc (.cells #[] 3)).alloc (.cells #[] 3)) 1 (.slice (some ⟨(w0.alloc (.cells #[] 3)).heap.size,0,none⟩) 0 0) 0 []:=Sl.made (B:=w.heap.size+1) _ #[] 3 1 0 0 (by simp;omega) (Nat.le_refl _) (Nat.zero_le _) (by simp)
  have htw : Two (w.heap.size+1) ((w0.alloc (.cells #[] 3)).alloc (.cells #[] 3)) (.slice (some ⟨w0.heap.size,0,none⟩) 0 0) (.slice (some ⟨(w0.alloc (.cells #[] 3)).heap.size,0,none⟩) 0 0) [] [] :=
    ⟨hs1.alloc _,hs2,fun k h1 h2=>by simp [Value.ownBlock] at h1 h2;omega⟩
  go_loopw [5,6,7] (fun v u i wr=>∃ k : Nat,k≤l.length∧i = .int .i64 k∧Two (w.heap.size+1) wr v u (times (l.take k)) (said sg (l.take k))∧At wr w.heap.size [.int .i64 kd,.int .i64 bd,.int .i64 pc,.int .i64 wn,.int .i64 sg]∧Below w.heap.size w wr) (fun _ _ i _=>l.length - (intOf i).toNat)
  case atStart =>
    refine ⟨0,Nat.zero_le _,rfl,?_,hA2,hbw⟩
    rw [show (w0.alloc (.cells #[] 3)).heap.size=w0.heap.size+1 by simp,hsz0] at htw
    exact htw
  case round =>
    obtain ⟨k,hk,rfl,htk,hAk,hbk⟩:=hrel
    have hszk:=hbk.size
    have hAlt:=hAk.1
    by_cases hlt : k<l.length
    · obtain ⟨b,off,rfl,hbb,p0,p1,p2⟩:=(hl.on hbk).at_ k hlt
      have htm:=times_take l k hlt
      have hsd:=said_take sg l k hlt
      have hlt1 : (times (l.take k)).length=k:=by rw [times_len,List.length_take];omega
      have hls1 : (said sg (l.take k)).length≤k:=by have:=said_len sg (l.take k);rw [List.length_take] at this;omega
      have hsx:=hs l[k] (List.getElem_mem hlt)
      have HRW:=Lib.hid (fun w' (h : Below w.heap.size w w')=>(hl.on h).cell k hlt)
      generalize l[k]=x at *
      obtain ⟨k1,t1,x1⟩:=x
      simp only at p0 p1 p2 htm hsx HRW
      have HS:=Lib.hid hsx
      have HTM:=Lib.hid htm
      generalize times (l.take k)=A at *
      generalize said sg (l.take k)=D at *
      have hm1 : A.length+1≤maxLen:=by unfold maxLen;omega
      have hm2 : D.length+1≤maxLen:=by unfold maxLen;omega
      clear hsx htm
      have hwB : w.heap.size+1≤(wr.alloc (.cells #[.int .i64 t1] 3)).heap.size:=by simp;omega
      have htka:=htk.alloc (.cells #[.int .i64 t1] 3)
      have hAka:=hAk.upd (S:=fun _=>False) ((Upd.refl _ _).alloc (.cells #[.int .i64 t1] 3)) id
      have hbka:=hbk.alloc hszk (.cells #[.int .i64 t1] 3)
      have HTKA:=Lib.hid htka
      have HAKA:=Lib.hid hAka
      have HBKA:=Lib.hid hbka
      have hszp:=hbka.size
      obtain ⟨av,cv,rfl⟩:=htka.1.shape
      obtain ⟨au,cu,rfl⟩:=htka.2.1.shape
      have hslA:=htka.1
      clear htk htka hAk hAka hbk hbka hbb
      go_wp2_with (at_builtin;refine wpList_append_sl _ rfl (.tmp 16) (.tmp 22) 106 106 rfl 3 i0 (.int .i64 0) 8 Tryz.underlying106 hi0 hz0 hz1 hz2 rfl rfl hslA _ 1 [.int .i64 t1] rfl (src_oneN Tryz.underlying106 _ (.int .i64 t1) _ _ (by simp) rfl) hm1 (by omega) hwB ?_;intro v1 w1 q1 q2 q3)
      have hs1 : Two (w.heap.size+1) w1 v1 (.slice au D.length cu) (A++[t1]) D:=HTKA.out.left (by rw [List.length_append,iv_snoc'];exact q1) q2 q3
      have hA1 : At w1 w.heap.size [.int .i64 kd,.int .i64 bd,.int .i64 pc,.int .i64 wn,.int .i64 sg]:=HAKA.out.upd q2 (fun h=>by have:=(HTKA.out.1.lt _ h).1;omega)
      have hb1 : Below w.heap.size w w1:=HBKA.out.upd q2 hszp (fun i _ h=>by have:=(HTKA.out.1.lt i h).1;omega)
      obtain ⟨hbb,p0,p1,p2⟩:=HRW.out w1 hb1
      obtain ⟨av1,cv1,hv1⟩:=hs1.1.shape
      subst hv1
      have hsz1:=hb1.size
      have HS1:=Lib.hid hs1
      have HA1:=Lib.hid hA1
      have HB1:=Lib.hid hb1
      obtain ⟨hgr,r0,y0,r1,y1,r2,y2,r3,y3,r4,y4⟩:=hA1.five
      have hslD:=hs1.2.1
      clear q1 q2 q3 hslA hs1 hA1 hb1 y0 y1 y2 y3 y4
      have hwr0 : ∀ m : Nat,m≤3000→IntKind.i64.wrap (m : Int)=(m : Int):=fun m h=>by rw [IntKind.wrap_i64];omega
      by_cases hk2 : k1=2
      · subst hk2
        have hD : Hid (said sg (l.take (k+1))=D++[t1]):=by
          show _=_
          rw [hsd,if_pos (by simp [saysR,says])]
        clear hsd
        go_wp2
        go_quiet (fail)
        have hsw:=(HS1.out.drewN nq).alloc (.cells #[.int .i64 t1] 3)
        have hAw:=(HA1.out.drewN nq).upd (S:=fun _=>False) ((Upd.refl _ _).alloc (.cells #[.int .i64 t1] 3)) id
        have hbw2:=(below_drewN HB1.out nq).alloc (by simpa using hsz1) (.cells #[.int .i64 t1] 3)
        have hslW:=hsw.2.1
        have hwB2 : w.heap.size+1≤((w1.drewN nq).alloc (.cells #[.int .i64 t1] 3)).heap.size:=by simp;omega
        go_wp2_with (at_builtin;refine wpList_append_sl _ rfl (.tmp 40) (.tmp 46) 106 106 rfl 3 i0 (.int .i64 0) 8 Tryz.underlying106 hi0 hz0 hz1 hz2 rfl rfl hslW _ 1 [.int .i64 t1] rfl (src_oneN Tryz.underlying106 _ (.int .i64 t1) _ _ (by simp) rfl) hm2 (by omega) hwB2 ?_;intro v3 w3 q1 q2 q3)
        go_roundw
        case rel =>
          refine ⟨k+1,by omega,by go_num,?_,hAw.upd q2 (fun h=>by have:=(hsw.2.1.lt _ h).1;omega),hbw2.upd q2 hbw2.size (fun i _ h=>by have:=(hsw.2.1.lt i h).1;omega)⟩
          rw [HTM.out,hD.out,show k+1=(A++[t1]).length by (rw [List.length_append,hlt1];rfl)]
          exact hsw.right (by rw [List.length_append,iv_snoc'];exact q1) q2 q3
        case measure=>simp [intOf];omega
      have hkk : (k1 == 2)=false:=by simpa using hk2
      have HH:=fun w'=>Lib.hid (ref_has (bstr x1) sg w' (by simpa [ByteArray.size] using HS.out))
      have hsy : saysR sg (k1,t1,x1)=hasn (signs (bstr x1).data.toList) sg:=by simp [saysR,says,hk2]
      rw [hsy] at hsd
      clear hsy hk2
      generalize hasn (signs (bstr x1).data.toList) sg=o at *
      cases o
      · have hD : Hid (said sg (l.take (k+1))=D):=by
          show _=_
          rw [hsd,if_neg (by simp),List.append_nil]
        clear hsd
        go_wp2
        go_region_held3 (fun wx=>wx.cell? ⟨b,off+k*3,none⟩=some (.int .i64 k1)∧wx.cell? ⟨b,off+k*3+2,none⟩=some (.string (bstr x1))∧wx.cell? ⟨w.heap.size,4,none⟩=some (.int .i64 sg)) (first|exact ⟨p0,p2,r4⟩|exact ⟨u0,u2,v4⟩) (first|(go_at_call 99;refine (HH _).out.mono ?_;rintro e w2 ⟨rfl,hb2⟩;have hB2:=on_below HB1.out.drew hb2;have hA2:=HA1.out.drew.on hb2;obtain ⟨-,u0,u1,u2⟩:=HRW.out _ hB2;obtain ⟨-,-,-,-,-,-,-,-,-,v4,-⟩:=hA2.five))
        all_goals
          go_wp2
          go_roundw
        case rel =>
          refine ⟨k+1,by omega,by go_num,?_,hA2,hB2⟩
          rw [HTM.out,hD.out,show k+1=(A++[t1]).length by (rw [List.length_append,hlt1];rfl)]
          exact HS1.out.drew.on hb2
        case measure=>simp [intOf];omega
      · have hD : Hid (said sg (l.take (k+1))=D++[t1]):=by
          show _=_
          rw [hsd,if_pos rfl]
        clear hsd
        go_wp2
        go_region_held3 (fun wx=>wx.cell? ⟨b,off+k*3,none⟩=some (.int .i64 k1)∧wx.cell? ⟨b,off+k*3+2,none⟩=some (.string (bstr x1))∧wx.cell? ⟨w.heap.size,4,none⟩=some (.int .i64 sg)) (first|exact ⟨p0,p2,r4⟩|exact ⟨u0,u2,v4⟩) (first|(go_at_call 99;refine (HH _).out.mono ?_;rintro e w2 ⟨rfl,hb2⟩;have hB2:=on_below HB1.out.drew hb2;have hA2:=HA1.out.drew.on hb2;obtain ⟨-,u0,u1,u2⟩:=HRW.out _ hB2;obtain ⟨-,-,-,-,-,-,-,-,-,v4,-⟩:=hA2.five))
        all_goals
          have hsz2:=hB2.size
          have hsw:=(HS1.out.drew.on hb2).alloc (.cells #[.int .i64 t1] 3)
          have hAw:=hA2.upd (S:=fun _=>False) ((Upd.refl _ _).alloc (.cells #[.int .i64 t1] 3)) id
          have hbw2:=hB2.alloc hsz2 (.cells #[.int .i64 t1] 3)
          have hslW:=hsw.2.1
          have hwB2 : w.heap.size+1≤(w2.alloc (.cells #[.int .i64 t1] 3)).heap.size:=by simp;omega
          go_wp2_with (at_builtin;refine wpList_append_sl _ rfl (.tmp 40) (.tmp 46) 106 106 rfl 3 i0 (.int .i64 0) 8 Tryz.underlying106 hi0 hz0 hz1 hz2 rfl rfl hslW _ 1 [.int .i64 t1] rfl (src_oneN Tryz.underlying106 _ (.int .i64 t1) _ _ (by simp) rfl) hm2 (by omega) hwB2 ?_;intro v3 w3 q1 q2 q3)
          go_roundw
        case rel =>
          refine ⟨k+1,by omega,by go_num,?_,hAw.upd q2 (fun h=>by have:=(hsw.2.1.lt _ h).1;omega),hbw2.upd q2 hbw2.size (fun i _ h=>by have:=(hsw.2.1.lt i h).1;omega)⟩
          rw [HTM.out,hD.out,show k+1=(A++[t1]).length by (rw [List.length_append,hlt1];rfl)]
          exact hsw.right (by rw [List.length_append,iv_snoc'];exact q1) q2 q3
        case measure=>simp [intOf];omega
    · obtain rfl : k=l.length:=by omega
      have hall : l.take l.length=l:=List.take_of_length_le (Nat.le_refl _)
      rw [hall] at htk
      have hT:=HT.out
      have hlt1:=times_len l
      have hls1:=said_len sg l
      have hZ:=HZ.out
      unfold gnow at hZ
      simp only at hZ
      obtain ⟨hk1,a1,c1,hv1,hrow1⟩:=rowi_of_sl htk.1 hT.times
      obtain ⟨hk2,a2,c2,hv2,hrow2⟩:=rowi_of_sl htk.2.1 (fun x hx=>hT.times x (said_mem hx))
      subst hv1
      subst hv2
      obtain ⟨g1,o1,hx,hcap1⟩ : ∃ g off,a1=some ⟨g,off,none⟩∧(times l).length≤c1:=by
        rcases htk.1.2 with ⟨hx,hx0⟩|⟨g,off,cap,hx,_,_,h5,_⟩
        · omega
        · simp only [Value.slice.injEq] at hx
          obtain ⟨rfl,-,rfl⟩:=hx
          exact ⟨g,off,rfl,h5⟩
      subst hx
      obtain ⟨hgr,r0,y0,r1,y1,r2,y2,r3,y3,r4,y4⟩:=hAk.five
      clear htk hall hs hl HT hk1 hk2 hAk y0 y1 y2 y3 y4 hA2 hA hs1 hs2 htw
      have HN0:=Lib.hid (fun b (hb' : -9223372036854775808≤b∧b≤9223372036854775807) wx h=>ref_now10 (some ⟨g1,o1,none⟩) (times l).length c1 (times l) b wx rfl (by omega) h (by omega) hb' _ rfl)
      have HN1:=Lib.hid (fun (z : Int) hz wx h=>ref_most a2 (said sg l).length c2 (said sg l) wx rfl h (by omega) z hz)
      have HN2:=Lib.hid (fun (p q : Nat) (hp : p≤100) (hq : q≤100000) (z : Int) hz wx h=>ref_now12 g1 o1 (times l).length c1 (times l) p q wx rfl hcap1 h (by omega) hq hp z hz)
      have HL:=Lib.hid hlt1
      clear hlt1 hls1 hcap1 hb h0
      rcases rcheck_some HOK.out with ⟨hk0,h1⟩|⟨hk0,h1,h2⟩|⟨hk0,⟨h1,h2⟩,h3,h4⟩
      · simp only at hk0
        subst hk0
        rw [if_pos rfl] at hZ
        have HN:=fun wx h=>Lib.hid (HN0.out bd hfb wx h)
        rw [hZ] at HN
        clear HOK HZ h1 HN0 HN1 HN2 HL hrow2 hZ
        generalize times l=A at *
        go_wp2_with (go_at_call 100;(with_reducible refine (HN _ hrow1).out.mono ?_);rintro e w' ⟨rfl,rfl⟩)
        go_ret
        exact ⟨rfl,hbk⟩
      · simp only at hk0
        subst hk0
        rw [if_neg (by omega),if_pos rfl] at hZ
        have HN:=fun wx h=>Lib.hid (HN1.out z hZ wx h)
        clear HOK HZ h1 h2 HN0 HN1 HN2 HL hrow1 hZ
        generalize said sg l=D at *
        go_wp2_with (go_at_call 101;(with_reducible refine (HN _ hrow2).out.mono ?_);rintro e w' ⟨rfl,rfl⟩)
        go_ret
        exact ⟨rfl,hbk⟩
      · simp only at hk0 h1 h2 h3 h4
        subst hk0
        rw [if_neg (by omega),if_neg (by omega),← HL.out] at hZ
        have HN:=fun wx h=>Lib.hid (HN2.out pc.toNat wn.toNat (by omega) (by omega) z hZ wx h)
        rw [show (pc.toNat : Int)=pc by omega,show (wn.toNat : Int)=wn by omega] at HN
        clear HOK HZ h1 h2 h3 h4 hZ HN0 HN1 HN2 HL hrow2
        generalize times l=A at *
        go_wp2_with (go_at_call 102;(with_reducible refine (HN _ hrow1).out.mono ?_);rintro e w' ⟨rfl,hb9⟩)
        go_ret
        exact ⟨rfl,on_below hbk hb9⟩
end Go.Proofs.YtmimfkhkilijcaaGreatDoor
