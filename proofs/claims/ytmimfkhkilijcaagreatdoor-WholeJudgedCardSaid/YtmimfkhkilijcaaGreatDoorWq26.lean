/- KGen; KSt: what is reached of them. -/
import Derived.Test.YtmimfkhkilijcaaGreatDoorWq21
import Derived.Test.YtmimfkhkilijcaaGreatDoorWq22
import Derived.Test.YtmimfkhkilijcaaGreatDoorWq23
import Derived.Test.YtmimfkhkilijcaaGreatDoorWq09
import Derived.Test.YtmimfkhkilijcaaGreatDoorWq06
import Derived.Test.YtmimfkhkilijcaaGreatDoorWq25
import Derived.Test.YtmimfkhkilijcaaGreatDoorWq12
set_option linter.unusedVariables false
set_option linter.unusedSimpArgs false
set_option maxRecDepth 100000
set_option maxHeartbeats 8000000
namespace Go.Proofs.YtmimfkhkilijcaaGreatDoor
open Go.ChangeShapes Go.WideShapes Go.ChangeAt Go.RowKit
open PHist PRing PSat PClamp PBound PFrame PSign
def times (l : List R) : List Int:=l.map fun r=>r.2.1
def saysR (n : Int) (r : R) : Bool:=says r.1 (bstr r.2.2) n
def said (n : Int) (l : List R) : List Int:=(l.filter (saysR n)).map fun r=>r.2.1
theorem times_len (l : List R) : (times l).length=l.length:=List.length_map _
theorem times_snoc (l : List R) (x : R) : times (l++[x])=times l++[x.2.1]:=by simp [times]
theorem said_snoc (n : Int) (l : List R) (x : R) : said n (l++[x])=said n l++(if saysR n x then [x.2.1] else []):=by
  unfold said
  rw [List.filter_append,List.map_append]
  cases h : saysR n x <;> simp [h]
theorem said_mem {n : Int} {l : List R} {x : Int} (h : x∈said n l) : x∈times l:=by
  obtain ⟨r,hr,rfl⟩:=List.mem_map.1 h
  exact List.mem_map_of_mem (List.mem_filter.1 hr).1
def InR (l : List R) : Prop:=∀ r∈l,(-9223372036854775808≤r.1∧r.1≤9223372036854775807)∧(-9223372036854775808≤r.2.1∧r.2.1≤9223372036854775807)
theorem InR.times {l : List R} (h : InR l) : ∀ x∈times l,-9223372036854775808≤x∧x≤9223372036854775807:=by
  intro x hx
  obtain ⟨r,hr,rfl⟩:=List.mem_map.1 hx
  exact (h r hr).2
theorem InR.take {l : List R} (h : InR l) (k : Nat) : InR (l.take k):=fun r hr=>h r (List.mem_of_mem_take hr)
def gnow (r : Rul) (l : List R) : Int :=
  if r.kind=0 then after (most (-9223372036854775808) (times l)) r.bound
  else if r.kind=1 then most (-9223372036854775808) (said r.sign l)
  else nowTo r.pct.toNat r.win.toNat (times l) l.length
theorem nowTo_snoc (p w : Nat) (l : List Int) (x : Int) (k : Nat) (hk : k≤l.length) : nowTo p w (l++[x]) k=nowTo p w l k:=by
  have h:=nowTo_take p w (l++[x]) l.length k hk
  rw [List.take_left] at h
  exact h.symm
theorem gnow_never {r : Rul} (h : rcheck r=0) : gnow r [] = -9223372036854775808:=by
  unfold gnow
  rcases rcheck_some h with ⟨h0,h1⟩|⟨h0,h1⟩|⟨h0,h1⟩
  · rw [if_pos h0]
    exact after_never h1
  · rw [if_neg (by omega),if_pos h0]
    rfl
  · rw [if_neg (by omega),if_neg (by omega)]
    rfl
theorem gnow_in {r : Rul} {l : List R} (h : InR l) : in64 (gnow r l):=by
  unfold gnow in64
  split
  · exact after_in _ _
  split
  · exact most_in64 _ (fun x hx=>h.times x (said_mem hx))
  · exact nowTo_in _ _ _ _
def GenC (w : World) (S : Nat→Prop) (t : TypeId) (g : Nat) (r : Rul) (l : List R) : Prop :=
  (r.kind=0∧t=234∧(∀ k,S k↔k=g)∧ClampC w g (after (most (-9223372036854775808) (times l)) r.bound) [.int .i64 r.bound]) ∨
  (r.kind=1∧t=236∧(∀ k,S k↔k=g)∧ClampC w g (most (-9223372036854775808) (said r.sign l)) [.int .i64 r.sign]) ∨
  (r.kind=2∧t=238∧PerAt w S g r.pct.toNat r.win.toNat (times l) l.length)
def GPost (S : Nat→Prop) (t : TypeId) (g : Nat) (r : Rul) (l : List R) (w w' : World) : Prop:=∃ S',GenC w' S' t g r l∧Upd S w w'∧∀ k,S' k→S k∨w.heap.size≤k
section
variable {S T : Nat→Prop} {w w' : World} {t : TypeId} {g : Nat} {r : Rul} {l : List R}
theorem GenC.upd (h : GenC w S t g r l) (hu : Upd T w w') (hn : ∀ k,S k→¬ T k) : GenC w' S t g r l:=by
  rcases h with ⟨h1,h2,h3,h4⟩|⟨h1,h2,h3,h4⟩|⟨h1,h2,h3⟩
  · exact .inl ⟨h1,h2,h3,h4.upd hu (hn g ((h3 g).2 rfl))⟩
  · exact .inr (.inl ⟨h1,h2,h3,h4.upd hu (hn g ((h3 g).2 rfl))⟩)
  · exact .inr (.inr ⟨h1,h2,h3.upd hu hn⟩)
theorem GenC.lt (h : GenC w S t g r l) : ∀ k,S k→k<w.heap.size:=by
  rcases h with ⟨h1,h2,h3,h4⟩|⟨h1,h2,h3,h4⟩|⟨h1,h2,h3⟩
  · intro k hk
    rw [(h3 k).1 hk]
    exact h4.lt
  · intro k hk
    rw [(h3 k).1 hk]
    exact h4.lt
  · exact h3.lt
theorem GenC.on (h : GenC w S t g r l) (hb : Below w.heap.size w w') : GenC w' S t g r l :=
  h.upd (T:=fun k=>w.heap.size≤k) (Upd.of_below hb (fun _ _ h=>h)) (fun k hk h2=>by have:=h.lt k hk;omega)
theorem GenC.alloc (h : GenC w S t g r l) (o : Obj) : GenC (w.alloc o) S t g r l:=h.upd (T:=fun _=>False) ((Upd.refl _ _).alloc o) (fun _ _=>id)
end
def fSeen (t : TypeId) : FuncId:=if t=234 then 302 else if t=236 then 305 else 309
theorem GenC.seen {w : World} {S : Nat→Prop} {t : TypeId} {g : Nat} {r : Rul} {l : List R} (h : GenC w S t g r l) : ∀ (n : Nat) (w' : World),(method (n+1) t (.pointer (some ⟨g,0,none⟩)) "Seen").run Tryz.prog w' = .ok (fSeen t,.pointer (some ⟨g,0,none⟩)) w':=by
  rcases h with ⟨h1,rfl,h3,h4⟩|⟨h1,rfl,h3,h4⟩|⟨h1,rfl,h3⟩
  · exact fun n w'=>by kernel_rfl
  · exact fun n w'=>by kernel_rfl
  · exact fun n w'=>by kernel_rfl
theorem GenC.enters {w : World} {S : Nat→Prop} {t : TypeId} {g : Nat} {r : Rul} {l : List R} (h : GenC w S t g r l) : ∀ (args : Array Value) (w' : World),(callFunc (fSeen t) args).run Tryz.prog w' = .ok (.enter (fSeen t) args) w':=by
  rcases h with ⟨h1,rfl,h3,h4⟩|⟨h1,rfl,h3,h4⟩|⟨h1,rfl,h3⟩
  · exact Tryz.call302
  · exact Tryz.call305
  · exact Tryz.call309
theorem GenC.now {w : World} {S : Nat→Prop} {t : TypeId} {g : Nat} {r : Rul} {l : List R} (h : GenC w S t g r l) : ∀ (n : Nat) (w' : World),(method (n+1) t (.pointer (some ⟨g,0,none⟩)) "Now").run Tryz.prog w' = .ok (120,.pointer (some ⟨g,0,none⟩)) w':=by
  rcases h with ⟨h1,rfl,h3,h4⟩|⟨h1,rfl,h3,h4⟩|⟨h1,rfl,h3⟩
  · exact fun n w'=>by kernel_rfl
  · exact fun n w'=>by kernel_rfl
  · exact fun n w'=>by kernel_rfl
theorem GenC.ahead {w : World} {S : Nat→Prop} {t : TypeId} {g : Nat} {r : Rul} {l : List R} (h : GenC w S t g r l) : ∀ (n : Nat) (w' : World),(nilAhead (n+1) t (.pointer (some ⟨g,0,none⟩)) "Seen").run Tryz.prog w' = .ok (some false) w':=by
  rcases h with ⟨h1,rfl,h3,h4⟩|⟨h1,rfl,h3,h4⟩|⟨h1,rfl,h3⟩
  · exact fun n w'=>by kernel_rfl
  · exact fun n w'=>by kernel_rfl
  · exact fun n w'=>by kernel_rfl
theorem gn_now (S : Nat→Prop) (t : TypeId) (g : Nat) (r : Rul) (l : List R) (w : World) (h : GenC w S t g r l) :
    Calls Tryz.prog 120 #[.pointer (some ⟨g,0,none⟩)] w fun e w'=>e = .returned (.int .i64 (gnow r l))∧w=w':=by
  unfold gnow
  rcases h with ⟨h1,h2,h3,h4⟩|⟨h1,h2,h3,h4⟩|⟨h1,h2,h3⟩
  · rw [if_pos h1]
    exact cl_now g _ _ w h4
  · rw [if_neg (by omega),if_pos h1]
    exact cl_now g _ _ w h4
  · rw [if_neg (by omega),if_neg (by omega)]
    exact pc_at_now S g _ _ _ _ w h3
theorem perAt_snoc {w : World} {S : Nat→Prop} {g p win : Nat} {l : List Int} (x : Int) : PerAt w S g p win l l.length↔PerAt w S g p win (l++[x]) l.length:=by
  unfold PerAt
  rw [List.take_left,List.take_length,nowTo_snoc _ _ _ _ _ (Nat.le_refl _)]
theorem gn_seen (S : Nat→Prop) (t : TypeId) (g : Nat) (r : Rul) (l : List R) (x : R) (w : World) (h : GenC w S t g r l) (hok : rcheck r=0) (hf : r.Fits) (hb : InR l) (hx : (-9223372036854775808≤x.1∧x.1≤9223372036854775807)∧(-9223372036854775808≤x.2.1∧x.2.1≤9223372036854775807)) (hl : l.length<800) :
    Calls Tryz.prog (fSeen t) #[.pointer (some ⟨g,0,none⟩),.agg #[.int .i64 x.1,.int .i64 x.2.1,.string (bstr x.2.2)]] w fun e w'=>e = .returned (.tuple #[])∧GPost S t g r (l++[x]) w w':=by
  rcases h with ⟨h1,rfl,h3,h4⟩|⟨h1,rfl,h3,h4⟩|⟨h1,rfl,h3⟩
  · refine (bo_seen g _ r.bound x.1 x.2.1 (bstr x.2.2) w h4 hf.bound hx.2 _ rfl).mono ?_
    rintro e w' ⟨rfl,a1,a2⟩
    refine ⟨rfl,S,.inl ⟨h1,rfl,h3,?_⟩,a2.mono (fun k _ e=>(h3 k).2 e),fun k hk=>.inl hk⟩
    rw [times_snoc,most_snoc]
    exact a1
  · refine (pu_seen g _ r.sign x.1 x.2.1 (bstr x.2.2) w h4 hf.sign _ rfl _ rfl).mono ?_
    rintro e w' ⟨rfl,a1,a2⟩
    refine ⟨rfl,S,.inr (.inl ⟨h1,rfl,h3,?_⟩),a2.mono (fun k _ e=>(h3 k).2 e),fun k hk=>.inl hk⟩
    rw [said_snoc]
    unfold rz at a1
    cases hs : saysR r.sign x
    · rw [if_neg (by simp),List.append_nil]
      rw [show says x.1 (bstr x.2.2) r.sign=false from hs] at a1
      simpa using a1
    · rw [if_pos rfl,most_snoc]
      rw [show says x.1 (bstr x.2.2) r.sign=true from hs] at a1
      simpa using a1
  · rcases rcheck_some hok with ⟨h0,_⟩|⟨h0,_⟩|⟨h0,⟨hp0,hp1⟩,hw0,hw1⟩
    · omega
    · omega
    have hlen : (times l).length<(times l++[x.2.1]).length:=by simp
    have hbb : ∀ y∈times l++[x.2.1],-9223372036854775808≤y∧y≤9223372036854775807:=by
      intro y hy
      rcases List.mem_append.1 hy with hy|hy
      · exact hb.times y hy
      · rw [List.mem_singleton.1 hy];exact hx.2
    rw [← times_len l] at h3
    have hN:=pc_next S g r.pct.toNat r.win.toNat (times l++[x.2.1]) (times l).length hlen hbb x.1 (bstr x.2.2) w ((perAt_snoc _).1 h3) (by omega) (by omega) (by omega) (by rw [List.length_append,times_len];simp;omega)
    have hlast : (times l++[x.2.1])[(times l).length]=x.2.1:=by simp
    rw [hlast] at hN
    refine hN.mono ?_
    rintro e w' ⟨rfl,S',a1,a2,a3⟩
    refine ⟨rfl,S',.inr (.inr ⟨h1,rfl,?_⟩),a2,a3⟩
    rw [times_snoc,List.length_append,← times_len l]
    exact a1
def OfPost (r : Rul) (w : World) (e : Ending) (w' : World) : Prop :=
  ∃ t g S,e = .returned (.tuple #[.iface t (.pointer (some ⟨g,0,none⟩)),.int .i64 0])∧GenC w' S t g r []∧(∀ k,S k→w.heap.size≤k)∧Below w.heap.size w w'
theorem gn_of_none (r : Rul) (w : World) (z : Int) (hz : rcheck r=z) (h0 : z≠0) :
    Calls Tryz.prog 106 #[r.val] w fun e w'=>e = .returned (.tuple #[.nilIface,.int .i64 z])∧Below w.heap.size w w':=by
  have HC:=fun w'=>Lib.hid (gn_check r w' z hz)
  obtain ⟨k,b,p,n,s⟩:=r
  unfold Rul.val at *
  simp only at *
  have hA:=At.alloc w [.int .i64 k,.int .i64 b,.int .i64 p,.int .i64 n,.int .i64 s] 59
  have hb0 : Below w.heap.size w (w.alloc (.cells #[.int .i64 k,.int .i64 b,.int .i64 p,.int .i64 n,.int .i64 s] 59)):=(Below.refl _ _).alloc (Nat.le_refl _) _
  obtain ⟨hg,c0,z0,c1,z1,c2,z2,c3,z3,c4,z4⟩:=hA.five
  have hz0 : (z != 0)=true:=by simpa using h0
  clear hA hz
  go_enter Tryz.func106,Tryz.ntmps106
  go_wp2_with (go_at_call 147;refine (HC _).out.mono ?_;rintro e w1 ⟨rfl,hb1⟩)
  go_ret2
  exact ⟨rfl,on_below hb0 hb1⟩
theorem gn_of (r : Rul) (w : World) (hok : rcheck r=0) : Calls Tryz.prog 106 #[r.val] w (OfPost r w):=by
  have HC:=fun w'=>Lib.hid (gn_check r w' 0 hok)
  have HK:=rcheck_some hok
  obtain ⟨k,b,p,n,s⟩:=r
  have hA:=At.alloc w [.int .i64 k,.int .i64 b,.int .i64 p,.int .i64 n,.int .i64 s] 59
  have hb0 : Below w.heap.size w (w.alloc (.cells #[.int .i64 k,.int .i64 b,.int .i64 p,.int .i64 n,.int .i64 s] 59)):=(Below.refl _ _).alloc (Nat.le_refl _) _
  have HA:=Lib.hid hA
  unfold Rul.val at *
  simp only at *
  clear hA
  rcases HK with ⟨rfl,h1⟩|⟨rfl,h1,h2⟩|⟨rfl,⟨h1,h2⟩,h3,h4⟩
  · have HN:=fun w'=>Lib.hid (bo_new b w')
    have HV:=Lib.hid (after_never h1)
    go_enter Tryz.func106,Tryz.ntmps106
    go_wp2_with (go_at_call 147;refine (HC _).out.mono ?_;rintro e w1 ⟨rfl,hb1⟩;obtain ⟨hg,c0,z0,c1,z1,c2,z2,c3,z3,c4,z4⟩:=(HA.out.on hb1).five)
    go_wp2_with (go_at_call 153;refine (HN _).out.mono ?_;rintro e w2 ⟨rfl,rfl⟩)
    go_ret2
    have hbw:=on_below hb0 hb1
    refine ⟨_,_,fun j=>j=w1.heap.size,rfl,.inl ⟨rfl,rfl,fun _=>Iff.rfl,?_⟩,fun j hj=>by rw [hj];exact hbw.size,hbw.alloc hbw.size _⟩
    show ClampC _ _ (after (-9223372036854775808) b) [.int .i64 b]
    rw [HV.out]
    exact ClampC.made w1 [.int .i64 b] _
  · have HN:=fun w'=>Lib.hid (pu_new s w')
    go_enter Tryz.func106,Tryz.ntmps106
    go_wp2_with (go_at_call 147;refine (HC _).out.mono ?_;rintro e w1 ⟨rfl,hb1⟩;obtain ⟨hg,c0,z0,c1,z1,c2,z2,c3,z3,c4,z4⟩:=(HA.out.on hb1).five)
    go_wp2_with (go_at_call 154;refine (HN _).out.mono ?_;rintro e w2 ⟨rfl,rfl⟩)
    go_ret2
    have hbw:=on_below hb0 hb1
    exact ⟨_,_,fun j=>j=w1.heap.size,rfl,.inr (.inl ⟨rfl,rfl,fun _=>Iff.rfl,ClampC.made w1 [.int .i64 s] _⟩),fun j hj=>by rw [hj];exact hbw.size,hbw.alloc hbw.size _⟩
  · have HN:=fun w'=>Lib.hid (pc_new p n n.toNat (by omega) (by omega) (by omega) w')
    have hpp : (p.toNat : Int)=p:=by omega
    have HP:=Lib.hid hpp
    clear hpp
    go_enter Tryz.func106,Tryz.ntmps106
    go_wp2_with (go_at_call 147;refine (HC _).out.mono ?_;rintro e w1 ⟨rfl,hb1⟩;obtain ⟨hg,c0,z0,c1,z1,c2,z2,c3,z3,c4,z4⟩:=(HA.out.on hb1).five)
    go_wp2_with (go_at_call 155;refine (HN _).out.mono ?_;rintro e w2 ⟨g,S,rfl,hp1,hS1,hb2⟩)
    go_ret2
    have hbw:=on_below hb0 hb1
    have hbw2:=on_below hbw hb2
    refine ⟨_,_,S,rfl,.inr (.inr ⟨rfl,rfl,?_⟩),fun j hj=>Nat.le_trans hbw.size (hS1 j hj),hbw2⟩
    rw [← HP.out] at hp1
    exact perAt_zero [] hp1
open PTree PEv
structure Pt where
  rule : Rul
  recs : List R
  err : Nat
  read : Nat
  is : Int
  til : Int
def Pt.got (p : Pt) : List R:=p.recs.take p.read
def Pt.mark (p : Pt) : Int:=gnow p.rule p.got
def zp : Pt:=⟨⟨0,0,0,0,0⟩,[],0,0,0,0⟩
def pat (ps : List Pt) (i : Nat) : Pt:=ps.getD i zp
theorem pat_lt {ps : List Pt} {i : Nat} (h : i<ps.length) : pat ps i=ps[i]:=by
  unfold pat
  rw [List.getD_eq_getElem?_getD,List.getElem?_eq_getElem h];rfl
theorem pat_set {ps : List Pt} {i : Nat} (h : i<ps.length) (p : Pt) : pat (ps.set i p)=put (pat ps) i p:=by
  funext j
  show (ps.set i p).getD j zp=if j=i then p else ps.getD j zp
  rw [List.getD_eq_getElem?_getD,List.getD_eq_getElem?_getD,List.getElem?_set]
  by_cases e : j=i
  · subst e
    rw [if_pos rfl,if_pos rfl,if_pos h];rfl
  · rw [if_neg (fun h=>e h.symm),if_neg e]
theorem pat_map {ps : List Pt} {f : Pt→Pt} {i : Nat} (h : i<ps.length) : pat (ps.map f) i=f (pat ps i):=by
  rw [pat_lt h,pat_lt (by rw [List.length_map];exact h),List.getElem_map]
theorem pat_mem {ps : List Pt} {i : Nat} (h : i<ps.length) : pat ps i∈ps:=by
  rw [pat_lt h];exact List.getElem_mem h
def kk (ps : List Pt) (i : Nat) : Int:=(pat ps i).mark
def ss (ps : List Pt) (i : Nat) : Int:=(pat ps i).is
structure St where
  ps : List Pt
  timeout : Int
  drift : Int
  clock : Int
  now : Int
def settled (p : Pt) : Pt:=if p.read<p.recs.length then p else { p with is:=if p.err=0 then 2 else 3 }
def faults (p : Pt) (i : Nat) : List Ev:=if p.read<p.recs.length then [] else if p.err=0 then [] else [.fault i p.err]
def least (ps : List Pt) : Int:=ml (kk ps) (ss ps) ps.length
def further (now : Int) (ps : List Pt) : Int:=if least ps≤now then now else least ps
def marksE (now : Int) (ps : List Pt) : List Ev:=if least ps≤now then [] else [.mark (least ps)]
def lateOf (now : Int) (r : R) : Bool:=decide (now≠-9223372036854775808∧r.2.1≤now)
def recAt (p : Pt) : R:=p.recs.getD p.read zr
def Pt.gone (p : Pt) (til : Int) : Pt:={ p with read:=p.read+1,is:=0,til:=til }
def Pt.wait (p : Pt) (clock : Int) : Pt:=if p.is=0∧p.til≤clock then { p with is:=1 } else p
def St.refused (s : St) (i : Int) : Bool :=
  decide (¬ (0≤i∧i<s.ps.length)) || decide (1<ss s.ps i.toNat) || decide (add s.now s.drift<kk s.ps i.toNat)
def St.polled (s : St) (i : Nat) : List Pt:=s.ps.set i (settled ((pat s.ps i).gone (add s.clock s.timeout)))
def St.ticked (s : St) (c : Int) : List Pt:=s.ps.map fun p=>p.wait c
def St.pollS (s : St) (i : Nat) : St:={ s with ps:=s.polled i,now:=further s.now (s.polled i) }
def St.pollE (s : St) (i : Nat) : List Ev :=
  Ev.el (lateOf s.now (recAt (pat s.ps i))) i (recAt (pat s.ps i)).1 (recAt (pat s.ps i)).2.1 (recAt (pat s.ps i)).2.2::(faults ((pat s.ps i).gone (add s.clock s.timeout)) i++marksE s.now (s.polled i))
def St.tickS (s : St) (by_ : Int) : St:={ s with clock:=add s.clock by_,ps:=s.ticked (add s.clock by_),now:=further s.now (s.ticked (add s.clock by_)) }
def St.tickE (s : St) (by_ : Int) : List Ev:=marksE s.now (s.ticked (add s.clock by_))
def St.doS (s : St) (x : Bool×Int) : St :=
  if x.1 then (if x.2<0 then s else s.tickS x.2) else if s.refused x.2 then s else s.pollS x.2.toNat
def St.doE (s : St) (x : Bool×Int) : List Ev :=
  if x.1 then (if x.2<0 then [] else s.tickE x.2) else if s.refused x.2 then [] else s.pollE x.2.toNat
def St.run (s : St) (l : List (Bool×Int)) : St:=l.foldl St.doS s
def St.runE : St→List (Bool×Int)→List Ev
  | _,[]=>[]
  | s,x::l=>s.doE x++(s.doS x).runE l
theorem run_snoc (s : St) (l : List (Bool×Int)) (x : Bool×Int) : s.run (l++[x])=(s.run l).doS x:=by simp [St.run]
theorem runE_append : ∀ (l m : List (Bool×Int)) (s : St),s.runE (l++m)=s.runE l++(s.run l).runE m
  | [],_,_=>rfl
  | x::l,m,s=>by
    show s.doE x++(s.doS x).runE (l++m)=(s.doE x++(s.doS x).runE l)++_
    rw [runE_append l m,List.append_assoc];rfl
theorem runE_snoc (s : St) (l : List (Bool×Int)) (x : Bool×Int) : s.runE (l++[x])=s.runE l++(s.run l).doE x:=by
  rw [runE_append]
  show _++(_++[])=_
  rw [List.append_nil]
theorem run_take (s : St) (l : List (Bool×Int)) (k : Nat) (hk : k<l.length) : s.run (l.take (k+1))=(s.run (l.take k)).doS l[k]:=by
  rw [List.take_succ_eq_append_getElem hk,run_snoc]
theorem runE_take (s : St) (l : List (Bool×Int)) (k : Nat) (hk : k<l.length) : s.runE (l.take (k+1))=s.runE (l.take k)++(s.run (l.take k)).doE l[k]:=by
  rw [List.take_succ_eq_append_getElem hk,runE_snoc]
def Pt.raw (timeout : Int) (r : Rul) (l : List UInt8) : Pt:=⟨r,(parse l).1,(parse l).2.2,0,0,timeout⟩
def raws (timeout : Int) (rs : List Rul) (ls : List (List UInt8)) : List Pt:=List.zipWith (Pt.raw timeout) rs ls
def begun (timeout : Int) (rs : List Rul) (ls : List (List UInt8)) : List Pt:=(raws timeout rs ls).map settled
def faultsTo (ps : List Pt) : Nat→List Ev
  | 0=>[]
  | k+1=>faultsTo ps k++faults (pat ps k) k
def St.new (timeout drift : Int) (rs : List Rul) (ls : List (List UInt8)) : St :=
  ⟨begun timeout rs ls,timeout,drift,0,further (-9223372036854775808) (begun timeout rs ls)⟩
def St.newE (timeout : Int) (rs : List Rul) (ls : List (List UInt8)) : List Ev :=
  faultsTo (raws timeout rs ls) rs.length++marksE (-9223372036854775808) (begun timeout rs ls)
structure Pt.Ok (p : Pt) : Prop where
  chk : rcheck p.rule=0
  fit : p.rule.Fits
  okr : ∀ r∈p.recs,okR r
  short : ∀ r∈p.recs,r.2.2.length≤400
  few : p.recs.length≤400
  er : p.err≤5
  rd : p.read≤p.recs.length
  lo : 0≤p.is
  hi : p.is≤3
  tl : in64 p.til
def Pt.Set (p : Pt) : Prop:=p.is<2↔p.read<p.recs.length
structure St.Ok (s : St) : Prop where
  pt : ∀ p∈s.ps,p.Ok
  set : ∀ p∈s.ps,p.Set
  n : s.ps.length≤8
  tm : 1≤s.timeout∧s.timeout≤9223372036854775807
  dr : 0≤s.drift∧s.drift≤9223372036854775807
  ck : in64 s.clock
  nw : in64 s.now
theorem okR_in {r : R} (h : okR r) : in64 r.1∧in64 r.2.1:=by
  obtain ⟨h1,h2,h3⟩:=h
  have:=err_kind h1
  unfold in64
  refine ⟨?_,h2,h3⟩
  rcases this with h|h <;> rw [h] <;> omega
theorem Pt.Ok.inr {p : Pt} (h : p.Ok) : InR p.recs:=fun r hr=>okR_in (h.okr r hr)
theorem mark_in {p : Pt} (h : p.Ok) : in64 p.mark:=gnow_in (h.inr.take _)
theorem Pt.Ok.gone {p : Pt} (h : p.Ok) {t : Int} (ht : in64 t) (hr : p.read<p.recs.length) : (p.gone t).Ok :=
  ⟨h.chk,h.fit,h.okr,h.short,h.few,h.er,hr,Int.le_refl 0,by show (0 : Int)≤3;omega,ht⟩
theorem Pt.Ok.settled {p : Pt} (h : p.Ok) : (settled p).Ok:=by
  unfold Go.Proofs.YtmimfkhkilijcaaGreatDoor.settled
  split
  · exact h
  · exact ⟨h.chk,h.fit,h.okr,h.short,h.few,h.er,h.rd,by show 0≤(if _ then (2 : Int) else 3);split <;> omega,by show (if _ then (2 : Int) else 3)≤3;split <;> omega,h.tl⟩
theorem Pt.Ok.wait {p : Pt} (h : p.Ok) (c : Int) : (p.wait c).Ok:=by
  unfold Pt.wait
  split
  · exact ⟨h.chk,h.fit,h.okr,h.short,h.few,h.er,h.rd,by show (0 : Int)≤1;omega,by show (1 : Int)≤3;omega,h.tl⟩
  · exact h
theorem settled_set {p : Pt} (h : p.read<p.recs.length→p.is<2) : (settled p).Set:=by
  unfold settled Pt.Set
  by_cases hr : p.read<p.recs.length
  · rw [if_pos hr];exact ⟨fun _=>hr,h⟩
  · rw [if_neg hr]
    refine ⟨fun h=>?_,fun h=>absurd h hr⟩
    exfalso
    have h' : (if p.err=0 then (2 : Int) else 3)<2:=h
    split at h' <;> omega
theorem wait_set {p : Pt} (h : p.Set) (c : Int) : (p.wait c).Set:=by
  unfold Pt.wait
  split
  · next e=>exact ⟨fun _=>h.1 (by rw [e.1];omega),fun _=>by show (1 : Int)<2;omega⟩
  · exact h
theorem settled_mark (p : Pt) : (settled p).mark=p.mark:=by
  unfold settled
  split <;> rfl
theorem wait_mark (p : Pt) (c : Int) : (p.wait c).mark=p.mark:=by
  unfold Pt.wait
  split <;> rfl
theorem least_in {ps : List Pt} (h : ∀ p∈ps,p.Ok) : in64 (least ps) :=
  ml_in fun i hi=>mark_in (h _ (pat_mem hi))
theorem further_in {ps : List Pt} (h : ∀ p∈ps,p.Ok) {now : Int} (hn : in64 now) : in64 (further now ps):=by
  unfold further
  split
  · exact hn
  · exact least_in h
theorem St.Ok.poll {s : St} (h : s.Ok) {i : Nat} (hi : i<s.ps.length) (hr : (pat s.ps i).read<(pat s.ps i).recs.length) : (s.pollS i).Ok:=by
  have hp:=h.pt _ (pat_mem hi)
  have hg : (settled ((pat s.ps i).gone (add s.clock s.timeout))).Ok:=(hp.gone (add_in _ _) hr).settled
  have hs : (settled ((pat s.ps i).gone (add s.clock s.timeout))).Set:=settled_set fun _=>by show (0 : Int)<2;omega
  have h1 : ∀ p∈s.polled i,p.Ok:=fun p hm=>by
    rcases List.mem_or_eq_of_mem_set hm with hm|rfl
    · exact h.pt p hm
    · exact hg
  exact ⟨h1,fun p hm=>by
    rcases List.mem_or_eq_of_mem_set hm with hm|rfl
    · exact h.set p hm
    · exact hs,by show (s.ps.set _ _).length≤8;rw [List.length_set];exact h.n,h.tm,h.dr,h.ck,further_in h1 h.nw⟩
theorem St.Ok.tick {s : St} (h : s.Ok) (x : Int) : (s.tickS x).Ok:=by
  have h1 : ∀ p∈s.ticked (add s.clock x),p.Ok:=fun p hm=>by
    obtain ⟨q,hq,rfl⟩:=List.mem_map.1 hm
    exact (h.pt q hq).wait _
  exact ⟨h1,fun p hm=>by
    obtain ⟨q,hq,rfl⟩:=List.mem_map.1 hm
    exact wait_set (h.set q hq) _,by show (s.ps.map _).length≤8;rw [List.length_map];exact h.n,h.tm,h.dr,add_in _ _,further_in h1 h.nw⟩
theorem refused_not {s : St} {i : Int} (h : s.refused i=false) : 0≤i∧i.toNat<s.ps.length∧ss s.ps i.toNat≤1∧kk s.ps i.toNat≤add s.now s.drift:=by
  unfold St.refused at h
  simp only [Bool.or_eq_false_iff,decide_eq_false_iff_not,Decidable.not_not] at h
  omega
theorem refused_read {s : St} (h : s.Ok) {i : Int} (hr : s.refused i=false) : (pat s.ps i.toNat).read<(pat s.ps i.toNat).recs.length:=by
  obtain ⟨h1,h2,h3,h4⟩:=refused_not hr
  exact (h.set _ (pat_mem h2)).1 (by unfold ss at h3;omega)
theorem St.Ok.do {s : St} (h : s.Ok) (x : Bool×Int) : (s.doS x).Ok:=by
  unfold St.doS
  split
  · split
    · exact h
    · exact h.tick _
  · split
    · exact h
    · next hr =>
      rw [Bool.not_eq_true] at hr
      exact h.poll (refused_not hr).2.1 (refused_read h hr)
theorem St.Ok.run {s : St} (h : s.Ok) : ∀ (l : List (Bool×Int)),(s.run l).Ok:=by
  intro l
  induction l generalizing s with
  | nil=>exact h
  | cons x l ih=>exact ih (h.do x)
theorem doS_len (s : St) (x : Bool×Int) : (s.doS x).ps.length=s.ps.length:=by
  unfold St.doS
  split
  · split
    · rfl
    · show (s.ps.map _).length=_;rw [List.length_map]
  · split
    · rfl
    · show (s.ps.set _ _).length=_;rw [List.length_set]
theorem run_len (l : List (Bool×Int)) : ∀ s : St,(s.run l).ps.length=s.ps.length:=by
  induction l with
  | nil=>intro s;rfl
  | cons x l ih=>intro s;show ((s.doS x).run l).ps.length=_;rw [ih,doS_len]
theorem marksE_len (now : Int) (ps : List Pt) : (marksE now ps).length≤1:=by unfold marksE;split <;> simp
theorem faults_len (p : Pt) (i : Nat) : (faults p i).length≤1:=by
  unfold faults
  split
  · simp
  · split <;> simp
theorem doE_len (s : St) (x : Bool×Int) : (s.doE x).length≤3:=by
  have m:=fun now ps=>marksE_len now ps
  have f:=fun p i=>faults_len p i
  unfold St.doE
  split
  · split
    · simp
    · unfold St.tickE;have:=m s.now (s.ticked (add s.clock x.2));omega
  · split
    · simp
    · unfold St.pollE
      rw [List.length_cons,List.length_append]
      have:=m s.now (s.polled x.2.toNat)
      have:=f ((pat s.ps x.2.toNat).gone (add s.clock s.timeout)) x.2.toNat
      omega
theorem runE_len : ∀ (l : List (Bool×Int)) (s : St),(s.runE l).length≤3*l.length
  | [],_=>by simp [St.runE]
  | x::l,s=>by
    show (s.doE x++(s.doS x).runE l).length≤_
    rw [List.length_append,List.length_cons]
    have:=doE_len s x
    have:=runE_len l (s.doS x)
    omega
theorem faultsTo_len (ps : List Pt) : ∀ k,(faultsTo ps k).length≤k
  | 0=>by simp [faultsTo]
  | k+1=>by
    show (faultsTo ps k++_).length≤_
    rw [List.length_append]
    have:=faultsTo_len ps k
    have:=faults_len (pat ps k) k
    omega
theorem newE_len (t : Int) (rs : List Rul) (ls : List (List UInt8)) : (St.newE t rs ls).length≤rs.length+1:=by
  unfold St.newE
  rw [List.length_append]
  have:=faultsTo_len (raws t rs ls) rs.length
  have:=marksE_len (-9223372036854775808) (begun t rs ls)
  omega
theorem build_big : ∀ (rs : List R),7*rs.length≤(build rs).length∧∀ r∈rs,r.2.2.length≤(build rs).length
  | []=>⟨by simp [build],fun r h=>by cases h⟩
  | r::rs=>by
    obtain ⟨h1,h2⟩:=build_big rs
    have h3:=encR_pos r
    have h4 : r.2.2.length≤(encR r).length:=by
      show _≤(enc _ _ _).length
      rw [enc_len,body_len];omega
    show _≤(encR r++build rs).length∧∀ q∈r::rs,_≤(encR r++build rs).length
    rw [List.length_append,List.length_cons]
    refine ⟨by omega,fun q hq=>?_⟩
    rcases List.mem_cons.1 hq with rfl|hq
    · omega
    · have:=h2 q hq;omega
theorem raw_ok {t : Int} {r : Rul} {l : List UInt8} (hc : rcheck r=0) (hf : r.Fits) (hl : l.length≤400) (ht : 1≤t∧t≤9223372036854775807) : (Pt.raw t r l).Ok:=by
  obtain ⟨h1,h2,h3,h4,h5⟩:=parse_spec l.length l (Nat.le_refl _)
  have hb:=build_big (parse l).1
  rw [h2,List.length_take] at hb
  exact ⟨hc,hf,h1,fun r hr=>by have:=hb.2 r hr;omega,by show (parse l).1.length≤400;omega,h5,Nat.zero_le _,Int.le_refl 0,by show (0 : Int)≤3;omega,by show in64 t;unfold in64;omega⟩
theorem raws_len {t : Int} {rs : List Rul} {ls : List (List UInt8)} (h : ls.length=rs.length) : (raws t rs ls).length=rs.length:=by
  unfold raws
  rw [List.length_zipWith];omega
theorem raws_at {t : Int} {rs : List Rul} {ls : List (List UInt8)} (h : ls.length=rs.length) (i : Nat) (hi : i<rs.length) : pat (raws t rs ls) i=Pt.raw t rs[i] (ls[i]'(by omega)):=by
  rw [pat_lt (by rw [raws_len h];exact hi)]
  unfold raws
  rw [List.getElem_zipWith]
theorem raws_ok {t : Int} {rs : List Rul} {ls : List (List UInt8)} (hc : ∀ r∈rs,rcheck r=0∧r.Fits) (hl : ∀ l∈ls,l.length≤400) (ht : 1≤t∧t≤9223372036854775807) : ∀ p∈raws t rs ls,p.Ok:=by
  intro p hp
  unfold raws at hp
  obtain ⟨i,hi,rfl⟩:=List.mem_iff_getElem.1 hp
  rw [List.getElem_zipWith]
  rw [List.length_zipWith] at hi
  have:=hc _ (List.getElem_mem (show i<rs.length by omega))
  exact raw_ok this.1 this.2 (hl _ (List.getElem_mem (show i<ls.length by omega))) ht
theorem new_ok {t d : Int} {rs : List Rul} {ls : List (List UInt8)} (hn : ls.length=rs.length) (h8 : rs.length≤8) (hc : ∀ r∈rs,rcheck r=0∧r.Fits) (hl : ∀ l∈ls,l.length≤400) (ht : 1≤t∧t≤9223372036854775807) (hd : 0≤d∧d≤9223372036854775807) : (St.new t d rs ls).Ok:=by
  have hr:=raws_ok hc hl ht
  have h1 : ∀ p∈begun t rs ls,p.Ok:=fun p hm=>by
    obtain ⟨q,hq,rfl⟩:=List.mem_map.1 hm
    exact (hr q hq).settled
  refine ⟨h1,fun p hm=>?_,?_,ht,hd,by show in64 0;unfold in64;omega,further_in h1 (by unfold in64;omega)⟩
  · obtain ⟨q,hq,rfl⟩:=List.mem_map.1 hm
    refine settled_set fun _=>?_
    unfold raws at hq
    obtain ⟨i,hi,rfl⟩:=List.mem_iff_getElem.1 hq
    rw [List.getElem_zipWith]
    show (0 : Int)<2;omega
  · show (begun t rs ls).length≤8
    unfold begun
    rw [List.length_map,raws_len hn];exact h8
end Go.Proofs.YtmimfkhkilijcaaGreatDoor
namespace Go.Proofs.YtmimfkhkilijcaaGreatDoor
open PHist PRing PSat PClamp PBound PFrame PSign PTree PEv
def marksTo (ps : List Pt) (q : Int) : Nat→List Int
  | 0=>[]
  | k+1=>if ss ps k=q then marksTo ps q k++[kk ps k] else marksTo ps q k
def minOf : List Int→Int
  | []=>0
  | x::l=>l.foldl min x
theorem minOf_snoc (l : List Int) (x : Int) : minOf (l++[x])=if l=[] then x else min (minOf l) x:=by
  cases l with
  | nil=>rfl
  | cons y l =>
    rw [if_neg (by simp)]
    show (l++[x]).foldl min y=_
    rw [List.foldl_append];rfl
theorem minOf_take (l : List Int) (k : Nat) (h0 : 0<k) (hk : k<l.length) : minOf (l.take (k+1))=min (minOf (l.take k)) l[k]:=by
  rw [List.take_succ_eq_append_getElem hk,minOf_snoc,if_neg]
  intro h
  have:=congrArg List.length h
  rw [List.length_take,List.length_nil] at this
  omega
theorem minOf_one (l : List Int) (h : 0<l.length) : minOf (l.take 1)=l[0]:=by
  cases l with
  | nil=>cases h
  | cons x l=>rfl
theorem marksTo_len (ps : List Pt) (q : Int) : ∀ k,(marksTo ps q k).length≤k
  | 0=>Nat.le_refl _
  | k+1=>by
    have:=marksTo_len ps q k
    unfold marksTo
    split
    · rw [List.length_append];simp;omega
    · omega
theorem scan_marks (ps : List Pt) (q : Int) : ∀ k,(scan (kk ps) (oa (ss ps) q) k).2.2=decide (marksTo ps q k≠[])∧(marksTo ps q k≠[]→(scan (kk ps) (oa (ss ps) q) k).1=minOf (marksTo ps q k))
  | 0=>⟨rfl,fun h=>absurd rfl h⟩
  | k + 1 => by
    obtain ⟨h1,h2⟩:=scan_marks ps q k
    unfold scan marksTo
    by_cases e : ss ps k=q
    · have eo : oa (ss ps) q k=false:=by unfold oa;exact decide_eq_false (by simpa using e)
      rw [if_pos e,minOf_snoc]
      by_cases hm : marksTo ps q k=[]
      · rw [if_pos hm]
        have h3 : (scan (kk ps) (oa (ss ps) q) k).2.2=false:=by rw [h1,hm];rfl
        rw [if_pos ⟨eo,.inl h3⟩]
        exact ⟨by simp,fun _=>rfl⟩
      · rw [if_neg hm]
        have h3 : (scan (kk ps) (oa (ss ps) q) k).2.2=true:=by rw [h1];exact decide_eq_true hm
        have h4:=h2 hm
        rw [h4]
        by_cases hl : kk ps k<minOf (marksTo ps q k)
        · rw [if_pos ⟨eo,.inr hl⟩]
          exact ⟨by simp,fun _=>by show kk ps k=_;omega⟩
        · rw [if_neg (by rintro ⟨-,h|h⟩;· rw [h3] at h;cases h
                         · exact hl h)]
          exact ⟨by rw [h3];simp,fun _=>by rw [h4];omega⟩
    · have eo : oa (ss ps) q k=true:=by unfold oa;exact decide_eq_true (by simpa using e)
      rw [if_neg e,if_neg (by rintro ⟨h,-⟩;rw [eo] at h;cases h)]
      exact ⟨h1,h2⟩
theorem least_marks (ps : List Pt) : least ps=if marksTo ps 0 ps.length≠[] then minOf (marksTo ps 0 ps.length) else if marksTo ps 1 ps.length≠[] then minOf (marksTo ps 1 ps.length) else 9223372036854775807:=by
  unfold least ml mlo
  obtain ⟨a1,a2⟩:=scan_marks ps 0 ps.length
  obtain ⟨b1,b2⟩:=scan_marks ps 1 ps.length
  by_cases h0 : marksTo ps 0 ps.length=[]
  · have d0 : decide (marksTo ps 0 ps.length≠[])=false:=decide_eq_false (fun h=>h h0)
    rw [a1,d0,if_neg Bool.false_ne_true,if_neg (fun h : marksTo ps 0 ps.length≠[]=>h h0)]
    by_cases h1 : marksTo ps 1 ps.length=[]
    · have d1 : decide (marksTo ps 1 ps.length≠[])=false:=decide_eq_false (fun h=>h h1)
      rw [b1,d1,if_neg Bool.false_ne_true,if_neg (fun h : marksTo ps 1 ps.length≠[]=>h h1)]
    · have d1 : decide (marksTo ps 1 ps.length≠[])=true:=decide_eq_true h1
      rw [b1,d1,if_pos rfl,if_pos h1]
      exact b2 h1
  · have d0 : decide (marksTo ps 0 ps.length≠[])=true:=decide_eq_true h0
    rw [a1,d0,if_pos rfl,if_pos h0]
    exact a2 h0
def wq (f : Pt→Pt) : List Pt→Nat→List Pt
  | ps,0=>ps
  | [],_+1=>[]
  | p::ps,q+1=>f p::wq f ps q
theorem wq_zero (f : Pt→Pt) : ∀ ps : List Pt,wq f ps 0=ps
  | []=>rfl
  | _::_=>rfl
theorem wq_all (f : Pt→Pt) : ∀ ps : List Pt,wq f ps ps.length=ps.map f
  | []=>rfl
  | p::ps=>by
    show f p::wq f ps ps.length=_
    rw [wq_all f ps];rfl
theorem wq_at (f : Pt→Pt) : ∀ (ps : List Pt) (q : Nat) (h : q<ps.length),(wq f ps q)[q]? = some ps[q]
  | p::ps,0,_=>rfl
  | p::ps,q+1,h=>wq_at f ps q (by simpa using h)
theorem wq_set (f : Pt→Pt) : ∀ (ps : List Pt) (q : Nat) (h : q<ps.length),(wq f ps q).set q (f ps[q])=wq f ps (q+1)
  | p::ps,0,_=>by
    show f p::ps=f p::wq f ps 0
    rw [wq_zero]
  | p::ps,q+1,h=>by
    have h' : q<ps.length:=by simpa using h
    show f p::(wq f ps q).set q (f (ps[q]'h'))=f p::wq f ps (q+1)
    rw [wq_set f ps q h']
theorem wq_same (f : Pt→Pt) : ∀ (ps : List Pt) (q : Nat) (h : q<ps.length),f ps[q]=ps[q]→wq f ps (q+1)=wq f ps q
  | p::ps,0,_,hf=>by
    show f p::wq f ps 0=p::ps
    rw [wq_zero]
    have hf : f p=p:=hf
    rw [hf]
  | p::ps,q+1,h,hf=>by
    show f p::wq f ps (q+1)=f p::wq f ps q
    rw [wq_same f ps q (by simpa using h) hf]
end Go.Proofs.YtmimfkhkilijcaaGreatDoor
