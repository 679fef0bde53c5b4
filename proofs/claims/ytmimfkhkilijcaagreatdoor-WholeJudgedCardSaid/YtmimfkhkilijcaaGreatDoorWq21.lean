/- KPer: what is reached of them. -/
import Derived.Test.YtmimfkhkilijcaaGreatDoorWq19
import Derived.Test.YtmimfkhkilijcaaGreatDoorWq17
import Derived.Test.YtmimfkhkilijcaaGreatDoorWq20
import Derived.BigRegion
import Derived.Test.YtmimfkhkilijcaaGreatDoorWq18
import Derived.Deep.DeepCutAuto
import Derived.Test.YtmimfkhkilijcaaGreatDoorWq01
set_option linter.unusedVariables false
set_option linter.unusedSimpArgs false
set_option maxRecDepth 100000
set_option maxHeartbeats 8000000
namespace Go.Proofs.YtmimfkhkilijcaaGreatDoor
open Go.ChangeShapes Go.WideShapes Go.ChangeAt Go.RowKit
open PHist PRing PSat PClamp PBound
def pick (L : List Int) (p : Nat) : Int:=((srt L)[prank L.length p - 1]?).getD 0
theorem HistLP.redo {w w' : World} {F : Nat→Prop} {P P' : Pre} {g : Nat} {l : List Int} (h : HistLP w F P g l) (hu : Upd (fun k=>k=g) w w')
    (hA : ∀ v m,At w g [P.a,P.b,P.c,P.d,P.e,v,m]→At w' g [P'.a,P'.b,P'.c,P'.d,P'.e,v,m]) : HistLP w' F P' g l:=by
  obtain ⟨v,rs,h1,h2⟩:=h
  exact ⟨v,rs,⟨hA _ _ h1.at_,h1.sl.upd hu (fun k hk=>(h1.own.2.2 k hk).2),⟨h1.own.1,fun k hk=>Nat.lt_of_lt_of_le (h1.own.2.1 k hk) hu.size,h1.own.2.2⟩⟩,h2⟩
theorem HistLP.cells {w : World} {F : Nat→Prop} {P : Pre} {g : Nat} {l : List Int} (h : HistLP w F P g l) : ∃ v m,At w g [P.a,P.b,P.c,P.d,P.e,v,m]:=by
  obtain ⟨v,rs,h1,h2⟩:=h
  exact ⟨_,_,h1.at_⟩
theorem HistLP.mem {w : World} {F : Nat→Prop} {P : Pre} {g : Nat} {l : List Int} (h : HistLP w F P g l) : F g:=by
  obtain ⟨v,rs,h1,h2⟩:=h
  exact h1.own.1
def Both (w : World) (F R : Nat→Prop) (P : Pre) (g G r : Nat) (L : List Int) : Prop:=HistLP w F P g L∧Ring w R G r (iv L)∧(∀ k,F k→¬ R k)
def BPost (F R : Nat→Prop) (P : Pre) (g G r : Nat) (L : List Int) (w w' : World) : Prop :=
  ∃ F' R',Both w' F' R' P g G r L∧Upd (fun k=>F k∨R k) w w'∧(∀ k,F' k→F k∨w.heap.size≤k)∧(∀ k,R' k→R k∨w.heap.size≤k)
theorem both_push {w w1 : World} {F R : Nat→Prop} {P : Pre} {g G r : Nat} {L L' : List Int} (h : Both w F R P g G r L) (hp : RPush R G r (iv L') w w1) :
    ∃ R',HistLP w1 F P g L∧Ring w1 R' G r (iv L')∧(∀ k,F k→¬ R' k)∧Upd (fun k=>F k∨R k) w w1∧(∀ k,R' k→R k∨w.heap.size≤k):=by
  obtain ⟨R',h1,h2,h3⟩:=hp
  obtain ⟨a1,a2,a3⟩:=h
  refine ⟨R',a1.upd h2 a3,h1,fun k hk hr=>?_,h2.mono (fun k _ hk=>.inr hk),h3⟩
  rcases h3 k hr with h|h
  · exact a3 k hk h
  · have:=a1.lt k hk;omega
theorem both_hist {w w1 w2 : World} {F R R0 : Nat→Prop} {P : Pre} {g G r : Nat} {L L' : List Int} (hr : Ring w1 R G r (iv L')) (hd : ∀ k,F k→¬ R k) (hu : Upd (fun k=>F k∨R0 k) w w1) (hR : ∀ k,R k→R0 k∨w.heap.size≤k) (hp : HLPostP F P g L w1 w2) :
    ∃ F',HistLP w2 F' P g L∧Ring w2 R G r (iv L')∧(∀ k,F' k→¬ R k)∧Upd (fun k=>F k∨R0 k) w w2∧(∀ k,F' k→F k∨w.heap.size≤k)∧(∀ k,F' k→F k∨w1.heap.size≤k):=by
  obtain ⟨F',h1,h2,h3⟩:=hp
  refine ⟨F',h1,hr.upd h2 (fun k hk hf=>hd k hf hk),fun k hk hrk=>?_,hu.trans h2 (fun k _ hk=>.inl hk),fun k hk=>(h3 k hk).imp id (fun h=>Nat.le_trans hu.size h),h3⟩
  rcases h3 k hk with h|h
  · exact hd k h hrk
  · have:=hr.lt k hrk;omega
theorem pc_keep (F R : Nat→Prop) (p0 p1 p2 p3 : Value) (g G r : Nat) (L L' : List Int) (x : Int) (w : World) (h : Both w F R ⟨p0,p1,p2,p3,.pointer (some ⟨G,0,none⟩)⟩ g G r L) (hr : r≤100000) (hL8 : L.length≤850) (hL : push r L x=L') :
    Calls Tryz.prog 310 #[.pointer (some ⟨g,0,none⟩),.int .i64 x] w fun e w'=>e = .returned (.tuple #[])∧BPost F R ⟨p0,p1,p2,p3,.pointer (some ⟨G,0,none⟩)⟩ g G r L' w w':=by
  subst hL
  have hle:=h.2.1.len
  rw [iv_len] at hle
  have hgr : ∀ k,k=g→¬ R k:=fun k hk=>by subst hk;exact h.2.2 k h.1.mem
  obtain ⟨v,m,hat⟩:=h.1.cells
  have hg:=hat.1
  have c4:=(hat.2 4 (by simp)).1
  simp only [List.getElem_cons_zero,List.getElem_cons_succ] at c4
  have HB:=Lib.hid h
  by_cases hroom : L.length<r
  · have HP:=Lib.hid (ri_push R G r L x 0 false w h.2.1 (by omega) (.inl ⟨hroom,rfl,rfl⟩))
    have HL:=Lib.hid (show (x::L).Perm (push r L x) by unfold push;rw [if_pos hroom];exact (List.perm_append_singleton x L).symm)
    clear hat h
    go_enter Tryz.func310,Tryz.ntmps310
    go_wp2_with (go_at_call 312;refine HP.out.mono ?_;rintro e w1 ⟨rfl,hp1⟩;obtain ⟨R1,a1,a2,a3,a4,a5⟩:=both_push HB.out hp1)
    go_wp2_with (go_at_call 314;refine (hl_addP F _ g L x _ a1 (by omega)).mono ?_;rintro e w2 ⟨rfl,hq⟩;obtain ⟨F2,b1,b2,b3,b4,b5,b6⟩:=both_hist a2 a3 a4 a5 hq)
    go_end0
    exact ⟨rfl,F2,R1,⟨b1.perm HL.out,b2,b3⟩,b4,b5,a5⟩
  · have hlr : L.length=r:=by omega
    have h1r:=h.2.1
    obtain ⟨y,T,rfl⟩ : ∃ y T,L=y::T:=by
      cases L with
      | nil=>obtain ⟨v,e,xs,hc,_⟩:=h1r;have:=hc.one;simp at hlr;omega
      | cons y T=>exact ⟨y,T,rfl⟩
    have HP:=Lib.hid (ri_push R G r (y::T) x y true w h.2.1 (by omega) (.inr ⟨by omega,rfl,rfl⟩))
    have HL:=Lib.hid (show (x::T).Perm (push r (y::T) x) by unfold push;rw [if_neg hroom];exact (List.perm_append_singleton x T).symm)
    have hlT : T.length≤850:=by simp at hL8;omega
    clear hat h h1r
    go_enter Tryz.func310,Tryz.ntmps310
    go_wp2_with (go_at_call 312;refine HP.out.mono ?_;rintro e w1 ⟨rfl,hp1⟩;obtain ⟨R1,a1,a2,a3,a4,a5⟩:=both_push HB.out hp1)
    go_wp2_with (go_at_call 313;refine (hl_remP F _ g (y::T) T y _ a1 (by simp;omega) (List.Perm.refl _)).mono ?_;rintro e w2 ⟨rfl,hq⟩;obtain ⟨F2,b1,b2,b3,b4,b5,b6⟩:=both_hist a2 a3 a4 a5 hq)
    go_wp2_with (go_at_call 314;refine (hl_addP F2 _ g T x _ b1 (by omega)).mono ?_;rintro e w3 ⟨rfl,hq3⟩)
    go_end0
    obtain ⟨F3,c1,c2,c3⟩:=hq3
    have hs2:=b4.size
    refine ⟨rfl,F3,R1,⟨c1.perm HL.out,b2.upd c2 (fun k hk hf=>b3 k hf hk),fun k hk hrk=>?_⟩,b4.cat c2 (fun _ _ h=>h) (fun k hk hf=>?_),fun k hk=>?_,a5⟩
    · rcases c3 k hk with h|h
      · exact b3 k h hrk
      · have:=b2.lt k hrk;omega
    · rcases b5 k hf with h|h
      · exact .inl h
      · omega
    · rcases c3 k hk with h|h
      · exact b5 k h
      · exact .inr (by omega)
def pre (n : Int) (b : Bool) (p M : Int) (G : Nat) : Pre:=⟨.int .i64 n,.bool b,.int .i64 p,.int .i64 M,.pointer (some ⟨G,0,none⟩)⟩
def PerC (w : World) (S : Nat→Prop) (g : Nat) (p M m : Int) (r : Nat) (L : List Int) : Prop :=
  ∃ n b G F R,Both w F R (pre n b p M G) g G r L∧(if b=true then n else -9223372036854775808)=m∧∀ k,S k↔F k∨R k
def PPost (S : Nat→Prop) (g : Nat) (p M m : Int) (r : Nat) (L : List Int) (w w' : World) : Prop :=
  ∃ S',PerC w' S' g p M m r L∧Upd S w w'∧∀ k,S' k→S k∨w.heap.size≤k
theorem Both.upd {S : Nat→Prop} {w w' : World} {F R : Nat→Prop} {P : Pre} {g G r : Nat} {L : List Int} (h : Both w F R P g G r L) (hu : Upd S w w') (hn : ∀ k,F k∨R k→¬ S k) : Both w' F R P g G r L :=
  ⟨h.1.upd hu (fun k hk=>hn k (.inl hk)),h.2.1.upd hu (fun k hk=>hn k (.inr hk)),h.2.2⟩
theorem PerC.upd {S T : Nat→Prop} {w w' : World} {g : Nat} {p M m : Int} {r : Nat} {L : List Int} (h : PerC w S g p M m r L) (hu : Upd T w w') (hn : ∀ k,S k→¬ T k) : PerC w' S g p M m r L:=by
  obtain ⟨n,b,G,F,R,h1,h2,h3⟩:=h
  exact ⟨n,b,G,F,R,h1.upd hu (fun k hk=>hn k ((h3 k).2 hk)),h2,h3⟩
theorem PerC.lt {S : Nat→Prop} {w : World} {g : Nat} {p M m : Int} {r : Nat} {L : List Int} (h : PerC w S g p M m r L) : ∀ k,S k→k<w.heap.size:=by
  obtain ⟨n,b,G,F,R,h1,h2,h3⟩:=h
  exact fun k hk=>((h3 k).1 hk).elim (h1.1.lt k) (h1.2.1.lt k)
theorem PerC.mem {S : Nat→Prop} {w : World} {g : Nat} {p M m : Int} {r : Nat} {L : List Int} (h : PerC w S g p M m r L) : S g:=by
  obtain ⟨n,b,G,F,R,h1,h2,h3⟩:=h
  exact (h3 g).2 (.inl h1.1.mem)
theorem PerC.drew {S : Nat→Prop} {w : World} {g : Nat} {p M m : Int} {r : Nat} {L : List Int} (h : PerC w S g p M m r L) : PerC w.drew S g p M m r L:=h.upd (T:=fun _=>False) ((Upd.refl _ _).drew) (fun _ _ h=>h)
theorem PerC.len {S : Nat→Prop} {w : World} {g : Nat} {p M m : Int} {r : Nat} {L : List Int} (h : PerC w S g p M m r L) : L.length≤r:=by
  obtain ⟨n,b,G,F,R,h1,h2,h3⟩:=h
  have:=h1.2.1.len
  rwa [iv_len] at this
theorem PerC.cells {S : Nat→Prop} {w : World} {g : Nat} {p M m : Int} {r : Nat} {L : List Int} (h : PerC w S g p M m r L) : ∃ x : Int×Bool×Value×Value×Value,At w g (.int .i64 x.1 :: .bool x.2.1::[.int .i64 p,.int .i64 M,x.2.2.1,x.2.2.2.1,x.2.2.2.2])∧(if x.2.1=true then x.1 else -9223372036854775808)=m:=by
  obtain ⟨n,b,G,F,R,h1,h2,h3⟩:=h
  obtain ⟨v,q,hat⟩:=h1.1.cells
  exact ⟨⟨n,b,_,v,q⟩,hat,h2⟩
theorem PPost.below {S : Nat→Prop} {g B : Nat} {p M m : Int} {r : Nat} {L : List Int} {a w w' : World} (h : PPost S g p M m r L w w') (hb : Below B a w) (hB : B≤w.heap.size) (hS : ∀ k,S k→B≤k) :
    ∃ S',PerC w' S' g p M m r L∧(∀ k,S' k→B≤k)∧Below B a w'∧Upd S w w'∧∀ k,S' k→S k∨w.heap.size≤k:=by
  obtain ⟨S',h1,h2,h3⟩:=h
  exact ⟨S',h1,fun k hk=>(h3 k hk).elim (hS k) (fun h=>by omega),hb.upd h2 hB (fun i _ hi=>hS i hi),h2,h3⟩
def PNew (p : Int) (r : Nat) (w : World) (e : Ending) (w' : World) : Prop :=
  ∃ g S,e = .returned (.pointer (some ⟨g,0,none⟩))∧PerC w' S g p (-9223372036854775808) (-9223372036854775808) r []∧(∀ k,S k→w.heap.size≤k)∧Below w.heap.size w w'
theorem HistLP.made (w : World) (P : Pre) (e : TypeId) : HistLP (w.alloc (.cells #[P.a,P.b,P.c,P.d,P.e,.slice none 0 0,.int .i64 0] e)) (fun k=>k=w.heap.size) P w.heap.size [] :=
  ⟨.slice none 0 0,[],⟨At.alloc w [P.a,P.b,P.c,P.d,P.e,.slice none 0 0,.int .i64 0] e,Sl.nil _ _ _,⟨rfl,fun k hk=>by subst hk;simp,fun k hk=>by simp [Value.ownBlock] at hk⟩⟩,⟨List.Pairwise.nil,fun r hr=>by cases hr⟩,List.Perm.refl _⟩
theorem pc_new (p : Int) (n : Int) (r : Nat) (hn : n=r) (h1 : 1≤r) (h2 : r≤100000) (w : World) : Calls Tryz.prog 155 #[.int .i64 p,.int .i64 n] w (PNew p r w):=by
  subst hn
  have HN:=Lib.hid (ri_new r r (by omega) (by omega) w)
  go_enter Tryz.func155,Tryz.ntmps155
  go_wp2_with (go_at_call 205;refine HN.out.mono ?_;rintro e w1 ⟨rfl,hr1,hb1⟩)
  go_ret
  have hlt : w.heap.size<w1.heap.size:=hr1.lt _ rfl
  refine ⟨_,fun k=>k=w1.heap.size∨k=w.heap.size,rfl,⟨0,false,w.heap.size,(fun k=>k=w1.heap.size),(fun k=>k=w.heap.size),⟨?_,?_,fun k hk hk2=>by omega⟩,rfl,fun k=>Iff.rfl⟩,fun k hk=>by omega,hb1.alloc hb1.size _⟩
  · exact HistLP.made w1 (pre 0 false p (-9223372036854775808) w.heap.size) _
  · exact hr1.upd (S:=fun _=>False) ((Upd.refl _ _).alloc _) (fun _ _ h=>h)
theorem pc_now (S : Nat→Prop) (g : Nat) (p M m : Int) (r : Nat) (L : List Int) (w : World) (h : PerC w S g p M m r L) :
    Calls Tryz.prog 120 #[.pointer (some ⟨g,0,none⟩)] w fun e w'=>e = .returned (.int .i64 m)∧w=w':=by
  obtain ⟨x,hat,hm⟩:=h.cells
  exact cl_now g m _ w ⟨_,_,hat,hm⟩
theorem pc_lag (S : Nat→Prop) (g : Nat) (p : Nat) (pz M m : Int) (r : Nat) (L : List Int) (z : Int) (w : World) (h : PerC w S g pz M m r L) (hpz : pz=p) (hp : p≤100) (hlen : L.length≤900) (hz : pick L p=z) :
    Calls Tryz.prog 308 #[.pointer (some ⟨g,0,none⟩)] w fun e w'=>e = .returned (.int .i64 z)∧Below w.heap.size w w':=by
  subst hpz
  obtain ⟨x,hat,hm⟩:=h.cells
  obtain ⟨n,b,G,F,R,h1,h2,h3⟩:=h
  have HH:=fun w' (h : HistLP w' F (pre n b p M G) g L)=>Lib.hid (hl_percentP F _ g L p p rfl _ z _ w' h (by omega) hp rfl hz.symm rfl)
  have HL:=Lib.hid h1.1
  have hg:=hat.1
  have c2:=(hat.2 2 (by simp)).1
  simp only [List.getElem_cons_zero,List.getElem_cons_succ] at c2
  clear hat hm h1 h2 h3 hz
  go_enter Tryz.func308,Tryz.ntmps308
  go_wp2
  go_region_with (first|(go_at_call 311;refine (HH _ (HL.out.upd (S:=fun _=>False) ((Upd.refl _ _).drew) (fun _ _ h=>h))).out.mono ?_;rintro e w1 ⟨rfl,hb1⟩))
  all_goals
    go_wp2
    go_ret
    exact ⟨rfl,on_below ((Below.refl _ _).drew) hb1⟩
end Go.Proofs.YtmimfkhkilijcaaGreatDoor
namespace Go.Proofs.YtmimfkhkilijcaaGreatDoor
open PHist PRing PSat PClamp PBound
def lagsOf (M : Int) : List Int→List Int
  | []=>[]
  | t::l=>sub (if M<t then t else M) t::lagsOf (if M<t then t else M) l
theorem lagsOf_len : ∀ (l : List Int) (M : Int),(lagsOf M l).length=l.length
  | [],_=>rfl
  | t::l,M=>by show (lagsOf _ l).length+1=l.length+1;rw [lagsOf_len l]
theorem lagsOf_snoc : ∀ (l : List Int) (M x : Int),lagsOf M (l++[x])=lagsOf M l++[sub (most M (l++[x])) x]
  | [],_,_=>rfl
  | t::l,M,x=>by show _::lagsOf _ (l++[x])=_;rw [lagsOf_snoc l];rfl
theorem lagsOf_in : ∀ (l : List Int) (M : Int),∀ x∈lagsOf M l,-9223372036854775808≤x∧x≤9223372036854775807
  | t::l,M,x,h=>by
    rcases List.mem_cons.1 h with rfl|h
    · exact sub_in _ _
    · exact lagsOf_in l _ x h
def lagsAll (l : List Int) : List Int:=lagsOf (-9223372036854775808) l
theorem lagsAll_len (l : List Int) : (lagsAll l).length=l.length:=lagsOf_len l _
theorem lagsAll_next (l : List Int) (k : Nat) (h : k<l.length) : lagsAll (l.take (k+1))=lagsAll (l.take k)++[sub (most (-9223372036854775808) (l.take (k+1))) l[k]]:=by
  unfold lagsAll
  rw [List.take_succ_eq_append_getElem h,lagsOf_snoc]
def kept (w : Nat) (l : List Int) : List Int:=last w (lagsAll l)
theorem kept_next (w : Nat) (h1 : 1≤w) (l : List Int) (k : Nat) (h : k<l.length) : push w (kept w (l.take k)) (sub (most (-9223372036854775808) (l.take (k+1))) l[k])=kept w (l.take (k+1)):=by
  unfold kept
  rw [last_push w h1,lagsAll_next l k h]
theorem kept_mem {w : Nat} {l : List Int} {x : Int} (h : x∈kept w l) : x∈lagsAll l:=List.mem_of_mem_drop h
theorem kept_in (w : Nat) (l : List Int) : ∀ x∈kept w l,-9223372036854775808≤x∧x≤9223372036854775807:=fun x hx=>lagsOf_in l _ x (kept_mem hx)
theorem kept_len (w : Nat) (l : List Int) : (kept w l).length≤l.length:=by unfold kept;rw [last_len,lagsAll_len];omega
def nowTo (p w : Nat) (l : List Int) : Nat→Int
  | 0=>-9223372036854775808
  | k+1=>if nowTo p w l k<after (most (-9223372036854775808) (l.take (k+1))) (pick (kept w (l.take (k+1))) p) then after (most (-9223372036854775808) (l.take (k+1))) (pick (kept w (l.take (k+1))) p) else nowTo p w l k
theorem nowTo_take (p w : Nat) (l : List Int) (j : Nat) : ∀ k,k≤j→nowTo p w (l.take j) k=nowTo p w l k
  | 0,_=>rfl
  | k+1,h=>by
    unfold nowTo
    rw [nowTo_take p w l j k (by omega),List.take_take,show min (k+1) j=k+1 by omega]
theorem nowTo_in (p w : Nat) (l : List Int) : ∀ k,-9223372036854775808≤nowTo p w l k∧nowTo p w l k≤9223372036854775807
  | 0=>by unfold nowTo;omega
  | k+1=>by
    have h1:=nowTo_in p w l k
    have h2:=after_in (most (-9223372036854775808) (l.take (k+1))) (pick (kept w (l.take (k+1))) p)
    unfold inR at h2
    unfold nowTo
    split <;> omega
theorem pick_in {L : List Int} {p : Nat} (h : ∀ x∈L,-9223372036854775808≤x∧x≤9223372036854775807) : -9223372036854775808≤pick L p∧pick L p≤9223372036854775807:=by
  unfold pick
  cases hq : (srt L)[prank L.length p - 1]? with
  | none=>simp
  | some z=>exact h z ((srt_mem z L).1 (List.mem_of_getElem? hq))
open Go.ChangeShapes Go.WideShapes Go.ChangeAt Go.RowKit
theorem both_most {w : World} {F R : Nat→Prop} {n : Int} {b : Bool} {p M : Int} {g G r : Nat} {L : List Int} (h : Both w F R (pre n b p M G) g G r L) (M' : Int) :
    Both (w.setCell ⟨g,3,none⟩ (.int .i64 M')) F R (pre n b p M' G) g G r L∧Upd (fun k=>k=g) w (w.setCell ⟨g,3,none⟩ (.int .i64 M')):=by
  have hu : Upd (fun k=>k=g) w (w.setCell ⟨g,3,none⟩ (.int .i64 M')):=(Upd.refl (fun k=>k=g) w).setCell (p:=⟨g,3,none⟩) (fun _=>rfl) _
  refine ⟨⟨h.1.redo hu (fun v m hA=>?_),h.2.1.upd hu (fun k hk e=>by subst e;exact h.2.2 k h.1.mem hk),h.2.2⟩,hu⟩
  have:=hA.set 3 (by simp) (.int .i64 M')
  simpa [pre] using this
def RaiseB (F R : Nat→Prop) (p M A m : Int) (g G r : Nat) (L : List Int) (w w' : World) : Prop :=
  ∃ n b,Both w' F R (pre n b p M G) g G r L∧(if b=true then n else -9223372036854775808)=(if m<A then A else m)∧Upd (fun k=>k=g) w w'
theorem both_raise (F R : Nat→Prop) (n : Int) (b : Bool) (p M m A : Int) (g G r : Nat) (L : List Int) (w : World) (h : Both w F R (pre n b p M G) g G r L) (hm : (if b=true then n else -9223372036854775808)=m) :
    Calls Tryz.prog 213 #[.pointer (some ⟨g,0,none⟩),.int .i64 A] w fun e w'=>e = .returned (.bool (decide (m<A)))∧RaiseB F R p M A m g G r L w w':=by
  obtain ⟨v,rs,hC,hR⟩:=h.1
  refine (cl_raise g m A _ w ⟨n,b,hC.at_,hm⟩).mono ?_
  rintro e w' ⟨rfl,⟨n',b',hat',hm'⟩,hu⟩
  refine ⟨rfl,n',b',⟨⟨v,rs,⟨hat',hC.sl.upd hu (fun k hk=>(hC.own.2.2 k hk).2),⟨hC.own.1,fun k hk=>Nat.lt_of_lt_of_le (hC.own.2.1 k hk) hu.size,hC.own.2.2⟩⟩,hR⟩,h.2.1.upd hu (fun k hk e=>by subst e;exact h.2.2 k h.1.mem hk),h.2.2⟩,hm',hu⟩
theorem pc_seen (S : Nat→Prop) (g p : Nat) (M m : Int) (r : Nat) (L : List Int) (kd t : Int) (s : ByteArray) (w : World) (h : PerC w S g p M m r L) (hp : p≤100) (hr : r≤100000) (hL8 : L.length≤850)
    (hMb : -9223372036854775808≤M∧M≤9223372036854775807) (ht : -9223372036854775808≤t∧t≤9223372036854775807) (M' lag z A m' : Int) (L' : List Int)
    (hM' : (if M<t then t else M)=M') (hlag : sub M' t=lag) (hL' : push r L lag=L') (hz : pick L' p=z) (hzb : -9223372036854775808≤z∧z≤9223372036854775807) (hA : after M' z=A) (hm' : (if m<A then A else m)=m') :
    Calls Tryz.prog 309 #[.pointer (some ⟨g,0,none⟩),.agg #[.int .i64 kd,.int .i64 t,.string s]] w fun e w'=>e = .returned (.tuple #[])∧PPost S g p M' m' r L' w w':=by
  have hM'b : -9223372036854775808≤M'∧M'≤9223372036854775807:=by rw [← hM'];split <;> omega
  have hmx : max M t=M':=by rw [← hM'];split <;> omega
  have hle:=h.len
  have hL9 : L'.length≤900:=by rw [← hL'];unfold push;split <;> simp <;> omega
  have hlt:=h.lt g h.mem
  have hPC:=h
  obtain ⟨n,b,G,F,R,h1,h2,h3⟩:=h
  have hne : g≠w.heap.size:=by omega
  have hA0:=At.alloc w [.int .i64 kd,.int .i64 t,.string s] 54
  have hu : Upd (fun _=>False) w (w.alloc (.cells #[.int .i64 kd,.int .i64 t,.string s] 54)):=(Upd.refl _ w).alloc _
  have h1a:=h1.upd hu (fun _ _ h=>h)
  have HSUB:=fun w'=>Lib.hid (sat_sub M' t w' hM'b ht)
  rw [hlag] at HSUB
  have HKP:=fun w' h=>Lib.hid (pc_keep F R (.int .i64 n) (.bool b) (.int .i64 p) (.int .i64 M') g G r L L' lag w' h hr hL8 hL')
  have HAF:=fun w'=>Lib.hid (bo_after M' z w' hM'b hzb)
  rw [hA] at HAF
  have HM:=Lib.hid hm'
  have HZ:=Lib.hid hz
  clear hM' hlag hL' hz hA hm' hPC
  by_cases hx : M<t
  · have hE:=Lib.hid (show t=M' by omega)
    go_enter Tryz.func309,Tryz.ntmps309
    go_wp2
    generalize hW : w.alloc (.cells #[.int .i64 kd,.int .i64 t,.string s] 54)=w1 at *
    change At w1 w.heap.size [.int .i64 kd,.int .i64 t,.string s] at hA0
    obtain ⟨hr0,r0,y0,r1,y1,r2,y2⟩:=hA0.three
    have HB:=Lib.hid h1a
    obtain ⟨v,q,hat⟩:=h1a.1.cells
    have hg:=hat.1
    have c3:=(hat.2 3 (by simp)).1
    have f3:=(hat.2 3 (by simp)).2
    simp only [pre,List.getElem_cons_zero,List.getElem_cons_succ] at c3
    have HA0:=Lib.hid hA0
    clear hat h1 h1a
    go_region
    obtain ⟨hB2,hu2⟩:=both_most HB.out t
    have hB2:=hB2.upd (S:=fun _=>False) ((Upd.refl _ _).drew) (fun _ _ h=>h)
    have hA2:=(HA0.out.upd hu2 (by omega)).drew
    have hU2 : Upd (fun k=>k=g) w (w1.setCell ⟨g,3,none⟩ (.int .i64 t)).drew:=(hu.mono (fun _ _ h=>h.elim)).trans hu2.drew (fun i hi e=>e)
    change Both (w1.setCell ⟨g,3,none⟩ (.int .i64 t)).drew _ _ _ _ _ _ _ at hB2
    change At (w1.setCell ⟨g,3,none⟩ (.int .i64 t)).drew _ _ at hA2
    have HU2:=Lib.hid hU2
    have hs1:=hU2.size
    clear c3 f3 hg r0 y0 r1 y1 r2 y2 hr0 hu2 hU2 hmx hu
    generalize (w1.setCell ⟨g,3,none⟩ (.int .i64 t)).drew=w2 at *
    rw [hE.out] at hB2
    obtain ⟨hr0,r0,y0,r1,y1,r2,y2⟩:=hA2.three
    obtain ⟨v,q,hat⟩:=hB2.1.cells
    have hg:=hat.1
    have c3:=(hat.2 3 (by simp)).1
    simp only [pre,List.getElem_cons_zero,List.getElem_cons_succ] at c3
    have HB2:=Lib.hid hB2
    clear hat hB2 hA2
    go_wp2
    go_region_with (first|(go_at_call 304;refine (HSUB _).out.mono ?_;rintro e w' ⟨rfl,rfl⟩)|(go_at_call 310;refine (HKP _ (HB2.out.upd (S:=fun _=>False) ((Upd.refl _ _).drew) (fun _ _ h=>h))).out.mono ?_;rintro e w3 ⟨rfl,hq3⟩))
    all_goals
      obtain ⟨F3,R3,B3,U3,g3,q3⟩:=hq3
      have hlt3:=B3.1.lt g B3.1.mem
      have hP3 : PerC w3 (fun k=>F3 k∨R3 k) g p M' m r L':=⟨n,b,G,F3,R3,B3,h2,fun k=>Iff.rfl⟩
      have HU3:=Lib.hid (show Upd S w w3 from (HU2.out.mono (fun k hk e=>by subst e;exact (h3 k).2 (.inl HB.out.1.mem))).drew.trans U3 (fun k hk e=>(h3 k).2 e))
      have HLG:=Lib.hid (pc_lag _ g p p M' m r L' z _ hP3.drew rfl hp hL9 HZ.out)
      have HRS:=fun w' h=>Lib.hid (both_raise F3 R3 n b p M' m A g G r L' w' h h2)
      have HB3:=Lib.hid (B3.upd (S:=fun _=>False) ((Upd.refl _ _).drew) (fun _ _ h=>h))
      have HF3:=Lib.hid (show ∀ k,F3 k∨R3 k→S k∨w.heap.size≤k from fun k hk=>by
        have hs2 : w.heap.size≤w2.heap.size:=hs1
        rcases hk with hk|hk
        · rcases g3 k hk with h|h
          · exact .inl ((h3 k).2 (.inl h))
          · exact .inr (Nat.le_trans hs2 h)
        · rcases q3 k hk with h|h
          · exact .inl ((h3 k).2 (.inr h))
          · exact .inr (Nat.le_trans hs2 h))
      obtain ⟨v5,q5,hat5⟩:=B3.1.cells
      have hg5:=hat5.1
      have c5:=(hat5.2 3 (by simp)).1
      simp only [pre,List.getElem_cons_zero,List.getElem_cons_succ] at c5
      clear hat5 B3 hP3 U3 r0 y0 r1 y1 r2 y2 hr0 c3 hg g3 q3
      go_wp2
      go_region_with (first|(go_at_call 308;refine HLG.out.mono ?_;rintro e w4 ⟨rfl,hb4⟩;have hB4:=HB3.out.upd (Upd.of_below hb4 (S:=fun k=>w3.drew.heap.size≤k) (fun _ _ h=>h)) (fun k hk hk2=>by have h1:=HB3.out.1.lt k;have h2:=HB3.out.2.1.lt k;rcases hk with h|h;exact absurd (h1 h) (by omega);exact absurd (h2 h) (by omega));have c6 : w4.cell? ⟨g,3,none⟩=some (.int .i64 M'):=(hb4.cell (p:=⟨g,3,none⟩) hg5).trans c5)|(go_at_call 303;refine (HAF _).out.mono ?_;rintro e w' ⟨rfl,rfl⟩)|(go_at_call 213;refine (HRS _ hB4).out.mono ?_;rintro e w5 ⟨rfl,hrs⟩))
      all_goals
        obtain ⟨n6,b6,B6,m6,U6⟩:=hrs
        go_end0
        refine ⟨rfl,fun k=>F3 k∨R3 k,⟨n6,b6,G,F3,R3,B6,by rw [m6,HM.out],fun k=>Iff.rfl⟩,?_,HF3.out⟩
        exact ((HU3.out.drew.trans (Upd.of_below hb4 (S:=fun _=>False) (fun k hk h=>by omega)) (fun _ _ h=>h.elim)).trans U6 (fun k hk e=>by subst e;exact (h3 k).2 (.inl HB.out.1.mem)))
  · have hE:=Lib.hid (show M=M' by omega)
    go_enter Tryz.func309,Tryz.ntmps309
    go_wp2
    generalize hW : w.alloc (.cells #[.int .i64 kd,.int .i64 t,.string s] 54)=w1 at *
    change At w1 w.heap.size [.int .i64 kd,.int .i64 t,.string s] at hA0
    obtain ⟨hr0,r0,y0,r1,y1,r2,y2⟩:=hA0.three
    have HB:=Lib.hid h1a
    obtain ⟨v,q,hat⟩:=h1a.1.cells
    have hg:=hat.1
    have c3:=(hat.2 3 (by simp)).1
    have f3:=(hat.2 3 (by simp)).2
    simp only [pre,List.getElem_cons_zero,List.getElem_cons_succ] at c3
    have HA0:=Lib.hid hA0
    clear hat h1 h1a
    go_region
    obtain ⟨hB2,hu2⟩:=both_most HB.out M
    have hB2:=hB2.upd (S:=fun _=>False) ((Upd.refl _ _).drew) (fun _ _ h=>h)
    have hA2:=(HA0.out.upd hu2 (by omega)).drew
    have hU2 : Upd (fun k=>k=g) w (w1.setCell ⟨g,3,none⟩ (.int .i64 M)).drew:=(hu.mono (fun _ _ h=>h.elim)).trans hu2.drew (fun i hi e=>e)
    change Both (w1.setCell ⟨g,3,none⟩ (.int .i64 M)).drew _ _ _ _ _ _ _ at hB2
    change At (w1.setCell ⟨g,3,none⟩ (.int .i64 M)).drew _ _ at hA2
    have HU2:=Lib.hid hU2
    have hs1:=hU2.size
    clear c3 f3 hg r0 y0 r1 y1 r2 y2 hr0 hu2 hU2 hmx hu
    generalize (w1.setCell ⟨g,3,none⟩ (.int .i64 M)).drew=w2 at *
    rw [hE.out] at hB2
    obtain ⟨hr0,r0,y0,r1,y1,r2,y2⟩:=hA2.three
    obtain ⟨v,q,hat⟩:=hB2.1.cells
    have hg:=hat.1
    have c3:=(hat.2 3 (by simp)).1
    simp only [pre,List.getElem_cons_zero,List.getElem_cons_succ] at c3
    have HB2:=Lib.hid hB2
    clear hat hB2 hA2
    go_wp2
    go_region_with (first|(go_at_call 304;refine (HSUB _).out.mono ?_;rintro e w' ⟨rfl,rfl⟩)|(go_at_call 310;refine (HKP _ (HB2.out.upd (S:=fun _=>False) ((Upd.refl _ _).drew) (fun _ _ h=>h))).out.mono ?_;rintro e w3 ⟨rfl,hq3⟩))
    all_goals
      obtain ⟨F3,R3,B3,U3,g3,q3⟩:=hq3
      have hlt3:=B3.1.lt g B3.1.mem
      have hP3 : PerC w3 (fun k=>F3 k∨R3 k) g p M' m r L':=⟨n,b,G,F3,R3,B3,h2,fun k=>Iff.rfl⟩
      have HU3:=Lib.hid (show Upd S w w3 from (HU2.out.mono (fun k hk e=>by subst e;exact (h3 k).2 (.inl HB.out.1.mem))).drew.trans U3 (fun k hk e=>(h3 k).2 e))
      have HLG:=Lib.hid (pc_lag _ g p p M' m r L' z _ hP3.drew rfl hp hL9 HZ.out)
      have HRS:=fun w' h=>Lib.hid (both_raise F3 R3 n b p M' m A g G r L' w' h h2)
      have HB3:=Lib.hid (B3.upd (S:=fun _=>False) ((Upd.refl _ _).drew) (fun _ _ h=>h))
      have HF3:=Lib.hid (show ∀ k,F3 k∨R3 k→S k∨w.heap.size≤k from fun k hk=>by
        have hs2 : w.heap.size≤w2.heap.size:=hs1
        rcases hk with hk|hk
        · rcases g3 k hk with h|h
          · exact .inl ((h3 k).2 (.inl h))
          · exact .inr (Nat.le_trans hs2 h)
        · rcases q3 k hk with h|h
          · exact .inl ((h3 k).2 (.inr h))
          · exact .inr (Nat.le_trans hs2 h))
      obtain ⟨v5,q5,hat5⟩:=B3.1.cells
      have hg5:=hat5.1
      have c5:=(hat5.2 3 (by simp)).1
      simp only [pre,List.getElem_cons_zero,List.getElem_cons_succ] at c5
      clear hat5 B3 hP3 U3 r0 y0 r1 y1 r2 y2 hr0 c3 hg g3 q3
      go_wp2
      go_region_with (first|(go_at_call 308;refine HLG.out.mono ?_;rintro e w4 ⟨rfl,hb4⟩;have hB4:=HB3.out.upd (Upd.of_below hb4 (S:=fun k=>w3.drew.heap.size≤k) (fun _ _ h=>h)) (fun k hk hk2=>by have h1:=HB3.out.1.lt k;have h2:=HB3.out.2.1.lt k;rcases hk with h|h;exact absurd (h1 h) (by omega);exact absurd (h2 h) (by omega));have c6 : w4.cell? ⟨g,3,none⟩=some (.int .i64 M'):=(hb4.cell (p:=⟨g,3,none⟩) hg5).trans c5)|(go_at_call 303;refine (HAF _).out.mono ?_;rintro e w' ⟨rfl,rfl⟩)|(go_at_call 213;refine (HRS _ hB4).out.mono ?_;rintro e w5 ⟨rfl,hrs⟩))
      all_goals
        obtain ⟨n6,b6,B6,m6,U6⟩:=hrs
        go_end0
        refine ⟨rfl,fun k=>F3 k∨R3 k,⟨n6,b6,G,F3,R3,B6,by rw [m6,HM.out],fun k=>Iff.rfl⟩,?_,HF3.out⟩
        exact ((HU3.out.drew.trans (Upd.of_below hb4 (S:=fun _=>False) (fun k hk h=>by omega)) (fun _ _ h=>h.elim)).trans U6 (fun k hk e=>by subst e;exact (h3 k).2 (.inl HB.out.1.mem)))
def PerAt (w : World) (S : Nat→Prop) (g p win : Nat) (l : List Int) (k : Nat) : Prop:=PerC w S g p (most (-9223372036854775808) (l.take k)) (nowTo p win l k) win (kept win (l.take k))
def AtPost (S : Nat→Prop) (g p win : Nat) (l : List Int) (k : Nat) (w w' : World) : Prop:=PPost S g p (most (-9223372036854775808) (l.take k)) (nowTo p win l k) win (kept win (l.take k)) w w'
theorem PerAt.upd {S T : Nat→Prop} {w w' : World} {g p win : Nat} {l : List Int} {k : Nat} (h : PerAt w S g p win l k) (hu : Upd T w w') (hn : ∀ k,S k→¬ T k) : PerAt w' S g p win l k:=PerC.upd h hu hn
theorem PerAt.lt {S : Nat→Prop} {w : World} {g p win : Nat} {l : List Int} {k : Nat} (h : PerAt w S g p win l k) : ∀ k,S k→k<w.heap.size:=PerC.lt h
theorem perAt_zero {w : World} {S : Nat→Prop} {g p win : Nat} (l : List Int) (h : PerC w S g p (-9223372036854775808) (-9223372036854775808) win []) : PerAt w S g p win l 0:=by
  unfold PerAt
  simpa [kept,lagsAll,lagsOf,last,most,nowTo] using h
theorem pc_next (S : Nat→Prop) (g p win : Nat) (l : List Int) (k : Nat) (hk : k<l.length) (hb : ∀ x∈l,-9223372036854775808≤x∧x≤9223372036854775807) (kd : Int) (s : ByteArray) (w : World) (h : PerAt w S g p win l k) (hp : p≤100) (h1 : 1≤win) (hwin : win≤100000) (hll : l.length≤800) :
    Calls Tryz.prog 309 #[.pointer (some ⟨g,0,none⟩),.agg #[.int .i64 kd,.int .i64 l[k],.string s]] w fun e w'=>e = .returned (.tuple #[])∧AtPost S g p win l (k+1) w w':=by
  have hm:=most_in64 (l.take k) (fun x hx=>hb x (List.mem_of_mem_take hx))
  have ht:=most_take l (-9223372036854775808) k hk
  exact pc_seen S g p _ _ win _ kd l[k] s w h hp hwin (by have:=kept_len win (l.take k);rw [List.length_take] at this;omega) hm (hb _ (List.getElem_mem hk)) _ _ _ _ _ _ ht.symm rfl (kept_next win h1 l k hk) rfl (pick_in (kept_in win _)) rfl rfl
theorem pc_at_now (S : Nat→Prop) (g p win : Nat) (l : List Int) (k : Nat) (w : World) (h : PerAt w S g p win l k) :
    Calls Tryz.prog 120 #[.pointer (some ⟨g,0,none⟩)] w fun e w'=>e = .returned (.int .i64 (nowTo p win l k))∧w=w' :=
  pc_now S g p _ _ win _ w h
end Go.Proofs.YtmimfkhkilijcaaGreatDoor
