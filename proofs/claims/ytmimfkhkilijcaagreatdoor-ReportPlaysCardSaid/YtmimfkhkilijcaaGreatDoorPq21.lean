/- KMerge: what is reached of them. -/
import Derived.Test.YtmimfkhkilijcaaGreatDoorPq20
import Derived.Test.YtmimfkhkilijcaaGreatDoorPq14
import Derived.Test.YtmimfkhkilijcaaGreatDoorPq01
set_option linter.unusedVariables false
set_option linter.unusedSimpArgs false
set_option maxRecDepth 100000
set_option maxHeartbeats 8000000
namespace PTree
theorem wz_congr {n : Nat} {K K' : Nat→Int} (hK : ∀ i,i<n→K i=K' i) {a b : Int} (ha : -1≤a∧a<n) (hb : -1≤b∧b<n) : wz K a b=wz K' a b:=by
  unfold wz
  by_cases e1 : a = -1
  · rw [if_pos e1,if_pos e1]
  · rw [if_neg e1,if_neg e1]
    by_cases e2 : b = -1
    · rw [if_pos e2,if_pos e2]
    · rw [if_neg e2,if_neg e2,hK a.toNat (by omega),hK b.toNat (by omega)]
theorem TMid.congr {n : Nat} {K K' : Nat→Int} {out out' : Nat→Bool} {V : Nat→Int} (h : TInv n K out V) (hK : ∀ i,i<n→K i=K' i) (ho : ∀ i,i<n→out i=out' i) : TInv n K' out' V:=by
  refine ⟨fun i hi=>by rw [← ho i hi];exact h.leaf i hi,fun k k0 k1=>.inl ?_,h.rng⟩
  rw [← wz_congr hK (h.rng _ (by omega)) (h.rng _ (by omega))]
  exact h.right k k0 k1
theorem scan_congr {K K' : Nat→Int} {out out' : Nat→Bool} : ∀ n,(∀ i,i<n→K i=K' i)→(∀ i,i<n→out i=out' i)→scan K out n=scan K' out' n
  | 0,_,_=>rfl
  | n+1,hK,ho=>by
    unfold scan
    rw [scan_congr n (fun i hi=>hK i (by omega)) (fun i hi=>ho i (by omega)),hK n (by omega),ho n (by omega)]
def oa (S : Nat→Int) (q : Int) : Nat→Bool:=fun j=>decide (S j≠q)
theorem oa_put (S : Nat→Int) (q : Int) (i : Nat) (x : Int) (b : Bool) (hb : b=decide (x≠q)) : put (oa S q) i b=oa (put S i x) q:=by
  subst hb
  funext j
  unfold oa put
  by_cases e : j=i
  · rw [if_pos e,if_pos e]
  · rw [if_neg e,if_neg e]
def mlo (K : Nat→Int) (o0 o1 : Nat→Bool) (n : Nat) : Int :=
  if (scan K o0 n).2.2 then (scan K o0 n).1 else if (scan K o1 n).2.2 then (scan K o1 n).1 else 9223372036854775807
def ml (K S : Nat→Int) (n : Nat) : Int:=mlo K (oa S 0) (oa S 1) n
theorem ml_in {K S : Nat→Int} {n : Nat} (hK : ∀ i,i<n→-9223372036854775808≤K i∧K i≤9223372036854775807) : -9223372036854775808≤ml K S n∧ml K S n≤9223372036854775807:=by
  unfold ml mlo
  cases hs : (scan K (oa S 0) n).2.2
  · rw [if_neg (by simp)]
    cases ht : (scan K (oa S 1) n).2.2
    · rw [if_neg (by simp)];omega
    · obtain ⟨p,e,hp,ho,hb⟩:=scan_some K _ n ht
      rw [if_pos rfl,e];exact hK p hp
  · obtain ⟨p,e,hp,ho,hb⟩:=scan_some K _ n hs
    rw [if_pos rfl,e];exact hK p hp
end PTree
namespace Go.Proofs.YtmimfkhkilijcaaGreatDoor
open Go.ChangeShapes Go.WideShapes Go.ChangeAt Go.RowKit
open PTree PClamp
theorem TreeI.congr {w : World} {F : Nat→Prop} {g n : Nat} {K K' : Nat→Int} {out out' : Nat→Bool} (h : TreeI w F g n K out) (hK : ∀ i,i<n→K i=K' i) (ho : ∀ i,i<n→out i=out' i) : TreeI w F g n K' out':=by
  obtain ⟨gk,gw,V,h1,h2,h3,h4⟩:=h
  exact ⟨gk,gw,V,⟨h1.at_,h1.keys.congr (fun j hj=>by rw [hK j hj]),h1.won,h1.n1,h1.n2,h1.n3⟩,h2.congr hK ho,h3,h4⟩
theorem ClampC.two {w : World} {g : Nat} {m : Int} {a b : Value} (h : ClampC w g m [a,b]) : g<w.heap.size∧w.cell? ⟨g,2,none⟩=some a∧w.cell? ⟨g,3,none⟩=some b:=by
  obtain ⟨n,c,h1,h2⟩:=h
  exact ⟨h1.1,(h1.2 2 (by simp)).1,(h1.2 3 (by simp)).1⟩
def MergeC (w : World) (F : Nat→Prop) (g n : Nat) (K : Nat→Int) (o0 o1 : Nat→Bool) (now : Int) : Prop :=
  ∃ F0 g0 F1 g1,ClampC w g now [.pointer (some ⟨g0,0,none⟩),.pointer (some ⟨g1,0,none⟩)]∧TreeI w F0 g0 n K o0∧TreeI w F1 g1 n K o1∧(∀ b,F b↔b=g∨F0 b∨F1 b)∧¬ F0 g∧¬ F1 g∧(∀ b,F0 b→¬ F1 b)
def MePost (F : Nat→Prop) (g n : Nat) (K : Nat→Int) (o0 o1 : Nat→Bool) (now : Int) (w w' : World) : Prop:=MergeC w' F g n K o0 o1 now∧Upd F w w'
section
variable {w w' : World} {F : Nat→Prop} {g n : Nat} {K K' : Nat→Int} {o0 o1 o0' o1' : Nat→Bool} {now : Int}
theorem MergeC.upd {S : Nat→Prop} (h : MergeC w F g n K o0 o1 now) (hu : Upd S w w') (hn : ∀ b,F b→¬ S b) : MergeC w' F g n K o0 o1 now:=by
  obtain ⟨F0,g0,F1,g1,h1,h2,h3,h4,h5⟩:=h
  exact ⟨F0,g0,F1,g1,h1.upd hu (hn _ ((h4 _).2 (.inl rfl))),h2.upd hu (fun b hb=>hn _ ((h4 _).2 (.inr (.inl hb)))),h3.upd hu (fun b hb=>hn _ ((h4 _).2 (.inr (.inr hb)))),h4,h5⟩
theorem MergeC.lt (h : MergeC w F g n K o0 o1 now) : ∀ b,F b→b<w.heap.size:=by
  obtain ⟨F0,g0,F1,g1,h1,h2,h3,h4,h5⟩:=h
  intro b hb
  rcases (h4 b).1 hb with rfl|hb|hb
  · exact h1.lt
  · exact h2.lt b hb
  · exact h3.lt b hb
theorem MergeC.on (h : MergeC w F g n K o0 o1 now) (hb : Below w.heap.size w w') : MergeC w' F g n K o0 o1 now :=
  h.upd (S:=fun k=>w.heap.size≤k) (Upd.of_below hb (fun _ _ h=>h)) (fun b hb h2=>by have:=h.lt b hb;omega)
theorem MergeC.alloc (h : MergeC w F g n K o0 o1 now) (o : Obj) : MergeC (w.alloc o) F g n K o0 o1 now:=h.upd (S:=fun _=>False) ((Upd.refl _ _).alloc o) (fun _ _=>id)
theorem MergeC.drew (h : MergeC w F g n K o0 o1 now) : MergeC w.drew F g n K o0 o1 now:=h.upd (S:=fun _=>False) ((Upd.refl _ _).drew) (fun _ _=>id)
theorem MergeC.congr (h : MergeC w F g n K o0 o1 now) (hK : ∀ i,i<n→K i=K' i) (h0 : ∀ i,i<n→o0 i=o0' i) (h1 : ∀ i,i<n→o1 i=o1' i) : MergeC w F g n K' o0' o1' now:=by
  obtain ⟨F0,g0,F1,g1,k1,k2,k3,k4,k5⟩:=h
  exact ⟨F0,g0,F1,g1,k1,k2.congr hK h0,k3.congr hK h1,k4,k5⟩
end
theorem me_mark (F : Nat→Prop) (g n : Nat) (K : Nat→Int) (o0 o1 : Nat→Bool) (now : Int) (i : Nat) (x : Int) (w : World) (h : MergeC w F g n K o0 o1 now) (hi : i<n) :
    Calls Tryz.prog 151 #[.pointer (some ⟨g,0,none⟩),.int .i64 i,.int .i64 x] w fun e w'=>e = .returned (.bool true)∧MePost F g n (put K i x) o0 o1 now w w':=by
  obtain ⟨F0,g0,F1,g1,hC,h0,h1,hF,n0,n1,n01⟩:=h
  have H0:=Lib.hid (ti_set F0 g0 n K o0 i x w h0 hi)
  have H1:=fun w' (h : TreeI w' F1 g1 n K o1)=>Lib.hid (ti_set F1 g1 n K o1 i x w' h hi)
  obtain ⟨hg,c2,c3⟩:=hC.two
  have HC:=Lib.hid hC
  have HT:=Lib.hid h1
  have HF:=Lib.hid hF
  have HN:=Lib.hid n01
  clear hC h0 h1 hF n01
  go_enter Tryz.func151,Tryz.ntmps151
  go_wp2_with (go_at_call 203;(with_reducible refine H0.out.mono ?_);rintro e w1 ⟨rfl,k1⟩;have hC1:=HC.out.upd k1.2 n0;obtain ⟨hg1,d2,d3⟩:=hC1.two;have hT1:=HT.out.upd k1.2 (fun b hb hb0=>HN.out b hb0 hb))
  go_wp2_with (go_at_call 203;(with_reducible refine (H1 _ hT1).out.mono ?_);rintro e w2 ⟨rfl,k2⟩)
  go_ret
  exact ⟨rfl,⟨F0,g0,F1,g1,hC1.upd k2.2 n1,k1.1.upd k2.2 (fun b hb hb1=>HN.out b hb hb1),k2.1,HF.out,n0,n1,HN.out⟩,(k1.2.mono (fun b _ hb=>(HF.out b).2 (.inr (.inl hb)))).trans k2.2 (fun b _ hb=>(HF.out b).2 (.inr (.inr hb)))⟩
theorem me_is (F : Nat→Prop) (g n : Nat) (K : Nat→Int) (o0 o1 : Nat→Bool) (now : Int) (i : Nat) (x : Int) (b0 b1 : Bool) (w : World) (h : MergeC w F g n K o0 o1 now) (hi : i<n) (hb0 : (x != 0)=b0) (hb1 : (x != 1)=b1) :
    Calls Tryz.prog 150 #[.pointer (some ⟨g,0,none⟩),.int .i64 i,.int .i64 x] w fun e w'=>e = .returned (.bool true)∧MePost F g n K (put o0 i b0) (put o1 i b1) now w w':=by
  obtain ⟨F0,g0,F1,g1,hC,h0,h1,hF,n0,n1,n01⟩:=h
  have H0:=Lib.hid (ti_leave F0 g0 n K o0 i b0 w h0 hi)
  have H1:=fun w' (h : TreeI w' F1 g1 n K o1)=>Lib.hid (ti_leave F1 g1 n K o1 i b1 w' h hi)
  obtain ⟨hg,c2,c3⟩:=hC.two
  have HC:=Lib.hid hC
  have HT:=Lib.hid h1
  have HF:=Lib.hid hF
  have HN:=Lib.hid n01
  clear hC h0 h1 hF n01
  go_enter Tryz.func150,Tryz.ntmps150
  go_wp2_with (go_at_call 202;(with_reducible refine H0.out.mono ?_);rintro e w1 ⟨rfl,k1⟩;have hC1:=HC.out.upd k1.2 n0;obtain ⟨hg1,d2,d3⟩:=hC1.two;have hT1:=HT.out.upd k1.2 (fun b hb hb0=>HN.out b hb0 hb))
  go_wp2_with (go_at_call 202;(with_reducible refine (H1 _ hT1).out.mono ?_);rintro e w2 ⟨rfl,k2⟩)
  go_ret
  exact ⟨rfl,⟨F0,g0,F1,g1,hC1.upd k2.2 n1,k1.1.upd k2.2 (fun b hb hb1=>HN.out b hb hb1),k2.1,HF.out,n0,n1,HN.out⟩,(k1.2.mono (fun b _ hb=>(HF.out b).2 (.inr (.inl hb)))).trans k2.2 (fun b _ hb=>(HF.out b).2 (.inr (.inr hb)))⟩
theorem me_at (F : Nat→Prop) (g n : Nat) (K : Nat→Int) (o0 o1 : Nat→Bool) (now : Int) (i : Nat) (w : World) (h : MergeC w F g n K o0 o1 now) (hi : i<n) :
    Calls Tryz.prog 119 #[.pointer (some ⟨g,0,none⟩),.int .i64 i] w fun e w'=>e = .returned (.int .i64 (K i))∧w=w':=by
  obtain ⟨F0,g0,F1,g1,hC,h0,h1,hF,n0,n1,n01⟩:=h
  have H0:=Lib.hid (ti_key F0 g0 n K o0 i w h0 hi)
  obtain ⟨hg,c2,c3⟩:=hC.two
  clear hC h0 h1 hF n01 hi
  go_enter Tryz.func119,Tryz.ntmps119
  go_wp2_with (go_at_call 174;(with_reducible refine H0.out.mono ?_);rintro e w1 ⟨rfl,rfl⟩)
  go_ret
  exact ⟨rfl,rfl⟩
theorem me_at_none (F : Nat→Prop) (g n : Nat) (K : Nat→Int) (o0 o1 : Nat→Bool) (now : Int) (i : Int) (w : World) (h : MergeC w F g n K o0 o1 now) (hi : ¬ (0≤i∧i<n)) :
    Calls Tryz.prog 119 #[.pointer (some ⟨g,0,none⟩),.int .i64 i] w fun e w'=>e = .returned (.int .i64 0)∧w=w':=by
  obtain ⟨F0,g0,F1,g1,hC,h0,h1,hF,n0,n1,n01⟩:=h
  have H0:=Lib.hid (ti_key_none F0 g0 n K o0 i w h0 hi)
  obtain ⟨hg,c2,c3⟩:=hC.two
  clear hC h0 h1 hF n01 hi
  go_enter Tryz.func119,Tryz.ntmps119
  go_wp2_with (go_at_call 174;(with_reducible refine H0.out.mono ?_);rintro e w1 ⟨rfl,rfl⟩)
  go_ret
  exact ⟨rfl,rfl⟩
theorem me_now (F : Nat→Prop) (g n : Nat) (K : Nat→Int) (o0 o1 : Nat→Bool) (now : Int) (w : World) (h : MergeC w F g n K o0 o1 now) :
    Calls Tryz.prog 120 #[.pointer (some ⟨g,0,none⟩)] w fun e w'=>e = .returned (.int .i64 now)∧w=w':=by
  obtain ⟨F0,g0,F1,g1,hC,h0,h1,hF,n0,n1,n01⟩:=h
  exact cl_now g now _ w hC
theorem me_least (F : Nat→Prop) (g n : Nat) (K : Nat→Int) (o0 o1 : Nat→Bool) (now : Int) (L : Int) (w : World) (h : MergeC w F g n K o0 o1 now) (hL : mlo K o0 o1 n=L) :
    Calls Tryz.prog 214 #[.pointer (some ⟨g,0,none⟩)] w fun e w'=>e = .returned (.int .i64 L)∧w=w':=by
  obtain ⟨F0,g0,F1,g1,hC,h0,h1,hF,n0,n1,n01⟩:=h
  unfold mlo at hL
  obtain ⟨⟨k0,p0,b0⟩,hs0⟩ : ∃ t,scan K o0 n=t:=⟨_,rfl⟩
  obtain ⟨⟨k1,p1,b1⟩,hs1⟩ : ∃ t,scan K o1 n=t:=⟨_,rfl⟩
  have H0:=Lib.hid (ti_least F0 g0 n K o0 w h0 k0 p0 b0 hs0)
  have H1:=Lib.hid (ti_least F1 g1 n K o1 w h1 k1 p1 b1 hs1)
  rw [hs0,hs1] at hL
  simp only at hL
  have HL:=Lib.hid hL
  obtain ⟨hg,c2,c3⟩:=hC.two
  have x0 : ∀ w,(Instr.index 186 (.agg #[.pointer (some ⟨g0,0,none⟩),.pointer (some ⟨g1,0,none⟩)]) (.int .i64 0)).run Tryz.prog w = .ok (.pointer (some ⟨g0,0,none⟩)) w:=fun _=>by kernel_rfl
  have x1 : ∀ w,(Instr.index 186 (.agg #[.pointer (some ⟨g0,0,none⟩),.pointer (some ⟨g1,0,none⟩)]) (.int .i64 1)).run Tryz.prog w = .ok (.pointer (some ⟨g1,0,none⟩)) w:=fun _=>by kernel_rfl
  clear hC h0 h1 hF n01 hL hs0 hs1
  go_enter Tryz.func214,Tryz.ntmps214
  go_wp2
  go_loop [12] (fun i=>∃ k : Nat,i = .int .i64 k∧k≤2∧(1≤k→b0=false)∧(2≤k→b1=false)) (fun i=>2 - (intOf i).toNat)
  case atStart=>exact ⟨0,rfl,by omega,fun h=>by omega,fun h=>by omega⟩
  case round =>
    obtain ⟨k,rfl,hk,hz0,hz1⟩:=hrel
    have HZ0:=Lib.hid hz0
    have HZ1:=Lib.hid hz1
    clear hz0 hz1
    obtain rfl|rfl|rfl : k=0∨k=1∨k=2:=by omega
    · cases b0
      · go_wp2_with (go_at_call 249;(with_reducible refine H0.out.mono ?_);rintro e w1 ⟨rfl,rfl⟩)
        go_round
        case rel=>exact ⟨1,by go_num,by omega,fun _=>by simp,fun h=>by omega⟩
        case measure=>simp [intOf]
      · go_wp2_with (go_at_call 249;(with_reducible refine H0.out.mono ?_);rintro e w1 ⟨rfl,rfl⟩)
        go_ret
        exact ⟨ret_int (by simpa using HL.out),rfl⟩
    · obtain rfl:=HZ0.out (by omega)
      cases b1
      · go_wp2_with (go_at_call 249;(with_reducible refine H1.out.mono ?_);rintro e w1 ⟨rfl,rfl⟩)
        go_round
        case rel=>exact ⟨2,by go_num,by omega,fun _=>by simp,fun _=>by simp⟩
        case measure=>simp [intOf]
      · go_wp2_with (go_at_call 249;(with_reducible refine H1.out.mono ?_);rintro e w1 ⟨rfl,rfl⟩)
        go_ret
        exact ⟨ret_int (by simpa using HL.out),rfl⟩
    · obtain rfl:=HZ0.out (by omega)
      obtain rfl:=HZ1.out (by omega)
      go_wp2
      go_ret
      exact ⟨ret_int (by simpa using HL.out),rfl⟩
theorem me_adv (F : Nat→Prop) (g n : Nat) (K : Nat→Int) (o0 o1 : Nat→Bool) (now : Int) (L : Int) (w : World) (h : MergeC w F g n K o0 o1 now) (hL : mlo K o0 o1 n=L) (hlt : now<L) :
    Calls Tryz.prog 164 #[.pointer (some ⟨g,0,none⟩)] w fun e w'=>e = .returned (.tuple #[.int .i64 L,.bool true])∧MePost F g n K o0 o1 L w w':=by
  have HL:=Lib.hid (me_least F g n K o0 o1 now L w.drew h.drew hL)
  obtain ⟨F0,g0,F1,g1,hC,h0,h1,hF,n0,n1,n01⟩:=h
  have HU:=Lib.hid (cl_up g now L _ w.drew hC.drew hlt)
  have hg:=hC.lt
  have HT0:=Lib.hid h0
  have HT1:=Lib.hid h1
  have HF:=Lib.hid hF
  have HN:=Lib.hid n01
  clear hC h0 h1 hF n01 hlt hL
  go_enter Tryz.func164,Tryz.ntmps164
  go_wp2
  go_region_with (first|(go_at_call 214;(with_reducible refine HL.out.mono ?_);rintro e w1 ⟨rfl,rfl⟩)|(go_at_call 213;(with_reducible refine HU.out.mono ?_);rintro e w2 ⟨rfl,hC2,hU2⟩;have HW:=Lib.hid (cl_now g L _ w2 hC2)))
  all_goals go_wp2_with (go_at_call 120;(with_reducible refine HW.out.mono ?_);rintro e w3 ⟨rfl,rfl⟩)
  all_goals go_ret2
  all_goals (have hU:=((Upd.refl (fun b=>b=g) w).drew).trans hU2 (fun _ _ e=>e))
  all_goals exact ⟨rfl,⟨F0,g0,F1,g1,hC2,HT0.out.upd hU (fun b hb e=>n0 (e▸hb)),HT1.out.upd hU (fun b hb e=>n1 (e▸hb)),HF.out,n0,n1,HN.out⟩,hU.mono (fun b _ e=>(HF.out b).2 (.inl e))⟩
theorem me_adv_not (F : Nat→Prop) (g n : Nat) (K : Nat→Int) (o0 o1 : Nat→Bool) (now : Int) (L : Int) (w : World) (h : MergeC w F g n K o0 o1 now) (hL : mlo K o0 o1 n=L) (hlt : L≤now) :
    Calls Tryz.prog 164 #[.pointer (some ⟨g,0,none⟩)] w fun e w'=>e = .returned (.tuple #[.int .i64 0,.bool false])∧MePost F g n K o0 o1 now w w':=by
  have HL:=Lib.hid (me_least F g n K o0 o1 now L w.drew h.drew hL)
  have HH:=Lib.hid h
  obtain ⟨F0,g0,F1,g1,hC,h0,h1,hF,n0,n1,n01⟩:=h
  have HU:=Lib.hid (cl_stay g now L _ w.drew hC.drew hlt)
  have hg:=hC.lt
  clear hC h0 h1 hF n01 hlt hL
  go_enter Tryz.func164,Tryz.ntmps164
  go_wp2
  go_region_with (first|(go_at_call 214;(with_reducible refine HL.out.mono ?_);rintro e w1 ⟨rfl,rfl⟩)|(go_at_call 213;(with_reducible refine HU.out.mono ?_);rintro e w2 ⟨rfl,rfl⟩))
  all_goals go_wp2
  all_goals go_ret2
  all_goals exact ⟨rfl,HH.out.drew,(Upd.refl F w).drew⟩
def MeNew (n : Nat) (w : World) (e : Ending) (w' : World) : Prop:=∃ F g,e = .returned (.pointer (some ⟨g,0,none⟩))∧MergeC w' F g n (fun _=>-9223372036854775808) (oa (fun _=>0) 0) (oa (fun _=>0) 1) (-9223372036854775808)∧(∀ b,F b→w.heap.size≤b)∧Below w.heap.size w w'
theorem put_if_int (k : Nat) : put (fun j=>if j<k then (-9223372036854775808 : Int) else 0) k (-9223372036854775808)=fun j=>if j<k+1 then -9223372036854775808 else 0:=by
  funext j
  unfold put
  by_cases e : j=k
  · rw [if_pos e,if_pos (by omega)]
  · rw [if_neg e]
    show (if j<k then (-9223372036854775808 : Int) else 0)=_
    by_cases e2 : j<k
    · rw [if_pos e2,if_pos (by omega)]
    · rw [if_neg e2,if_neg (by omega)]
theorem put_if_bool (k : Nat) : put (fun j=>decide (j<k)) k true=fun j=>decide (j<k+1):=by
  funext j
  unfold put
  by_cases e : j=k
  · rw [if_pos e,decide_eq_true (by omega)]
  · rw [if_neg e]
    show decide (j<k)=_
    by_cases e2 : j<k
    · rw [decide_eq_true e2,decide_eq_true (by omega)]
    · rw [decide_eq_false e2,decide_eq_false (by omega)]
theorem put_false (k : Nat) : put (fun _=>false) k false=fun _=>false:=by
  funext j
  unfold put
  split <;> rfl
theorem me_new (a : Int) (n : Nat) (w : World) (hn : max a 0=(n : Int)) (hb : n≤1000000) :
    Calls Tryz.prog 104 #[.int .i64 a] w fun e w'=>MeNew n w e w':=by
  have HN:=fun w=>Lib.hid (ti_new a n w hn hb)
  clear hn
  go_enter Tryz.func104,Tryz.ntmps104
  go_wp2_with (first|(go_at_call 148;have i0':=i0;(with_reducible refine (HN _).out.mono ?_);intro e w2 h2;obtain ⟨F1,g1,rfl,i1,f1,l1,b1⟩:=h2;have i2:=(i0.on b1).alloc (.cells #[.int .i64 0,.bool false,.pointer (some ⟨g0,0,none⟩),.pointer (some ⟨g1,0,none⟩)] 188);have i3:=i1.alloc (.cells #[.int .i64 0,.bool false,.pointer (some ⟨g0,0,none⟩),.pointer (some ⟨g1,0,none⟩)] 188);have hC:=ClampC.made w2 [.pointer (some ⟨g0,0,none⟩),.pointer (some ⟨g1,0,none⟩)] 188;obtain ⟨hg,c2,c3⟩:=hC.two)|(go_at_call 148;(with_reducible refine (HN _).out.mono ?_);intro e w1 h1;obtain ⟨F0,g0,rfl,i0,f0,l0,b0⟩:=h1)|(go_at_call 149;(with_reducible refine (ti_len _ _ _ _ _ _ i2).mono ?_);rintro e w3 ⟨rfl,rfl⟩))
  have hM : MergeC (w2.alloc (.cells #[.int .i64 0,.bool false,.pointer (some ⟨g0,0,none⟩),.pointer (some ⟨g1,0,none⟩)] 188)) (fun b=>b=w2.heap.size∨F0 b∨F1 b) w2.heap.size n (fun j=>if j<0 then -9223372036854775808 else 0) (fun _=>false) (fun j=>decide (j<0)) (-9223372036854775808):=by
    refine ⟨F0,g0,F1,g1,hC,i2.congr (fun j _=>by simp) (fun _ _=>rfl),i3.congr (fun j _=>by simp) (fun _ _=>by simp),fun b=>Iff.rfl,fun hf=>?_,fun hf=>?_,fun b hb0 hb1=>?_⟩
    · have:=i0.lt _ hf;have:=b1.size;omega
    · have:=i1.lt _ hf;omega
    · have:=i0.lt _ hb0;have:=l1 _ hb1;omega
  have hB : Below w.heap.size w (w2.alloc (.cells #[.int .i64 0,.bool false,.pointer (some ⟨g0,0,none⟩),.pointer (some ⟨g1,0,none⟩)] 188)):=(on_below b0 b1).alloc (on_below b0 b1).size _
  have hown : Hid (∀ b,(b=w2.heap.size∨F0 b∨F1 b)→w.heap.size≤b):=Lib.hid (by
    rintro b (rfl|hb|hb)
    · exact (on_below b0 b1).size
    · exact l0 b hb
    · have:=l1 b hb;have:=b0.size;omega)
  clear i0 i1 i2 i3 hC c2 c3 HN b0 b1 l0 l1 f0 f1 hg
  generalize w2.heap.size=g at *
  obtain ⟨F,hF⟩ : ∃ F : Nat→Prop,(fun b=>b=g∨F0 b∨F1 b)=F:=⟨_,rfl⟩
  rw [hF] at hM
  have hown2 : Hid (∀ b,F b→w.heap.size≤b):=Lib.hid (fun b hb=>hown.out b (by rw [← hF] at hb;exact hb))
  clear hown hF
  go_loopw [18] (fun i wr=>∃ k : Nat,k≤n∧i = .int .i64 k∧MergeC wr F g n (fun j=>if j<k then -9223372036854775808 else 0) (fun _=>false) (fun j=>decide (j<k)) (-9223372036854775808)∧Below w.heap.size w wr) (fun i _=>n - (intOf i).toNat)
  case atStart=>exact ⟨0,Nat.zero_le _,rfl,hM,hB⟩
  case round =>
    clear hM hB
    obtain ⟨k,hk,rfl,hM,hB⟩:=hrel
    by_cases hlt : k<n
    · have H0:=Lib.hid (me_is F g n _ _ _ _ k 0 false true _ hM hlt rfl rfl)
      have H1:=fun w' o0 o1 (h : MergeC w' F g n (fun j=>if j<k then -9223372036854775808 else 0) o0 o1 (-9223372036854775808))=>Lib.hid (me_mark F g n _ o0 o1 _ k (-9223372036854775808) w' h hlt)
      have HB:=Lib.hid hB
      clear hM hB
      go_wp2_with (go_at_call 150;(with_reducible refine H0.out.mono ?_);rintro e w4 ⟨rfl,h4⟩;have hB4:=HB.out.upd h4.2 HB.out.size (fun b _ hb=>hown2.out b hb))
      go_wp2_with (go_at_call 151;refine (H1 _ _ _ h4.1).out.mono ?_;rintro e w5 ⟨rfl,h5⟩;have hB5:=hB4.upd h5.2 hB4.size (fun b _ hb=>hown2.out b hb))
      go_roundw
      case rel=>exact ⟨k+1,by omega,by go_num,by have:=h5.1;rw [put_if_int,put_if_bool,put_false] at this;exact this,hB5⟩
      case measure=>simp [intOf];omega
    · obtain rfl : k=n:=by omega
      go_wp2
      go_ret
      exact ⟨F,g,rfl,hM.congr (fun i hi=>by simp [hi]) (fun i hi=>by simp [oa]) (fun i hi=>by simp [oa,hi]),hown2.out,hB⟩
structure PRow (w : World) (b off n : Nat) (K S : Nat→Int) : Prop where
  lt : 0<n→b<w.heap.size
  km : ∀ j,j<n→w.cell? ⟨b,off+j*2,none⟩=some (.int .i64 (K j))∧w.frozen? ⟨b,off+j*2,none⟩=false
  is : ∀ j,j<n→w.cell? ⟨b,off+j*2+1,none⟩=some (.int .i64 (S j))∧w.frozen? ⟨b,off+j*2+1,none⟩=false
section
variable {w w' : World} {b off n : Nat} {K S : Nat→Int}
theorem PRow.upd {X : Nat→Prop} (h : PRow w b off n K S) (hu : Upd X w w') (hn : 0<n→¬ X b) : PRow w' b off n K S :=
  ⟨fun h0=>Nat.lt_of_lt_of_le (h.lt h0) hu.size,
   fun j hj=>⟨(hu.cell (p:=⟨b,off+j*2,none⟩) (h.lt (by omega)) (hn (by omega))).trans (h.km j hj).1,(hu.frozen (p:=⟨b,off+j*2,none⟩) (h.lt (by omega)) (hn (by omega))).trans (h.km j hj).2⟩,
   fun j hj=>⟨(hu.cell (p:=⟨b,off+j*2+1,none⟩) (h.lt (by omega)) (hn (by omega))).trans (h.is j hj).1,(hu.frozen (p:=⟨b,off+j*2+1,none⟩) (h.lt (by omega)) (hn (by omega))).trans (h.is j hj).2⟩⟩
theorem PRow.on (h : PRow w b off n K S) (hb : Below w.heap.size w w') : PRow w' b off n K S :=
  h.upd (X:=fun k=>w.heap.size≤k) (Upd.of_below hb (fun _ _ h=>h)) (fun h0=>by have:=h.lt h0;omega)
theorem PRow.alloc (h : PRow w b off n K S) (o : Obj) : PRow (w.alloc o) b off n K S:=h.upd (X:=fun _=>False) ((Upd.refl _ _).alloc o) (fun _=>id)
theorem PRow.drewN (h : PRow w b off n K S) (m : Nat) : PRow (w.drewN m) b off n K S:=h.upd (X:=fun _=>False) ((Upd.refl _ _).drewN m) (fun _=>id)
end
theorem ref_least1 (a : Option Addr) (b off n c : Nat) (K S : Nat→Int) (q : Int) (w : World) (h : PRow w b off n K S) (ha : 0<n→a=some ⟨b,off,none⟩) (hn : n≤4096) (k : Int) (ok : Bool) (hk : (scan K (oa S q) n).1=k) (hok : (scan K (oa S q) n).2.2=ok) :
    Calls Tryz.prog 143 #[.slice a n c,.int .i64 q] w fun e w'=>e = .returned (.tuple #[.int .i64 k,.bool ok])∧w=w':=by
  have HK:=Lib.hid hk
  have HO:=Lib.hid hok
  clear hk hok
  go_enter Tryz.func143,Tryz.ntmps143
  go_wp2
  go_loop [6,7,8] (fun sk so si=>∃ j : Nat,j≤n∧si = .int .i64 j∧sk = .int .i64 (scan K (oa S q) j).1∧so = .bool (scan K (oa S q) j).2.2) (fun _ _ si=>n - (intOf si).toNat)
  case atStart=>exact ⟨0,Nat.zero_le _,rfl,rfl,rfl⟩
  case round =>
    obtain ⟨j,hj,rfl,rfl,rfl⟩:=hrel
    by_cases hlt : j<n
    · obtain rfl:=ha (by omega)
      have hb:=h.lt (by omega)
      have cm:=(h.km j hlt).1
      have ci:=(h.is j hlt).1
      have hs1 : scan K (oa S q) (j+1)=if oa S q j=false∧((scan K (oa S q) j).2.2=false∨K j<(scan K (oa S q) j).1) then (K j,(j : Int),true) else scan K (oa S q) j:=rfl
      have HS1:=Lib.hid hs1
      have hoa : oa S q j=decide (S j≠q):=rfl
      have HOA:=Lib.hid hoa
      clear hs1 hoa h ha
      generalize scan K (oa S q) j=s at *
      obtain ⟨key,place,there⟩:=s
      simp only at HS1 ⊢
      generalize K j=x at *
      generalize S j=y at *
      by_cases hy : y=q
      · subst hy
        have hyy : (y == y)=true:=by simp
        cases there
        · have hS : Hid (scan K (oa S y) (j+1)=(x,(j : Int),true)):=Lib.hid (by rw [HS1.out,if_pos ⟨by rw [HOA.out];simp,.inl rfl⟩])
          go_wp2
          go_round
          case rel=>exact ⟨j+1,by omega,by go_num,by rw [hS.out],by rw [hS.out]⟩
          case measure=>simp [intOf];omega
        · by_cases hx : x<key
          · have hS : Hid (scan K (oa S y) (j+1)=(x,(j : Int),true)):=Lib.hid (by rw [HS1.out,if_pos ⟨by rw [HOA.out];simp,.inr hx⟩])
            go_wp2
            go_round
            case rel=>exact ⟨j+1,by omega,by go_num,by rw [hS.out],by rw [hS.out]⟩
            case measure=>simp [intOf];omega
          · have hS : Hid (scan K (oa S y) (j+1)=(key,place,true)):=Lib.hid (by rw [HS1.out,if_neg (fun h=>by simp at h;exact hx h.2)])
            have hx2 : key≤x:=by omega
            go_wp2
            go_round
            case rel=>exact ⟨j+1,by omega,by go_num,by rw [hS.out],by rw [hS.out]⟩
            case measure=>simp [intOf];omega
      · have hyy : (y == q)=false:=by simpa using hy
        have hS : Hid (scan K (oa S q) (j+1)=(key,place,there)):=Lib.hid (by rw [HS1.out,if_neg (fun h=>by rw [HOA.out] at h;simp [hy] at h)])
        clear hy
        go_wp2
        go_round
        case rel=>exact ⟨j+1,by omega,by go_num,by rw [hS.out],by rw [hS.out]⟩
        case measure=>simp [intOf];omega
    · obtain rfl : j=n:=by omega
      rw [HK.out,HO.out]
      go_wp2
      go_ret2
      exact ⟨rfl,rfl⟩
theorem ref_least17 (a : Option Addr) (b off n c : Nat) (K S : Nat→Int) (w : World) (h : PRow w b off n K S) (ha : 0<n→a=some ⟨b,off,none⟩) (hn : n≤4096) (L : Int) (hL : ml K S n=L) :
    Calls Tryz.prog 97 #[.slice a n c] w fun e w'=>e = .returned (.int .i64 L)∧w=w':=by
  have H0:=Lib.hid (ref_least1 a b off n c K S 0 w h ha hn _ _ rfl rfl)
  have H1:=Lib.hid (ref_least1 a b off n c K S 1 w h ha hn _ _ rfl rfl)
  unfold ml mlo at hL
  have HL:=Lib.hid hL
  clear hL h ha
  generalize (scan K (oa S 0) n).1=k0 at *
  generalize (scan K (oa S 0) n).2.2=b0 at *
  generalize (scan K (oa S 1) n).1=k1 at *
  generalize (scan K (oa S 1) n).2.2=b1 at *
  cases b0
  · cases b1
    · go_enter Tryz.func97,Tryz.ntmps97
      go_wp2_with (first|(go_at_call 143;(with_reducible refine H0.out.mono ?_);rintro e w1 ⟨rfl,rfl⟩)|(go_at_call 143;(with_reducible refine H1.out.mono ?_);rintro e w1 ⟨rfl,rfl⟩))
      go_ret
      exact ⟨ret_int (by simpa using HL.out),rfl⟩
    · go_enter Tryz.func97,Tryz.ntmps97
      go_wp2_with (first|(go_at_call 143;(with_reducible refine H0.out.mono ?_);rintro e w1 ⟨rfl,rfl⟩)|(go_at_call 143;(with_reducible refine H1.out.mono ?_);rintro e w1 ⟨rfl,rfl⟩))
      go_ret
      exact ⟨ret_int (by simpa using HL.out),rfl⟩
  · go_enter Tryz.func97,Tryz.ntmps97
    go_wp2_with (first|(go_at_call 143;(with_reducible refine H0.out.mono ?_);rintro e w1 ⟨rfl,rfl⟩)|(go_at_call 143;(with_reducible refine H1.out.mono ?_);rintro e w1 ⟨rfl,rfl⟩))
    go_ret
    exact ⟨ret_int (by simpa using HL.out),rfl⟩
section
variable {w0 w w' : World} {F : Nat→Prop} {g n : Nat} {K K' S S' : Nat→Int} {now now' : Int}
end
theorem me_is2 (F : Nat→Prop) (g n : Nat) (K S : Nat→Int) (now : Int) (i : Nat) (x : Int) (b0 b1 : Bool) (w : World) (h : MergeC w F g n K (oa S 0) (oa S 1) now) (hi : i<n) (hb0 : (x != 0)=b0) (hb1 : (x != 1)=b1) :
    Calls Tryz.prog 150 #[.pointer (some ⟨g,0,none⟩),.int .i64 i,.int .i64 x] w fun e w'=>e = .returned (.bool true)∧MePost F g n K (oa (put S i x) 0) (oa (put S i x) 1) now w w':=by
  rw [← oa_put S 0 i x b0 (by rw [← hb0];by_cases h : x=0 <;> simp [h]),← oa_put S 1 i x b1 (by rw [← hb1];by_cases h : x=1 <;> simp [h])]
  exact me_is F g n K _ _ now i x b0 b1 w h hi hb0 hb1
theorem info_part : (Tryz.prog.info? 153).map (fun i=>(i.zero,i.size,i.bytes))=some (some (.agg #[.int .i64 0,.int .i64 0]),2,16):=by kernel_rfl
theorem src_part {P : Program} {tx e' : TypeId} (hk : P.underlying tx=some (.slice e')) (w : World) (x y : Int) (e : TypeId) (N : Nat) (hN : w.heap.size=N) : Src P 2 tx (.slice (some ⟨N,0,none⟩) 1 1) 1 [.int .i64 x,.int .i64 y] (w.alloc (.cells #[.int .i64 x,.int .i64 y] e)):=by
  subst hN
  refine Src.ofSlice _ hk ⟨w.heap.size,0,none⟩ 1 1 [.int .i64 x,.int .i64 y] rfl (fun j u hx=>?_) (fun u hx=>?_)
  · have ha:=At.alloc w [.int .i64 x,.int .i64 y] e
    obtain ⟨hj,rfl⟩:=List.getElem?_eq_some_iff.1 hx
    rw [Addr.add_lit,Nat.zero_add]
    exact (ha.2 j hj).1
  · simp at hx
    rcases hx with rfl|rfl <;> rfl
section
variable {w0 w w' : World} {F : Nat→Prop} {g n : Nat} {K K' S S' : Nat→Int} {now now' : Int} {b off : Nat}
end
end Go.Proofs.YtmimfkhkilijcaaGreatDoor
