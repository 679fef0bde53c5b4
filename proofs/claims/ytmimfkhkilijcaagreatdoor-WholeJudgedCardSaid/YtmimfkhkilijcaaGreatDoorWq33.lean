/- KSrcB: what is reached of them. -/
import Derived.Test.YtmimfkhkilijcaaGreatDoorWq32
set_option linter.unusedVariables false
set_option linter.unusedSimpArgs false
set_option maxRecDepth 100000
set_option maxHeartbeats 8000000
namespace Go.Proofs.YtmimfkhkilijcaaGreatDoor
open Go.ChangeShapes Go.WideShapes Go.ChangeAt Go.RowKit
open PHist PRing PSat PClamp PBound PFrame PVar PCrc PSign PTree PEv
def Lo.fin (x : Lo) (i : Nat) : Int:=if x.rd i<(x.re i).length then x.is i else if x.er i=0 then 2 else 3
def Lo.flt (x : Lo) (i : Nat) : List Ev:=if x.rd i<(x.re i).length then [] else if x.er i=0 then [] else [.fault i (x.er i)]
def Lo.settle (x : Lo) (i : Nat) : Lo:={ x with is:=put x.is i (x.fin i),S:=put x.S i (x.fin i),evs:=x.evs++x.flt i }
theorem putSelf {α : Type} (f : Nat→α) (i : Nat) : put f i (f i)=f:=by
  funext j
  unfold put
  by_cases e : j=i <;> simp [e]
theorem CurAt.says {w : World} {g : Nat} {s : ByteArray} {recs : List R} {err k : Nat} (h : CurAt w g s recs err k) :
    (k<recs.length∧∃ q n,CurC w g s q k∧q≤s.size∧s.size≤400∧cahead (s.data.toList.drop q)=0∧fget (s.data.toList.drop q)=(recs.getD k zr,n,0)) ∨
    (¬ k<recs.length∧∃ q,CurC w g s q k∧q≤s.size∧s.size≤400∧cahead (s.data.toList.drop q)=(if err=0 then 1 else 2)∧cerr (s.data.toList.drop q)=err):=by
  obtain ⟨q,v,h1,h2,h3,h4⟩:=h
  by_cases hk : k<recs.length
  · rw [show recs.drop k=recs[k]::recs.drop (k+1) from List.drop_eq_getElem_cons hk] at h4
    obtain ⟨v',e1,e2,e3,e4,e5,e6,e7⟩:=parse_step h4
    exact .inl ⟨hk,q,_,h1,h2,h3,e6,by rw [e1,List.getD_eq_getElem?_getD,List.getElem?_eq_getElem hk];rfl⟩
  · rw [show recs.drop k=[] from List.drop_eq_nil_of_le (by omega)] at h4
    obtain ⟨e1,e2,e3,e4,e5⟩:=parse_stop h4
    exact .inr ⟨hk,q,h1,h2,h3,e3,e2⟩
section
variable {tag tag' : Nat→Nat} {W W' : Nat→Nat→Prop} {ev ev' : Value} {V : SrcV} {g : Nat} {x y : Lo} {w a b c : World}
theorem SrPost.of {X : Nat→Prop} (h : SrcC b tag W ev V g x) (hu : Upd X a b) (hX : ∀ k,k<a.heap.size→X k→tag k≠0) : SrPost tag V g x a b:=⟨tag,W,ev,h,hu.mono hX,fun _ h=>.inl h⟩
theorem SrPost.after (hb : Below a.heap.size a b) (h : SrPost tag V g x b c) : SrPost tag V g x a c:=by
  obtain ⟨tag',W',ev',h1,h2,h3⟩:=h
  refine ⟨tag',W',ev',h1,(Upd.of_below (S:=fun k=>tag k≠0) hb (fun k hk h=>by omega)).trans h2 (fun _ _ h=>h),fun k hk=>?_⟩
  rcases h3 k hk with h|h
  · exact .inl h
  · exact .inr (Nat.le_trans hb.size h)
theorem SrPost.trans (hu : Upd (fun k=>tag k≠0) a b) (ht : ∀ k,tag' k≠0→tag k≠0∨a.heap.size≤k) (h : SrPost tag' V g x b c) : SrPost tag V g x a c:=by
  obtain ⟨tag2,W2,ev2,h1,h2,h3⟩:=h
  refine ⟨tag2,W2,ev2,h1,hu.trans h2 (fun k hk h=>?_),fun k hk=>?_⟩
  · rcases ht k h with h|h
    · exact h
    · omega
  · rcases h3 k hk with h|h
    · exact ht k h
    · exact .inr (Nat.le_trans hu.size h)
theorem SrPost.un (h : SrPost (retag tag a.heap.size 0) V g x a b) : SrPost tag V g x a b:=by
  obtain ⟨tag2,W2,ev2,h1,h2,h3⟩:=h
  refine ⟨tag2,W2,ev2,h1,h2.mono (fun k hk h=>by rw [retag_old hk] at h;exact h),fun k hk=>?_⟩
  rcases h3 k hk with h|h
  · unfold retag at h
    split at h
    · exact .inl h
    · exact absurd rfl h
  · exact .inr h
end
theorem At.tag0 {tag : Nat→Nat} {w w' : World} {N : Nat} {l : List Value} (h : At w N l) (hu : Upd (fun k=>tag k≠0) w w') (h0 : tag N=0) : At w' N l:=h.upd hu (fun e=>e h0)
theorem so_settle0 (tag : Nat→Nat) (W : Nat→Nat→Prop) (ev : Value) (V : SrcV) (g : Nat) (x : Lo) (i : Nat) (w : World) (h : SrcC w tag W ev V g x) (h0 : ∀ b,w.heap.size≤b→tag b=0) (hi : i<x.n) (hm : x.n≤x.m) (hs : 0≤x.is i∧x.is i<2) (hb : x.evs.length≤100000) :
    Calls Tryz.prog 110 #[.pointer (some ⟨g,0,none⟩),.int .i64 i] w fun e w'=>e = .returned (.tuple #[])∧SrPost tag V g (x.settle i) w w':=by
  obtain ⟨hg,c0,z0,c1,z1,c2,z2,c3,z3,c4,z4,c5,z5⟩:=h.blk.cells6
  obtain ⟨gp,off,cap,hpv,hc,hgp,hne,p0,p1,p2⟩:=h.part i hi
  rw [hpv] at c0
  have HH:=Lib.hid h
  have hA:=At.alloc w [.pointer (some ⟨V.cu i,0,none⟩),.iface (V.ty i) (.pointer (some ⟨V.wy i,0,none⟩)),.pointer (some ⟨V.st i,0,none⟩)] 178
  have HW:=Lib.hid ((Below.refl w.heap.size w).alloc (Nat.le_refl _) (.cells #[.pointer (some ⟨V.cu i,0,none⟩),.iface (V.ty i) (.pointer (some ⟨V.wy i,0,none⟩)),.pointer (some ⟨V.st i,0,none⟩)] 178))
  have hin : i<x.n:=hi
  have him : i<x.m:=by omega
  have HT0:=Lib.hid h0
  have HS0:=Lib.hid hs.1
  have HS2:=Lib.hid hs.2
  have HB:=Lib.hid hb
  rcases (h.cur i hi).says with ⟨hk,q,n,hcu,hq,hs4,ha,hf⟩|⟨hk,q,hcu,hq,hs4,ha,hf⟩
  · have e1 : x.fin i=x.is i:=if_pos hk
    have e2 : x.flt i=[]:=if_pos hk
    have hx : x.settle i = { x with S:=put x.S i (x.is i) }:=by
      unfold Lo.settle
      rw [e1,e2,putSelf,List.append_nil]
    rw [hx]
    have HA:=fun w' h=>Lib.hid (cu_ahead_is (V.cu i) (V.lg i) q (x.rd i) w' 0 h hq (by omega) (by rw [ha];rfl))
    have HCU:=fun w' (hb : Below w.heap.size w w')=>CurC.on hcu hb
    clear h hpv hx ha hf hk h0 hs hb hcu e1 e2
    go_enter Tryz.func110,Tryz.ntmps110
    go_wp2_with (first|(go_at_call 159;(with_reducible refine (HA _ (HCU _ HW.out)).out.mono ?_);rintro e w1 ⟨rfl,hb1⟩;have hB1:=on_below HW.out hb1;have hAt:=hA.on hb1;obtain ⟨hN,a0,b0,a1,b1,a2,b2⟩:=hAt.three;have hS1:=HH.out.on hB1;obtain ⟨hg1,d0,y0,d1,y1,d2,y2,d3,y3,d4,y4,d5,y5⟩:=hS1.blk.cells6;have hI:=Lib.hid (id_is _ _ _ _ _ (hS1.drew.sta i hin));have hM:=Lib.hid (me_is2 _ _ _ _ _ _ i (x.is i) _ _ _ hS1.drew.mer him rfl rfl)))
    go_region_with (first|(go_at_call 117;(with_reducible refine hI.out.mono ?_);rintro e wi ⟨rfl,rfl⟩)|(go_at_call 150;(with_reducible refine hM.out.mono ?_);rintro e wm ⟨rfl,hP⟩))
    all_goals (go_wp2_with fail;go_end0;exact ⟨rfl,(SrPost.of (hS1.drew.toMer _ _ _ hP) hP.2 (fun k hk e=>by rw [HH.out.t3 k e];omega)).after hB1.drew⟩)
  · have e1 : x.fin i=if x.er i=0 then 2 else 3:=if_neg hk
    have e2 : x.flt i=if x.er i=0 then [] else [.fault i (x.er i)]:=if_neg hk
    have HCU:=fun w' (hb : Below w.heap.size w w')=>CurC.on hcu hb
    by_cases he : x.er i=0
    · rw [if_pos he] at e1 e2 ha
      have hx : x.settle i = { x with is:=put x.is i 2,S:=put x.S i 2 }:=by
        unfold Lo.settle
        rw [e1,e2,List.append_nil]
      rw [hx]
      have HA:=fun w' h=>Lib.hid (cu_ahead_is (V.cu i) (V.lg i) q (x.rd i) w' 1 h hq (by omega) (by rw [ha];rfl))
      clear h hpv hx ha hf hk h0 hs hb hcu e1 e2
      go_enter Tryz.func110,Tryz.ntmps110
      go_wp2_with (first|(go_at_call 159;(with_reducible refine (HA _ (HCU _ HW.out)).out.mono ?_);rintro e w1 ⟨rfl,hb1⟩;have hB1:=on_below HW.out hb1;have hAt:=hA.on hb1;obtain ⟨hN,a0,b0,a1,b1,a2,b2⟩:=hAt.three;have hS1:=HH.out.on hB1;obtain ⟨hg1,d0,y0,d1,y1,d2,y2,d3,y3,d4,y4,d5,y5⟩:=hS1.blk.cells6;have hE:=Lib.hid (id_end _ _ _ _ _ (hS1.sta i hin) HS0.out HS2.out))|(go_at_call 160;(with_reducible refine hE.out.mono ?_);rintro e w2 ⟨rfl,hP1⟩;have hS2:=hS1.toSta i hin _ _ hP1;rw [putSelf] at hS2;have hAt2:=hAt.upd hP1.2 (fun e=>by have h1:=HT0.out _ (Nat.le_refl w.heap.size);rw [e,HH.out.t8 i hin] at h1;omega);obtain ⟨hN2,a0',b0',a1',b1',a2',b2'⟩:=hAt2.three;obtain ⟨hg2,f0,x0,f1,x1,f2,x2,f3,x3,f4,x4,f5,x5⟩:=hS2.blk.cells6;have hQ:=hS2.drew.sta i hin;simp only [put_same] at hQ;have hI:=Lib.hid (id_is _ _ _ _ _ hQ);have hM:=Lib.hid (me_is2 _ _ _ _ _ _ i 2 _ _ _ hS2.drew.mer him rfl rfl)))
      go_region_with (first|(go_at_call 117;(with_reducible refine hI.out.mono ?_);rintro e wi ⟨rfl,rfl⟩)|(go_at_call 150;(with_reducible refine hM.out.mono ?_);rintro e wm ⟨rfl,hP⟩))
      all_goals (go_wp2_with fail;go_end0;refine ⟨rfl,?_⟩)
      all_goals exact (SrPost.trans ((hP1.2.mono (fun k hk e=>by rw [e,HH.out.t8 i hin];omega)).drew) (fun _ h=>.inl h) (SrPost.of (hS2.drew.toMer _ _ _ hP) hP.2 (fun k hk e=>by rw [HH.out.t3 k e];omega))).after hB1
    · rw [if_neg he] at e1 e2 ha
      have hx : x.settle i = { x with is:=put x.is i 3,S:=put x.S i 3,evs:=x.evs++[.fault i (x.er i)] }:=by
        unfold Lo.settle
        rw [e1,e2]
      rw [hx]
      have HA:=fun w' h=>Lib.hid (cu_ahead_is (V.cu i) (V.lg i) q (x.rd i) w' 2 h hq (by omega) (by rw [ha];rfl))
      have HR:=fun w' h=>Lib.hid (cu_err_is (V.cu i) (V.lg i) q (x.rd i) w' (x.er i) h hq (by omega) (by rw [hf]))
      have HY:=fun w' (h : SrcC w' tag W ev V g { x with is:=put x.is i 3 })=>Lib.hid (so_tell tag W ev V g { x with is:=put x.is i 3 } (.fault i (x.er i)) (.iface 127 (.agg #[.int .i64 i,.int .i64 (x.er i)])) rfl w' h hb)
      clear h hpv hx ha hf hk h0 hs hb e1 e2 he
      go_enter Tryz.func110,Tryz.ntmps110
      go_wp2_with (first|(go_at_call 159;(with_reducible refine (HA _ (HCU _ HW.out)).out.mono ?_);rintro e w1 ⟨rfl,hb1⟩;have hB1:=on_below HW.out hb1;have hAt:=hA.on hb1;obtain ⟨hN,a0,b0,a1,b1,a2,b2⟩:=hAt.three;have hS1:=HH.out.on hB1;obtain ⟨hg1,d0,y0,d1,y1,d2,y2,d3,y3,d4,y4,d5,y5⟩:=hS1.blk.cells6;have hE:=Lib.hid (id_fail _ _ _ _ _ (hS1.sta i hin) HS0.out HS2.out))|(go_at_call 161;(with_reducible refine hE.out.mono ?_);rintro e w2 ⟨rfl,hP1⟩;have hS2:=hS1.toSta i hin _ _ hP1;rw [putSelf] at hS2;have hAt2:=hAt.upd hP1.2 (fun e=>by have h1:=HT0.out _ (Nat.le_refl w.heap.size);rw [e,HH.out.t8 i hin] at h1;omega);obtain ⟨hN2,a0',b0',a1',b1',a2',b2'⟩:=hAt2.three;have hCU2:=(HCU w1 hB1).upd hP1.2 (fun e=>by have h1:=HH.out.t6 i hin;rw [e,HH.out.t8 i hin] at h1;omega))|(go_at_call 163;(with_reducible refine (HR _ hCU2).out.mono ?_);rintro e w3 ⟨rfl,hb3⟩;have hS3:=hS2.on hb3;have hAt3:=hAt2.on hb3)|(go_at_call 162;(with_reducible refine (HY _ hS3).out.mono ?_);rintro e w4 ⟨rfl,tag4,W4,ev4,hS4,hu4,ht4⟩;have hAt4:=hAt3.tag0 hu4 (HT0.out _ (Nat.le_refl w.heap.size));obtain ⟨hN4,a0'',b0'',a1'',b1'',a2'',b2''⟩:=hAt4.three;obtain ⟨hg4,f0,x0,f1,x1,f2,x2,f3,x3,f4,x4,f5,x5⟩:=hS4.blk.cells6;have hQ:=hS4.drew.sta i hin;simp only [put_same] at hQ;have hI:=Lib.hid (id_is _ _ _ _ _ hQ);have hM:=Lib.hid (me_is2 _ _ _ _ _ _ i 3 _ _ _ hS4.drew.mer him rfl rfl)))
      go_region_with (first|(go_at_call 117;(with_reducible refine hI.out.mono ?_);rintro e wi ⟨rfl,rfl⟩)|(go_at_call 150;(with_reducible refine hM.out.mono ?_);rintro e wm ⟨rfl,hP⟩))
      all_goals (go_wp2_with fail;go_end0;refine ⟨rfl,?_⟩)
      all_goals exact (SrPost.trans (hP1.2.mono (fun k hk e=>by rw [e,HH.out.t8 i hin];omega)) (fun _ h=>.inl h) (SrPost.after hb3 (SrPost.trans hu4.drew ht4 (SrPost.of (hS4.drew.toMer _ _ _ hP) hP.2 (fun k hk e=>by rw [hS4.t3 k e];omega))))).after hB1
theorem so_settle (tag : Nat→Nat) (W : Nat→Nat→Prop) (ev : Value) (V : SrcV) (g : Nat) (x : Lo) (i : Nat) (w : World) (h : SrcC w tag W ev V g x) (hi : i<x.n) (hm : x.n≤x.m) (hs : 0≤x.is i∧x.is i<2) (hb : x.evs.length≤100000) :
    Calls Tryz.prog 110 #[.pointer (some ⟨g,0,none⟩),.int .i64 i] w fun e w'=>e = .returned (.tuple #[])∧SrPost tag V g (x.settle i) w w' :=
  (so_settle0 _ _ _ _ _ _ _ _ (h.retag 0) (fun _ hb=>retag_new hb) hi hm hs hb).mono fun e w' ⟨h1,h2⟩=>⟨h1,h2.un⟩
def Lo.adv (x : Lo) : Lo:=if ml x.K x.S x.m≤x.now then x else { x with now:=ml x.K x.S x.m,G:=ml x.K x.S x.m,evs:=x.evs++[.mark (ml x.K x.S x.m)] }
def Lo.wait (x : Lo) (i : Nat) : Lo:=if x.is i=0∧x.tl i≤x.clock then { x with is:=put x.is i 1,S:=put x.S i 1 } else x
def Lo.iter (x : Lo) (f : Lo→Nat→Lo) : Nat→Lo
  | 0=>x
  | k+1=>f (x.iter f k) k
theorem wait_n (x : Lo) (i : Nat) : (x.wait i).n=x.n∧(x.wait i).m=x.m:=by unfold Lo.wait;split <;> exact ⟨rfl,rfl⟩
theorem iter_n (x : Lo) (f : Lo→Nat→Lo) (hf : ∀ x i,(f x i).n=x.n∧(f x i).m=x.m) : ∀ k,(x.iter f k).n=x.n∧(x.iter f k).m=x.m
  | 0=>⟨rfl,rfl⟩
  | k+1=>⟨(hf _ _).1.trans (iter_n x f hf k).1,(hf _ _).2.trans (iter_n x f hf k).2⟩
theorem settle_n (x : Lo) (i : Nat) : (x.settle i).n=x.n∧(x.settle i).m=x.m:=⟨rfl,rfl⟩
theorem so_advance (tag : Nat→Nat) (W : Nat→Nat→Prop) (ev : Value) (V : SrcV) (g : Nat) (x : Lo) (w : World) (h : SrcC w tag W ev V g x) (hr : in64 (ml x.K x.S x.m)) (hb : x.evs.length≤100000) :
    Calls Tryz.prog 111 #[.pointer (some ⟨g,0,none⟩)] w fun e w'=>e = .returned (.tuple #[])∧SrPost tag V g x.adv w w':=by
  obtain ⟨hg,c0,z0,c1,z1,c2,z2,c3,z3,c4,z4,c5,z5⟩:=h.blk.cells6
  have HH:=Lib.hid h
  have HR:=Lib.hid hr
  by_cases hl : ml x.K x.S x.m≤x.now
  · rw [show x.adv=x from if_pos hl]
    have HV:=Lib.hid (me_adv_not _ _ _ _ _ _ _ (ml x.K x.S x.m) w h.mer (rfl : mlo x.K (oa x.S 0) (oa x.S 1) x.m=ml x.K x.S x.m) hl)
    clear h hr hl
    go_enter Tryz.func111,Tryz.ntmps111
    go_wp2_with (first|(go_at_call 164;(with_reducible refine HV.out.mono ?_);rintro e w1 ⟨rfl,hP⟩))
    go_end0
    exact ⟨rfl,SrPost.of (HH.out.toMer _ _ _ hP) hP.2 (fun k hk e=>by rw [HH.out.t3 k e];omega)⟩
  · rw [show x.adv = { x with now:=ml x.K x.S x.m,G:=ml x.K x.S x.m,evs:=x.evs++[.mark (ml x.K x.S x.m)] } from if_neg hl]
    have HV:=Lib.hid (me_adv _ _ _ _ _ _ _ (ml x.K x.S x.m) w h.mer (rfl : mlo x.K (oa x.S 0) (oa x.S 1) x.m=ml x.K x.S x.m) (show x.now<ml x.K x.S x.m by omega))
    have HY:=fun w' (h : SrcC w' tag W ev V g { x with now:=ml x.K x.S x.m })=>Lib.hid (so_tell tag W ev V g { x with now:=ml x.K x.S x.m } (.mark (ml x.K x.S x.m)) (.iface 125 (.agg #[.int .i64 (ml x.K x.S x.m)])) rfl w' h hb)
    clear h hr hl hb
    generalize ml x.K x.S x.m=z at *
    go_enter Tryz.func111,Tryz.ntmps111
    go_wp2_with (first|(go_at_call 164;(with_reducible refine HV.out.mono ?_);rintro e w1 ⟨rfl,hP⟩;have hS1:=HH.out.toMer _ _ _ hP)|(go_at_call 162;(with_reducible refine (HY _ hS1).out.mono ?_);rintro e w2 ⟨rfl,tag2,W2,ev2,hS2,hu2,ht2⟩;obtain ⟨hg2,f0,x0,f1,x1,f2,x2,f3,x3,f4,x4,f5,x5⟩:=hS2.blk.cells6;have hGl:=Lib.hid (al_global _ _ _ _ _ z _ w2 hS2.ali HR.out))|(go_at_call 165;(with_reducible refine hGl.out.mono ?_);rintro e w3 ⟨a3,c3',rfl,hr3,hP3⟩))
    go_end0
    refine ⟨rfl,SrPost.trans (hP.2.mono (fun k hk e=>by rw [HH.out.t3 k e];omega)) (fun _ h=>.inl h) (SrPost.trans hu2 ht2 (SrPost.of (hS2.toAli _ _ hP3) hP3.2 (fun k hk e=>?_)))⟩
    rcases e with rfl|rfl
    · rw [hS2.t4.1];omega
    · rw [hS2.t4.2];omega
theorem so_wait (tag : Nat→Nat) (W : Nat→Nat→Prop) (ev : Value) (V : SrcV) (g : Nat) (x : Lo) (i : Nat) (w : World) (h : SrcC w tag W ev V g x) (hi : i<x.n) (hm : x.n≤x.m) :
    Calls Tryz.prog 167 #[.pointer (some ⟨g,0,none⟩),.int .i64 i] w fun e w'=>e = .returned (.tuple #[])∧SrPost tag V g (x.wait i) w w':=by
  obtain ⟨hg,c0,z0,c1,z1,c2,z2,c3,z3,c4,z4,c5,z5⟩:=h.blk.cells6
  obtain ⟨gp,off,cap,hpv,hc,hgp,hne,p0,p1,p2⟩:=h.part i hi
  rw [hpv] at c0
  have HH:=Lib.hid h
  have hin : i<x.n:=hi
  have him : i<x.m:=by omega
  have hgs : g≠V.st i:=fun e=>by have h1:=h.t1;rw [e,h.t8 i hi] at h1;omega
  have HNE:=Lib.hid hgs
  by_cases ht : x.is i=0∧x.tl i≤x.clock
  · rw [show x.wait i = { x with is:=put x.is i 1,S:=put x.S i 1 } from if_pos ht]
    have hst:=h.sta i hi
    rw [ht.1] at hst
    have HT:=Lib.hid (jd_tick g x.clock (V.st i) x.timeout (x.tl i) w h.clk hgs hst ht.2)
    clear h hpv ht hst hgs
    go_enter Tryz.func167,Tryz.ntmps167
    go_wp2_with (first|(go_at_call 217;(with_reducible refine HT.out.mono ?_);rintro e w2 ⟨rfl,hP1⟩;have hS2:=HH.out.toSta i hin _ _ hP1;rw [putSelf] at hS2;obtain ⟨hg2,f0,x0,f1,x1,f2,x2,f3,x3,f4,x4,f5,x5⟩:=hS2.blk.cells6;have hQ:=hS2.drew.sta i hin;simp only [put_same] at hQ;have hI:=Lib.hid (id_is _ _ _ _ _ hQ);have hM:=Lib.hid (me_is2 _ _ _ _ _ _ i 1 _ _ _ hS2.drew.mer him rfl rfl)))
    go_region_with (first|(go_at_call 117;(with_reducible refine hI.out.mono ?_);rintro e wi ⟨rfl,rfl⟩)|(go_at_call 150;(with_reducible refine hM.out.mono ?_);rintro e wm ⟨rfl,hP⟩))
    all_goals (go_wp2_with fail;go_end0;refine ⟨rfl,?_⟩)
    all_goals exact SrPost.trans ((hP1.2.mono (fun k hk e=>by rw [e,HH.out.t8 i hin];omega)).drew) (fun _ h=>.inl h) (SrPost.of (hS2.drew.toMer _ _ _ hP) hP.2 (fun k hk e=>by rw [HH.out.t3 k e];omega))
  · rw [show x.wait i=x from if_neg ht]
    have HT:=Lib.hid (jd_tick_not g x.clock (V.st i) (x.is i) x.timeout (x.tl i) w h.clk (h.sta i hi) (fun e=>by have : ¬ x.tl i≤x.clock:=fun h=>ht ⟨e,h⟩;omega))
    clear h hpv ht hgs
    go_enter Tryz.func167,Tryz.ntmps167
    go_wp2_with (first|(go_at_call 217;(with_reducible refine HT.out.mono ?_);rintro e w2 ⟨rfl,rfl⟩))
    go_end0
    exact ⟨rfl,SrPost.same HH.out⟩
theorem iter_wait_n (x : Lo) (k : Nat) : (x.iter Lo.wait k).n=x.n∧(x.iter Lo.wait k).m=x.m:=iter_n x Lo.wait wait_n k
theorem iter_settle_n (x : Lo) (k : Nat) : (x.iter Lo.settle k).n=x.n∧(x.iter Lo.settle k).m=x.m:=iter_n x Lo.settle settle_n k
theorem iter_settle_is (x : Lo) : ∀ k j,k≤j→(x.iter Lo.settle k).is j=x.is j
  | 0,j,_=>rfl
  | k+1,j,hj=>by
    show put (x.iter Lo.settle k).is k _ j=_
    rw [put_other _ _ _ (by omega)]
    exact iter_settle_is x k j (by omega)
theorem iter_settle_evs (x : Lo) : ∀ k,(x.iter Lo.settle k).evs.length≤x.evs.length+k
  | 0=>Nat.le_refl _
  | k+1=>by
    show ((x.iter Lo.settle k).evs++(x.iter Lo.settle k).flt k).length≤_
    rw [List.length_append]
    have:=iter_settle_evs x k
    have : ((x.iter Lo.settle k).flt k).length≤1:=by
      unfold Lo.flt
      split
      · simp
      · split <;> simp
    omega
theorem so_each_settle (tag : Nat→Nat) (W : Nat→Nat→Prop) (ev : Value) (V : SrcV) (g : Nat) (x : Lo) (w : World) (h : SrcC w tag W ev V g x) (hm : x.n≤x.m) (hs : ∀ j,j<x.n→0≤x.is j∧x.is j<2) (hb : x.evs.length+x.n≤100000) :
    Calls Tryz.prog 109 #[.pointer (some ⟨g,0,none⟩),.func (.func 110) #[.pointer (some ⟨g,0,none⟩)] #[]] w fun e w'=>e = .returned (.tuple #[])∧SrPost tag V g (x.iter Lo.settle x.n) w w':=by
  obtain ⟨hg,c0,z0,c1,z1,c2,z2,c3,z3,c4,z4,c5,z5⟩:=h.blk.cells6
  obtain ⟨a,c,hpv,-,hmx⟩:=h.len
  rw [hpv] at c0
  have HH:=Lib.hid h
  have HS : Hid (SrPost tag V g (x.iter Lo.settle 0) w w):=SrPost.same h
  have hnx : x.n≤1000000:=Nat.le_trans hm h.small
  have HC : Hid (∀ (k : Nat),k<x.n→∀ (wr : World),SrPost tag V g (x.iter Lo.settle k) w wr→Calls Tryz.prog 110 #[.pointer (some ⟨g,0,none⟩),.int .i64 k] wr fun e w'=>e = .returned (.tuple #[])∧SrPost tag V g (x.iter Lo.settle (k+1)) w w'):=by
    intro k hk wr ⟨tag',W',ev',h1,h2,h3⟩
    have hc:=so_settle tag' W' ev' V g (x.iter Lo.settle k) k wr h1 (by rw [(iter_settle_n x k).1];exact hk) (by rw [(iter_settle_n x k).1,(iter_settle_n x k).2];exact hm) (by rw [iter_settle_is x k k (Nat.le_refl _)];exact hs k hk) (by have:=iter_settle_evs x k;omega)
    exact hc.mono fun e w' ⟨e1,e2⟩=>⟨e1,SrPost.trans h2 h3 e2⟩
  clear h hpv c1 z1 c2 z2 c3 z3 c4 z4 c5 z5 hs hb
  generalize hN : x.n=n at *
  have HN:=Lib.hid hN
  clear hN
  go_enter Tryz.func109,Tryz.ntmps109
  go_wp2
  go_loopw [10] (fun i wr=>∃ k : Nat,k≤n∧i = .int .i64 k∧SrPost tag V g (x.iter Lo.settle k) w wr) (fun i _=>n - (intOf i).toNat)
  case atStart=>exact ⟨0,Nat.zero_le _,rfl,HS.out⟩
  case round =>
    obtain ⟨k,hk,rfl,hP⟩:=hrel
    by_cases hlt : k<n
    · have HCK:=Lib.hid (HC.out k hlt wr hP)
      go_wp2_with (first|(go_at_call 110;(with_reducible refine HCK.out.mono ?_);rintro e w2 ⟨rfl,hP2⟩))
      go_roundw
      case rel=>exact ⟨k+1,by omega,by go_num,hP2⟩
      case measure=>simp [intOf];omega
    · obtain rfl : k=n:=by omega
      go_wp2
      go_end0
      exact ⟨rfl,hP⟩
theorem so_each_wait (tag : Nat→Nat) (W : Nat→Nat→Prop) (ev : Value) (V : SrcV) (g : Nat) (x : Lo) (w : World) (h : SrcC w tag W ev V g x) (hm : x.n≤x.m) :
    Calls Tryz.prog 109 #[.pointer (some ⟨g,0,none⟩),.func (.func 167) #[.pointer (some ⟨g,0,none⟩)] #[]] w fun e w'=>e = .returned (.tuple #[])∧SrPost tag V g (x.iter Lo.wait x.n) w w':=by
  obtain ⟨hg,c0,z0,c1,z1,c2,z2,c3,z3,c4,z4,c5,z5⟩:=h.blk.cells6
  obtain ⟨a,c,hpv,-,hmx⟩:=h.len
  rw [hpv] at c0
  have HH:=Lib.hid h
  have HS : Hid (SrPost tag V g (x.iter Lo.wait 0) w w):=SrPost.same h
  have hnx : x.n≤1000000:=Nat.le_trans hm h.small
  have HC : Hid (∀ (k : Nat),k<x.n→∀ (wr : World),SrPost tag V g (x.iter Lo.wait k) w wr→Calls Tryz.prog 167 #[.pointer (some ⟨g,0,none⟩),.int .i64 k] wr fun e w'=>e = .returned (.tuple #[])∧SrPost tag V g (x.iter Lo.wait (k+1)) w w'):=by
    intro k hk wr ⟨tag',W',ev',h1,h2,h3⟩
    have hc:=so_wait tag' W' ev' V g (x.iter Lo.wait k) k wr h1 (by rw [(iter_wait_n x k).1];exact hk) (by rw [(iter_wait_n x k).1,(iter_wait_n x k).2];exact hm)
    exact hc.mono fun e w' ⟨e1,e2⟩=>⟨e1,SrPost.trans h2 h3 e2⟩
  clear h hpv c1 z1 c2 z2 c3 z3 c4 z4 c5 z5
  generalize hN : x.n=n at *
  have HN:=Lib.hid hN
  clear hN
  go_enter Tryz.func109,Tryz.ntmps109
  go_wp2
  go_loopw [10] (fun i wr=>∃ k : Nat,k≤n∧i = .int .i64 k∧SrPost tag V g (x.iter Lo.wait k) w wr) (fun i _=>n - (intOf i).toNat)
  case atStart=>exact ⟨0,Nat.zero_le _,rfl,HS.out⟩
  case round =>
    obtain ⟨k,hk,rfl,hP⟩:=hrel
    by_cases hlt : k<n
    · have HCK:=Lib.hid (HC.out k hlt wr hP)
      go_wp2_with (first|(go_at_call 167;(with_reducible refine HCK.out.mono ?_);rintro e w2 ⟨rfl,hP2⟩))
      go_roundw
      case rel=>exact ⟨k+1,by omega,by go_num,hP2⟩
      case measure=>simp [intOf];omega
    · obtain rfl : k=n:=by omega
      go_wp2
      go_end0
      exact ⟨rfl,hP⟩
def Lo.tick (x : Lo) (b : Int) : Lo:=Lo.adv (({ x with clock:=add x.clock b } : Lo).iter Lo.wait x.n)
theorem iter_wait_evs (x : Lo) : ∀ k,(x.iter Lo.wait k).evs=x.evs
  | 0=>rfl
  | k+1=>by
    show ((x.iter Lo.wait k).wait k).evs=_
    rw [← iter_wait_evs x k]
    unfold Lo.wait
    split <;> rfl
theorem so_tick (tag : Nat→Nat) (W : Nat→Nat→Prop) (ev : Value) (V : SrcV) (g : Nat) (x : Lo) (b : Int) (w : World) (h : SrcC w tag W ev V g x) (hm : x.n≤x.m) (h0 : 0≤b) (hck : in64 x.clock) (hbi : in64 b) (hr : ∀ c,in64 (ml (({ x with clock:=c } : Lo).iter Lo.wait x.n).K (({ x with clock:=c } : Lo).iter Lo.wait x.n).S x.m)) (hb : x.evs.length≤100000) :
    Calls Tryz.prog 112 #[.pointer (some ⟨g,0,none⟩),.int .i64 b] w fun e w'=>e = .returned (.tuple #[])∧SrPost tag V g (x.tick b) w w':=by
  obtain ⟨hg,c0,z0,c1,z1,c2,z2,c3,z3,c4,z4,c5,z5⟩:=h.blk.cells6
  have HH:=Lib.hid h
  have HG:=Lib.hid (cd_go g x.clock b w h.clk hck hbi h0)
  have HR:=Lib.hid (hr (add x.clock b))
  have HM:=Lib.hid hm
  have HB:=Lib.hid hb
  unfold Lo.tick
  have HE:=fun w' (h : SrcC w' tag W ev V g { x with clock:=add x.clock b })=>Lib.hid (so_each_wait tag W ev V g { x with clock:=add x.clock b } w' h hm)
  have HA:=fun w' tag' W' ev' (h : SrcC w' tag' W' ev' V g (({ x with clock:=add x.clock b } : Lo).iter Lo.wait x.n))=>Lib.hid (so_advance tag' W' ev' V g _ w' h (by rw [(iter_wait_n _ _).2];exact HR.out) (by rw [iter_wait_evs];exact hb))
  clear h hck hbi hr hb hm
  go_enter Tryz.func112,Tryz.ntmps112
  go_wp2_with (first|(go_at_call 166;(with_reducible refine HG.out.mono ?_);rintro e w1 ⟨rfl,hP⟩;have hS1:=HH.out.toClk (add x.clock b);have hu1 : Upd (fun k=>tag k≠0) w (w.setCell ⟨g,1,none⟩ (.int .i64 (add x.clock b))):=(Upd.refl (fun k=>tag k≠0) w).setCell (p:=⟨g,1,none⟩) (fun _=>by have:=HH.out.t1;show tag g≠0;omega) _;unfold CdPost at hP;subst hP)|(go_at_call 109;(with_reducible refine (HE _ hS1).out.mono ?_);rintro e w2 ⟨rfl,tag2,W2,ev2,hS2,hu2,ht2⟩)|(go_at_call 111;(with_reducible refine (HA _ _ _ _ hS2).out.mono ?_);rintro e w3 ⟨rfl,hP3⟩))
  go_end0
  exact ⟨rfl,SrPost.trans hu1 (fun _ h=>.inl h) (SrPost.trans hu2 ht2 hP3)⟩
theorem so_tick_none (tag : Nat→Nat) (W : Nat→Nat→Prop) (ev : Value) (V : SrcV) (g : Nat) (x : Lo) (b : Int) (w : World) (h : SrcC w tag W ev V g x) (h0 : b<0) :
    Calls Tryz.prog 112 #[.pointer (some ⟨g,0,none⟩),.int .i64 b] w fun e w'=>e = .returned (.tuple #[])∧SrPost tag V g x w w':=by
  obtain ⟨hg,c0,z0,c1,z1,c2,z2,c3,z3,c4,z4,c5,z5⟩:=h.blk.cells6
  have HH:=Lib.hid h
  have HG:=Lib.hid (cd_none g x.clock b w h.clk h0)
  clear h
  go_enter Tryz.func112,Tryz.ntmps112
  go_wp2_with (first|(go_at_call 166;(with_reducible refine HG.out.mono ?_);rintro e w1 ⟨rfl,rfl⟩))
  refine bodyPost_ret (results_none rfl _ _ _) rfl ?_
  exact ⟨rfl,SrPost.same HH.out⟩
theorem CurAt.next {w : World} {g : Nat} {s : ByteArray} {recs : List R} {err k : Nat} (h : CurAt w g s recs err k) (hk : k<recs.length) :
    ∃ q n,CurC w g s q k∧q≤s.size∧s.size≤400∧fget (s.data.toList.drop q)=(recs.getD k zr,n,0)∧∀ w',CurC w' g s (q+n) (k+1)→CurAt w' g s recs err (k+1):=by
  obtain ⟨q,v,h1,h2,h3,h4⟩:=h
  rw [show recs.drop k=recs[k]::recs.drop (k+1) from List.drop_eq_getElem_cons hk] at h4
  obtain ⟨v',e1,e2,e3,e4,e5,e6,e7⟩:=parse_step h4
  refine ⟨q,(encR recs[k]).length,h1,h2,h3,by rw [e1,List.getD_eq_getElem?_getD,List.getElem?_eq_getElem hk];rfl,fun w' hw=>⟨_,v',hw,?_,h3,?_⟩⟩
  · have hl : (s.data.toList.drop q).length=s.size - q:=by rw [List.length_drop];rfl
    omega
  · rw [List.drop_drop] at e2
    exact e2
theorem SrcC.postWay {w w' : World} {tag : Nat→Nat} {W : Nat→Nat→Prop} {ev : Value} {V : SrcV} {g : Nat} {x : Lo} (h : SrcC w tag W ev V g x) (i : Nat) (hi : i<x.n) (l : List R) (hc : GPost (W i) (V.ty i) (V.wy i) (x.ru i) l w w') : SrPost tag V g { x with gt:=put x.gt i l } w w':=by
  obtain ⟨W',hS⟩:=h.toWay i hi l hc
  obtain ⟨S',hc1,hu,hS'⟩:=hc
  refine ⟨_,W',ev,hS,hu.mono (fun k _ e=>by rw [h.t7 i hi k e];omega),fun b hb=>?_⟩
  rcases Nat.lt_or_ge b w.heap.size with hlt|hge
  · rw [retag_old hlt] at hb;exact .inl hb
  · exact .inr hge
theorem upd_chain {tag tag' tag2 : Nat→Nat} {a b c : World} (hU : Upd (fun k=>tag k≠0) a b) (hT : ∀ k,tag' k≠0→tag k≠0∨a.heap.size≤k) (hu : Upd (fun k=>tag' k≠0) b c) (ht : ∀ k,tag2 k≠0→tag' k≠0∨b.heap.size≤k) :
    Upd (fun k=>tag k≠0) a c∧∀ k,tag2 k≠0→tag k≠0∨a.heap.size≤k:=by
  refine ⟨hU.trans hu (fun k hk e=>?_),fun k hk=>?_⟩
  · rcases hT k e with h|h
    · exact h
    · omega
  · rcases ht k hk with h|h
    · exact hT k h
    · exact .inr (Nat.le_trans hU.size h)
theorem tag_stays {tag tag' : Nat→Nat} {n N : Nat} (ht : ∀ k,tag' k≠0→tag k≠0∨n≤k) (h0 : tag N=0) (hN : N<n) : tag' N=0:=by
  apply Classical.byContradiction
  intro h
  rcases ht N h with h|h
  · exact h h0
  · omega
theorem flt_len (x : Lo) (i : Nat) : (x.flt i).length≤1:=by
  unfold Lo.flt
  split
  · simp
  · split <;> simp
def Lo.nxt (x : Lo) (i : Nat) : R:=(x.re i).getD (x.rd i) zr
def Lo.elm (x : Lo) (i : Nat) : Ev:=.el (lateOf x.now (x.nxt i)) i (x.nxt i).1 (x.nxt i).2.1 (x.nxt i).2.2
def Lo.mk2 (x : Lo) (i : Nat) : Int:=gnow (x.ru i) (x.gt i++[x.nxt i])
def Lo.gone (x : Lo) (i : Nat) : Lo:={ x with rd:=put x.rd i (x.rd i+1),is:=put x.is i 0,tl:=put x.tl i (add x.clock (max x.timeout 0)),evs:=x.evs++[x.elm i],gt:=put x.gt i (x.gt i++[x.nxt i]),K:=put x.K i (x.mk2 i),L:=put x.L i (x.mk2 i) }
def Lo.poll (x : Lo) (i : Nat) : Lo:=((x.gone i).settle i).adv
theorem so_poll_none (tag : Nat→Nat) (W : Nat→Nat→Prop) (ev : Value) (V : SrcV) (g : Nat) (x : Lo) (i : Int) (w : World) (h : SrcC w tag W ev V g x) (hm : x.n≤x.m) (hs : ∀ j,j<x.n→0≤x.is j∧x.is j≤3) (hr : x.refused i=true) :
    Calls Tryz.prog 113 #[.pointer (some ⟨g,0,none⟩),.int .i64 i] w fun e w'=>e = .returned (.tuple #[])∧SrPost tag V g x w w':=by
  have HH:=Lib.hid h
  have HR:=Lib.hid (so_refused tag W ev V g x i true w h hm hs hr)
  clear h hm hs hr
  go_enter Tryz.func113,Tryz.ntmps113
  go_wp2_with (first|(go_at_call 168;(with_reducible refine HR.out.mono ?_);rintro e w1 ⟨rfl,hq⟩))
  refine bodyPost_ret (results_none rfl _ _ _) rfl ?_
  exact ⟨rfl,(SrPost.same HH.out).on (on_quiet hq)⟩
theorem so_poll0 (tag : Nat→Nat) (W : Nat→Nat→Prop) (ev : Value) (V : SrcV) (g : Nat) (x : Lo) (i : Nat) (w : World) (h : SrcC w tag W ev V g x) (h0 : ∀ b,w.heap.size≤b→tag b=0) (hm : x.n≤x.m) (hs : ∀ j,j<x.n→0≤x.is j∧x.is j≤3) (hr : x.refused i=false)
    (hrd : x.rd i<(x.re i).length) (hfew : (x.re i).length≤400) (hok : rcheck (x.ru i)=0) (hfit : (x.ru i).Fits) (hgt : InR (x.gt i)) (hgl : (x.gt i).length≤400) (hir : in64 (x.nxt i).1∧in64 (x.nxt i).2.1) (hck : in64 x.clock) (htm : in64 x.timeout)
    (hml : in64 (ml ((x.gone i).settle i).K ((x.gone i).settle i).S x.m)) (hb : x.evs.length≤90000) :
    Calls Tryz.prog 113 #[.pointer (some ⟨g,0,none⟩),.int .i64 i] w fun e w'=>e = .returned (.tuple #[])∧SrPost tag V g (x.poll i) w w':=by
  have HR:=Lib.hid (so_refused tag W ev V g x i false w h hm hs hr)
  obtain ⟨hin,hs1⟩ : i<x.n∧x.is i≤1:=by
    unfold Lo.refused at hr
    simp only [Bool.or_eq_false_iff,decide_eq_false_iff_not,Decidable.not_not,Int.toNat_natCast] at hr
    omega
  have him : i<x.m:=by omega
  have hs0 : Hid (0≤x.is i):=(hs i hin).1
  have hs2 : Hid (x.is i<2):=by show x.is i<2;omega
  have HH:=Lib.hid h
  have HT0:=Lib.hid h0
  have HB:=Lib.hid hb
  have HML:=Lib.hid hml
  have hgs : Hid (g≠V.st i):=fun e=>by have h1:=h.t1;rw [e,h.t8 i hin] at h1;omega
  have hrk : Hid (x.rd i≤100000):=by show x.rd i≤100000;omega
  have hm':=Lib.hid hm
  have HSN:=fun w' S (h : GenC w' S (V.ty i) (V.wy i) (x.ru i) (x.gt i))=>Lib.hid (gn_seen S (V.ty i) (V.wy i) (x.ru i) (x.gt i) (x.nxt i) w' h hok hfit hgt hir (by omega))
  have HLT:=fun w' W' ev' tag' y (hy : y.now=x.now) (h : SrcC w' tag' W' ev' V g y)=>Lib.hid (so_late tag' W' ev' V g y (x.nxt i) (lateOf x.now (x.nxt i)) w' h (by rw [hy]))
  unfold Lo.poll
  have HS8:=fun w' W' ev' tag' (h : SrcC w' tag' W' ev' V g (x.gone i))=>Lib.hid (so_settle tag' W' ev' V g (x.gone i) i w' h hin hm (by show 0≤put x.is i 0 i∧put x.is i 0 i<2;rw [put_same];omega) (by show (x.evs++[x.elm i]).length≤100000;rw [List.length_append];show x.evs.length+1≤_;omega))
  have HA9:=fun w' W' ev' tag' (h : SrcC w' tag' W' ev' V g ((x.gone i).settle i))=>Lib.hid (so_advance tag' W' ev' V g ((x.gone i).settle i) w' h hml (by
    show ((x.evs++[x.elm i])++(x.gone i).flt i).length≤100000
    rw [List.length_append,List.length_append]
    have:=flt_len (x.gone i) i
    show x.evs.length+1+_≤_;omega))
  obtain ⟨q,n,hcu,hq4,hs4,hfg,hnx⟩:=(h.cur i hin).next hrd
  have HCN:=fun w' (h : CurC w' (V.cu i) (V.lg i) q (x.rd i))=>Lib.hid (cu_next (V.cu i) (V.lg i) q (x.rd i) (x.nxt i) n w' h hq4 (by omega) hrk.out hfg)
  have HCU:=fun w' (hb : Below w.heap.size w w')=>CurC.on hcu hb
  have HNX:=Lib.hid hnx
  clear h h0 hm hs hr hrd hfew hok hfit hgt hgl hml hb hcu hq4 hs4 hfg hnx hs1
  have hE : Hid (x.elm i = .el (lateOf x.now (x.nxt i)) i (x.nxt i).1 (x.nxt i).2.1 (x.nxt i).2.2):=rfl
  have HM2 : Hid (x.mk2 i=gnow (x.ru i) (x.gt i++[x.nxt i])):=rfl
  generalize hrr : x.nxt i=r at *
  have HRR:=Lib.hid hrr
  clear hrr
  obtain ⟨rk,rt,rx⟩:=r
  simp only at HLT hE HSN hir
  generalize lateOf x.now (rk,rt,rx)=late at *
  go_enter Tryz.func113,Tryz.ntmps113
  go_wp2_with (first|(go_at_call 168;(with_reducible refine HR.out.mono ?_);rintro e w1 ⟨rfl,hqq⟩;have hb1:=on_quiet hqq;have hS1:=HH.out.on hb1;obtain ⟨hg1,c0,z0,c1,z1,c2,z2,c3,z3,c4,z4,c5,z5⟩:=hS1.blk.cells6;obtain ⟨gp,off,cap,hpv,hc,hgp,hne,p0,p1,p2⟩:=hS1.part i hin;rw [hpv] at c0;clear hpv hqq)|(go_at_call 169;(with_reducible refine (HCN _ (HCU _ (hb1.alloc hb1.size _))).out.mono ?_);rintro e w2 ⟨rfl,hcu2,hu2,-⟩;have hN1:=HT0.out _ hb1.size;have hA1:=(At.alloc w1 [.pointer (some ⟨V.cu i,0,none⟩),.iface (V.ty i) (.pointer (some ⟨V.wy i,0,none⟩)),.pointer (some ⟨V.st i,0,none⟩)] 178).upd hu2 (fun e=>by rw [e,HH.out.t6 i hin] at hN1;omega);have hS2:=(hS1.alloc (.cells #[.pointer (some ⟨V.cu i,0,none⟩),.iface (V.ty i) (.pointer (some ⟨V.wy i,0,none⟩)),.pointer (some ⟨V.st i,0,none⟩)] 178)).toCur i hin _ (HNX.out _ hcu2) hu2))
  have hR2 : Below w2.heap.size w2 (w2.alloc (.cells #[.int .i64 rk,.int .i64 rt,.string (bstr rx)] 54)):=(Below.refl _ _).alloc (Nat.le_refl _) _
  have hS3:=hS2.on hR2
  have hA13:=hA1.on hR2
  have hA23:=At.alloc w2 [.int .i64 rk,.int .i64 rt,.string (bstr rx)] 54
  have hU2 : Upd (fun k=>tag k≠0) w w2:=(Upd.of_below (S:=fun k=>tag k≠0) (hb1.alloc hb1.size (.cells #[.pointer (some ⟨V.cu i,0,none⟩),.iface (V.ty i) (.pointer (some ⟨V.wy i,0,none⟩)),.pointer (some ⟨V.st i,0,none⟩)] 178)) (fun k hk h=>by omega)).trans hu2 (fun k _ e=>by rw [e,HH.out.t6 i hin];omega)
  have hN2:=HT0.out _ hU2.size
  have hU3:=hU2.alloc (.cells #[.int .i64 rk,.int .i64 rt,.string (bstr rx)] 54)
  have hT3 : ∀ k,tag k≠0→tag k≠0∨w.heap.size≤k:=fun _ h=>.inl h
  clear hU2 hR2 hS2 hA1 hu2 hcu2 c0 z0 c1 z1 c2 z2 c3 z3 c4 z4 c5 z5 p0 p1 p2 hgp hne hc hS1 hg1
  generalize w2.alloc (.cells #[.int .i64 rk,.int .i64 rt,.string (bstr rx)] 54)=w3 at *
  generalize w1.heap.size=N1 at *
  generalize w2.heap.size=N2 at *
  obtain ⟨hg3,c0,z0,c1,z1,c2,z2,c3,z3,c4,z4,c5,z5⟩:=hS3.blk.cells6
  obtain ⟨hn1,a0,-,a1,-,a2,-⟩:=hA13.three
  have hRd:=Lib.hid (jd_read g x.clock (V.st i) (x.is i) x.timeout (x.tl i) _ hS3.drew.clk hgs.out hck htm (hS3.drew.sta i hin) hs0.out hs2.out (add x.clock (max x.timeout 0)) rfl)
  go_cut [] (fun wx=>SrPost tag V g { x with rd:=put x.rd i (x.rd i+1),is:=put x.is i 0,tl:=put x.tl i (add x.clock (max x.timeout 0)) } w3 wx)
  case first =>
    go_region_with (first|(go_at_call 170;(with_reducible refine hRd.out.mono ?_);rintro e wr ⟨rfl,hPr⟩))
    all_goals (go_wp2_with fail;go_meet;exact SrPost.after (Below.refl _ _).drew (SrPost.of (hS3.drew.toSta i hin _ _ hPr) hPr.2 (fun k hk e=>by rw [e,hS3.t8 i hin];omega)))
  case rest =>
    obtain ⟨tag4,W4,ev4,hS4,hu4,ht4⟩:=hcut
    have hA14:=hA13.tag0 hu4 hN1
    have hA24:=hA23.tag0 hu4 hN2
    have hN14:=tag_stays ht4 hN1 hA13.1
    have hN24:=tag_stays ht4 hN2 hA23.1
    obtain ⟨hU4,hT4⟩:=upd_chain hU3 hT3 hu4 ht4
    clear hS3 hA13 hA23 hu4 ht4 hU3 hT3 hRd c0 z0 c1 z1 c2 z2 c3 z3 c4 z4 c5 z5 a0 a1 a2 hg3 hn1
    obtain ⟨hn2,r0,-,r1,-,r2,-⟩:=hA24.three
    have HL4:=HLT _ W4 ev4 tag4 { x with rd:=put x.rd i (x.rd i+1),is:=put x.is i 0,tl:=put x.tl i (add x.clock (max x.timeout 0)) } rfl hS4.drew
    have HY4:=fun w' (h : SrcC w' tag4 W4 ev4 V g { x with rd:=put x.rd i (x.rd i+1),is:=put x.is i 0,tl:=put x.tl i (add x.clock (max x.timeout 0)) })=>Lib.hid (so_tell tag4 W4 ev4 V g { x with rd:=put x.rd i (x.rd i+1),is:=put x.is i 0,tl:=put x.tl i (add x.clock (max x.timeout 0)) } (.el late i rk rt rx) (.iface 130 (.agg #[.int .i64 i,.int .i64 rk,.int .i64 rt,.string (bstr rx),.bool late])) rfl w' h (by have:=HB.out;show x.evs.length≤100000;omega))
    go_wp2_with fail
    go_cut [] (fun wx=>SrPost tag4 V g { x with rd:=put x.rd i (x.rd i+1),is:=put x.is i 0,tl:=put x.tl i (add x.clock (max x.timeout 0)),evs:=x.evs++[.el late i rk rt rx] } wc wx)
    case first =>
      go_region_with (first|(go_at_call 171;(with_reducible refine HL4.out.mono ?_);rintro e wl ⟨rfl,hbl⟩;have hAl:=hA24.drew.on hbl;obtain ⟨hnl,l0,-,l1,-,l2,-⟩:=hAl.three;have hSl:=hS4.drew.on hbl)|(go_at_call 162;(with_reducible refine (HY4 _ hSl).out.mono ?_);rintro e wt ⟨rfl,hPt⟩))
      all_goals (go_wp2_with fail;go_meet;exact SrPost.after (on_below (Below.refl _ _).drew hbl) hPt)
    case rest =>
      obtain ⟨tag5,W5,ev5,hS5,hu5,ht5⟩:=hcut
      have hA15:=hA14.tag0 hu5 hN14
      have hA25:=hA24.tag0 hu5 hN24
      have hN15:=tag_stays ht5 hN14 hA14.1
      have hN25:=tag_stays ht5 hN24 hA24.1
      obtain ⟨hU5,hT5⟩:=upd_chain hU4 hT4 hu5 ht5
      clear hS4 hA14 hA24 hu5 ht5 hU4 hT4 HL4 HY4 hN14 hN24 r0 r1 r2 hn2
      obtain ⟨hn1,a0,-,a1,-,a2,-⟩:=hA15.three
      obtain ⟨hn2,r0,-,r1,-,r2,-⟩:=hA25.three
      have hW5:=hS5.way i hin
      have hmS:=hW5.seen
      have hmE:=hW5.enters
      have hmN:=hW5.now
      have hmA:=hW5.ahead
      go_wp2_with (first|((with_reducible refine (HSN _ _ hW5).out.mono ?_);intro e w6 h6;obtain ⟨rfl,hP6⟩:=h6;obtain ⟨tag6,W6,ev6,hS6,hu6,ht6⟩:=hS5.postWay i hin _ hP6;have hA16:=hA15.tag0 hu6 hN15;have hN16:=tag_stays ht6 hN15 hA15.1;obtain ⟨hU6,hT6⟩:=upd_chain hU5 hT5 hu6 ht6))
      clear hS5 hA15 hA25 hu6 ht6 hU5 hT5 hN15 hN25 r0 r1 r2 a0 a1 a2 hn1 hn2 hmS hmE hmA hW5 hP6
      obtain ⟨hn1,a0,-,a1,-,a2,-⟩:=hA16.three
      obtain ⟨hg6,c0,z0,c1,z1,c2,z2,c3,z3,c4,z4,c5,z5⟩:=hS6.blk.cells6
      have hW6:=hS6.drew.way i hin
      simp only [put_same] at hW6
      have hNw:=Lib.hid (gn_now _ _ _ _ _ _ hW6)
      generalize hmm : gnow (x.ru i) (x.gt i++[(rk,rt,rx)])=mm at *
      have HMM:=Lib.hid hmm
      clear hmm hW6
      have hMk:=Lib.hid (me_mark _ _ _ _ _ _ _ i mm _ hS6.drew.mer him)
      go_cut [] (fun wx=>SrPost tag6 V g { x with rd:=put x.rd i (x.rd i+1),is:=put x.is i 0,tl:=put x.tl i (add x.clock (max x.timeout 0)),evs:=x.evs++[.el late i rk rt rx],gt:=put x.gt i (x.gt i++[(rk,rt,rx)]),K:=put x.K i mm } w6 wx)
      case first =>
        go_region_with (first|(go_at_call 151;(with_reducible refine hMk.out.mono ?_);rintro e wm ⟨rfl,hPm⟩)|((with_reducible refine hNw.out.mono ?_);rintro e wn ⟨rfl,rfl⟩))
        all_goals (go_wp2_with fail;go_meet;exact SrPost.after (Below.refl _ _).drew (SrPost.of (hS6.drew.toMer _ _ _ hPm) hPm.2 (fun k hk e=>by rw [hS6.t3 k e];omega)))
      case rest =>
        obtain ⟨tag7,W7,ev7,hS7,hu7,ht7⟩:=hcut
        have hA17:=hA16.tag0 hu7 hN16
        have hN17:=tag_stays ht7 hN16 hA16.1
        obtain ⟨hU7,hT7⟩:=upd_chain hU6 hT6 hu7 ht7
        clear hS6 hA16 hu7 ht7 hU6 hT6 hN16 a0 a1 a2 hn1 hg6 c0 z0 c1 z1 c2 z2 c3 z3 c4 z4 c5 z5 hNw hMk
        obtain ⟨hn1,a0,-,a1,-,a2,-⟩:=hA17.three
        obtain ⟨hg7,c0,z0,c1,z1,c2,z2,c3,z3,c4,z4,c5,z5⟩:=hS7.blk.cells6
        have hW7:=hS7.drew.way i hin
        simp only [put_same] at hW7
        have hNw:=Lib.hid (gn_now _ _ _ _ _ _ hW7)
        rw [HMM.out] at hNw
        clear hW7
        have hLo:=Lib.hid (al_local _ _ _ _ _ _ i mm _ hS7.drew.ali him)
        go_wp2_with fail
        go_cut [] (fun wx=>SrPost tag7 V g { x with rd:=put x.rd i (x.rd i+1),is:=put x.is i 0,tl:=put x.tl i (add x.clock (max x.timeout 0)),evs:=x.evs++[.el late i rk rt rx],gt:=put x.gt i (x.gt i++[(rk,rt,rx)]),K:=put x.K i mm,L:=put x.L i mm } wc wx)
        case first =>
          go_region_with (first|(go_at_call 172;(with_reducible refine hLo.out.mono ?_);rintro e wm ⟨rfl,hPm⟩)|((with_reducible refine hNw.out.mono ?_);rintro e wn ⟨rfl,rfl⟩))
          all_goals (go_wp2_with fail;go_meet;exact SrPost.after (Below.refl _ _).drew (SrPost.of (hS7.drew.toAli _ _ hPm) hPm.2 (fun k hk e=>by
            rcases e with rfl|rfl
            · rw [hS7.t4.1];omega
            · rw [hS7.t4.2];omega)))
        case rest =>
          obtain ⟨tag8,W8,ev8,hS8,hu8,ht8⟩:=hcut
          obtain ⟨hU8,hT8⟩:=upd_chain hU7 hT7 hu8 ht8
          clear hS7 hA17 hu8 ht8 hU7 hT7 hN17 a0 a1 a2 hn1 hg7 c0 z0 c1 z1 c2 z2 c3 z3 c4 z4 c5 z5 hNw hLo
          have hgo : { x with rd:=put x.rd i (x.rd i+1),is:=put x.is i 0,tl:=put x.tl i (add x.clock (max x.timeout 0)),evs:=x.evs++[.el late i rk rt rx],gt:=put x.gt i (x.gt i++[(rk,rt,rx)]),K:=put x.K i mm,L:=put x.L i mm } = x.gone i:=by
            unfold Lo.gone
            rw [hE.out,HM2.out,HRR.out]
          rw [hgo] at hS8
          clear hgo
          go_wp2_with (first|(go_at_call 110;(with_reducible refine (HS8 _ _ _ _ hS8).out.mono ?_);rintro e w9 ⟨rfl,tag9,W9,ev9,hS9,hu9,ht9⟩;obtain ⟨hU9,hT9⟩:=upd_chain hU8 hT8 hu9 ht9)|(go_at_call 111;(with_reducible refine (HA9 _ _ _ _ hS9).out.mono ?_);rintro e w10 ⟨rfl,hP10⟩))
          go_end0
          exact ⟨rfl,SrPost.trans hU9 hT9 hP10⟩
theorem so_poll (tag : Nat→Nat) (W : Nat→Nat→Prop) (ev : Value) (V : SrcV) (g : Nat) (x : Lo) (i : Nat) (w : World) (h : SrcC w tag W ev V g x) (hm : x.n≤x.m) (hs : ∀ j,j<x.n→0≤x.is j∧x.is j≤3) (hr : x.refused i=false)
    (hrd : x.rd i<(x.re i).length) (hfew : (x.re i).length≤400) (hok : rcheck (x.ru i)=0) (hfit : (x.ru i).Fits) (hgt : InR (x.gt i)) (hgl : (x.gt i).length≤400) (hir : in64 (x.nxt i).1∧in64 (x.nxt i).2.1) (hck : in64 x.clock) (htm : in64 x.timeout)
    (hml : in64 (ml ((x.gone i).settle i).K ((x.gone i).settle i).S x.m)) (hb : x.evs.length≤90000) :
    Calls Tryz.prog 113 #[.pointer (some ⟨g,0,none⟩),.int .i64 i] w fun e w'=>e = .returned (.tuple #[])∧SrPost tag V g (x.poll i) w w' :=
  (so_poll0 _ _ _ _ _ _ _ _ (h.retag 0) (fun _ hb=>retag_new hb) hm hs hr hrd hfew hok hfit hgt hgl hir hck htm hml hb).mono fun e w' ⟨h1,h2⟩=>⟨h1,h2.un⟩
def loOf (s : St) (evs : List Ev) (beg : Nat) : Lo :=
  { n:=s.ps.length,m:=s.ps.length,timeout:=s.timeout,drift:=s.drift,ru:=fun j=>(pat s.ps j).rule,re:=fun j=>(pat s.ps j).recs,er:=fun j=>(pat s.ps j).err,rd:=fun j=>(pat s.ps j).read,gt:=fun j=>(pat s.ps j).got,
    is:=ss s.ps,tl:=fun j=>(pat s.ps j).til,K:=kk s.ps,S:=ss s.ps,L:=kk s.ps,clock:=s.clock,now:=s.now,G:=s.now,evs:=evs,beg:=beg }
theorem lo_adv (ps : List Pt) (t d c now : Int) (evs : List Ev) (beg : Nat) : (loOf ⟨ps,t,d,c,now⟩ evs beg).adv=loOf ⟨ps,t,d,c,further now ps⟩ (evs++marksE now ps) beg:=by
  unfold Lo.adv further marksE
  by_cases h : least ps≤now
  · rw [if_pos h,if_pos h,List.append_nil]
    exact if_pos h
  · rw [if_neg h,if_neg h]
    exact if_neg h
theorem pat_map_any (ps : List Pt) (f : Pt→Pt) (j : Nat) : pat (ps.map f) j=if j<ps.length then f (pat ps j) else zp:=by
  by_cases h : j<ps.length
  · rw [if_pos h,pat_map h]
  · rw [if_neg h]
    unfold pat
    rw [List.getD_eq_getElem?_getD,List.getElem?_eq_none (by rw [List.length_map];omega)];rfl
theorem pat_none {ps : List Pt} {j : Nat} (h : ¬ j<ps.length) : pat ps j=zp:=by
  unfold pat
  rw [List.getD_eq_getElem?_getD,List.getElem?_eq_none (by omega)];rfl
def wf (x : Lo) (f : Nat→Int) (k : Nat) : Nat→Int:=fun j=>if j<k∧x.is j=0∧x.tl j≤x.clock then 1 else f j
theorem wf_next (x : Lo) (f : Nat→Int) (k : Nat) : wf x f (k+1)=if x.is k=0∧x.tl k≤x.clock then put (wf x f k) k 1 else wf x f k:=by
  funext j
  by_cases hk : x.is k=0∧x.tl k≤x.clock
  · rw [if_pos hk]
    by_cases e : j=k
    · subst e
      rw [put_same]
      exact if_pos ⟨by omega,hk⟩
    · rw [put_other _ _ _ e]
      unfold wf
      have : (j<k+1∧x.is j=0∧x.tl j≤x.clock)↔(j<k∧x.is j=0∧x.tl j≤x.clock):=⟨fun h=>⟨by omega,h.2⟩,fun h=>⟨by omega,h.2⟩⟩
      simp only [this]
  · rw [if_neg hk]
    unfold wf
    have : (j<k+1∧x.is j=0∧x.tl j≤x.clock)↔(j<k∧x.is j=0∧x.tl j≤x.clock):=⟨fun h=>⟨by
      by_cases e : j=k
      · subst e;exact absurd h.2 hk
      · omega,h.2⟩,fun h=>⟨by omega,h.2⟩⟩
    simp only [this]
theorem iter_wait (x : Lo) : ∀ k,x.iter Lo.wait k = { x with is:=wf x x.is k,S:=wf x x.S k }
  | 0=>by
    have h : ∀ f,wf x f 0=f:=fun f=>by funext j;exact if_neg (fun h=>by omega)
    show x=_
    rw [h,h]
  | k+1=>by
    show (x.iter Lo.wait k).wait k=_
    rw [iter_wait x k]
    unfold Lo.wait
    have e1 : wf x x.is k k=x.is k:=if_neg (fun h=>by omega)
    show (if wf x x.is k k=0∧x.tl k≤x.clock then _ else _)=_
    rw [e1]
    by_cases hk : x.is k=0∧x.tl k≤x.clock
    · rw [if_pos hk,wf_next,wf_next,if_pos hk,if_pos hk]
    · rw [if_neg hk,wf_next,wf_next,if_neg hk,if_neg hk]
theorem lo_tick (s : St) (evs : List Ev) (beg : Nat) (b : Int) : (loOf s evs beg).tick b=loOf (s.tickS b) (evs++s.tickE b) beg:=by
  unfold Lo.tick
  rw [iter_wait]
  have h : ({ ({ (loOf s evs beg) with clock:=add s.clock b } : Lo) with is:=wf { (loOf s evs beg) with clock:=add s.clock b } (ss s.ps) s.ps.length,S:=wf { (loOf s evs beg) with clock:=add s.clock b } (ss s.ps) s.ps.length } : Lo)=loOf ⟨s.ticked (add s.clock b),s.timeout,s.drift,add s.clock b,s.now⟩ evs beg:=by
    have hp : ∀ j,pat (s.ticked (add s.clock b)) j=if j<s.ps.length then (pat s.ps j).wait (add s.clock b) else zp:=fun j=>pat_map_any _ _ _
    have hw : wf { (loOf s evs beg) with clock:=add s.clock b } (ss s.ps) s.ps.length=ss (s.ticked (add s.clock b)):=by
      funext j
      show (if j<s.ps.length∧(pat s.ps j).is=0∧(pat s.ps j).til≤add s.clock b then (1 : Int) else (pat s.ps j).is)=(pat (s.ticked (add s.clock b)) j).is
      rw [hp]
      by_cases hj : j<s.ps.length
      · rw [if_pos hj]
        unfold Pt.wait
        by_cases hk : (pat s.ps j).is=0∧(pat s.ps j).til≤add s.clock b
        · rw [if_pos hk,if_pos ⟨hj,hk⟩]
        · rw [if_neg hk,if_neg (fun h=>hk h.2)]
      · rw [if_neg hj,if_neg (fun h=>hj h.1),pat_none hj]
    have hf : ∀ {α : Type} (f : Pt→α),(∀ p c,f (Pt.wait p c)=f p)→(fun j=>f (pat (s.ticked (add s.clock b)) j))=fun j=>f (pat s.ps j):=fun f hf=>by
      funext j
      rw [hp]
      by_cases hj : j<s.ps.length
      · rw [if_pos hj,hf]
      · rw [if_neg hj,pat_none hj]
    rw [hw]
    unfold loOf
    have hl : (s.ticked (add s.clock b)).length=s.ps.length:=by unfold St.ticked;rw [List.length_map]
    have hkk : kk (s.ticked (add s.clock b))=kk s.ps:=hf Pt.mark wait_mark
    have w : ∀ p c,(Pt.wait p c).rule=p.rule∧(Pt.wait p c).recs=p.recs∧(Pt.wait p c).err=p.err∧(Pt.wait p c).read=p.read∧(Pt.wait p c).til=p.til:=fun p c=>by unfold Pt.wait;split <;> exact ⟨rfl,rfl,rfl,rfl,rfl⟩
    have hgot : (fun j=>(pat (s.ticked (add s.clock b)) j).got)=fun j=>(pat s.ps j).got:=hf Pt.got (fun p c=>by unfold Pt.got;rw [(w p c).2.1,(w p c).2.2.2.1])
    simp only [hl,hkk,hgot,hf Pt.rule (fun p c=>(w p c).1),hf Pt.recs (fun p c=>(w p c).2.1),hf Pt.err (fun p c=>(w p c).2.2.1),hf Pt.read (fun p c=>(w p c).2.2.2.1),hf Pt.til (fun p c=>(w p c).2.2.2.2)]
  show Lo.adv ({ ({ (loOf s evs beg) with clock:=add s.clock b } : Lo) with is:=wf { (loOf s evs beg) with clock:=add s.clock b } (ss s.ps) s.ps.length,S:=wf { (loOf s evs beg) with clock:=add s.clock b } (ss s.ps) s.ps.length } : Lo)=_
  rw [h,lo_adv];rfl
theorem fun_put {α : Type} {ps : List Pt} {i : Nat} (h : i<ps.length) (p : Pt) (f : Pt→α) : (fun j=>f (pat (ps.set i p) j))=put (fun j=>f (pat ps j)) i (f p):=by
  funext j
  rw [pat_set h]
  unfold put
  by_cases e : j=i
  · rw [if_pos e,if_pos e]
  · rw [if_neg e,if_neg e]
theorem got_gone {p : Pt} {t : Int} (h : p.read<p.recs.length) : (p.gone t).got=p.got++[p.recs.getD p.read zr]:=by
  show p.recs.take (p.read+1)=_
  rw [List.take_succ_eq_append_getElem h,List.getD_eq_getElem?_getD,List.getElem?_eq_getElem h];rfl
theorem put_twice {α : Type} (f : Nat→α) (i : Nat) (a b : α) : put (put f i a) i b=put f i b:=by
  funext j
  unfold put
  by_cases e : j=i <;> simp [e]
theorem put_id {α : Type} (f : Nat→α) (i : Nat) (a : α) (h : f i=a) : put f i a=f:=h▸putSelf f i
theorem lo_settled (s : St) (evs : List Ev) (beg : Nat) (i : Nat) (hi : i<s.ps.length) (hr : (pat s.ps i).read<(pat s.ps i).recs.length) (ht : 0≤s.timeout) :
    ((loOf s evs beg).gone i).settle i=loOf ⟨s.polled i,s.timeout,s.drift,s.clock,s.now⟩ (evs++(loOf s evs beg).elm i::faults ((pat s.ps i).gone (add s.clock s.timeout)) i) beg:=by
  have hmax : max s.timeout 0=s.timeout:=by omega
  have hg : ((pat s.ps i).gone (add s.clock s.timeout)).got=(pat s.ps i).got++[(pat s.ps i).recs.getD (pat s.ps i).read zr]:=got_gone hr
  have hmk : (loOf s evs beg).mk2 i=((pat s.ps i).gone (add s.clock s.timeout)).mark:=by
    unfold Pt.mark;rw [hg];rfl
  have hfin : ((loOf s evs beg).gone i).fin i=(settled ((pat s.ps i).gone (add s.clock s.timeout))).is:=by
    unfold Lo.fin settled
    show (if put (fun j=>(pat s.ps j).read) i ((pat s.ps i).read+1) i<(pat s.ps i).recs.length then put (ss s.ps) i 0 i else _)=_
    rw [put_same,put_same]
    by_cases h1 : (pat s.ps i).read+1<(pat s.ps i).recs.length
    · rw [if_pos h1]
      have h2 : ((pat s.ps i).gone (add s.clock s.timeout)).read<((pat s.ps i).gone (add s.clock s.timeout)).recs.length:=h1
      rw [if_pos h2];rfl
    · rw [if_neg h1]
      have h2 : ¬ ((pat s.ps i).gone (add s.clock s.timeout)).read<((pat s.ps i).gone (add s.clock s.timeout)).recs.length:=h1
      rw [if_neg h2];rfl
  have hflt : ((loOf s evs beg).gone i).flt i=faults ((pat s.ps i).gone (add s.clock s.timeout)) i:=by
    unfold Lo.flt faults
    show (if put (fun j=>(pat s.ps j).read) i ((pat s.ps i).read+1) i<(pat s.ps i).recs.length then _ else _)=_
    rw [put_same];rfl
  unfold Lo.settle
  rw [hfin,hflt]
  unfold Lo.gone
  rw [hmk]
  have hl : (s.polled i).length=s.ps.length:=by unfold St.polled;rw [List.length_set]
  have hset : ∀ {α : Type} (f : Pt→α),(fun j=>f (pat (s.polled i) j))=put (fun j=>f (pat s.ps j)) i (f (settled ((pat s.ps i).gone (add s.clock s.timeout)))):=fun f=>fun_put hi _ f
  have w : ∀ p : Pt,(settled p).rule=p.rule∧(settled p).recs=p.recs∧(settled p).err=p.err∧(settled p).read=p.read∧(settled p).til=p.til∧(settled p).got=p.got:=fun p=>by unfold settled;split <;> exact ⟨rfl,rfl,rfl,rfl,rfl,rfl⟩
  have a1:=w ((pat s.ps i).gone (add s.clock s.timeout))
  have k1 : (fun j=>(pat (s.polled i) j).rule)=fun j=>(pat s.ps j).rule:=by rw [hset Pt.rule,a1.1];exact put_id _ _ _ rfl
  have k2 : (fun j=>(pat (s.polled i) j).recs)=fun j=>(pat s.ps j).recs:=by rw [hset Pt.recs,a1.2.1];exact put_id _ _ _ rfl
  have k3 : (fun j=>(pat (s.polled i) j).err)=fun j=>(pat s.ps j).err:=by rw [hset Pt.err,a1.2.2.1];exact put_id _ _ _ rfl
  have k4 : (fun j=>(pat (s.polled i) j).read)=put (fun j=>(pat s.ps j).read) i ((pat s.ps i).read+1):=by rw [hset Pt.read,a1.2.2.2.1];rfl
  have k5 : (fun j=>(pat (s.polled i) j).til)=put (fun j=>(pat s.ps j).til) i (add s.clock s.timeout):=by rw [hset Pt.til,a1.2.2.2.2.1];rfl
  have k6 : (fun j=>(pat (s.polled i) j).got)=put (fun j=>(pat s.ps j).got) i ((pat s.ps i).got++[(pat s.ps i).recs.getD (pat s.ps i).read zr]):=by rw [hset Pt.got,a1.2.2.2.2.2,hg]
  have k7 : kk (s.polled i)=put (kk s.ps) i ((pat s.ps i).gone (add s.clock s.timeout)).mark:=(hset Pt.mark).trans (by rw [settled_mark];rfl)
  have k8 : ss (s.polled i)=put (ss s.ps) i (settled ((pat s.ps i).gone (add s.clock s.timeout))).is:=hset Pt.is
  unfold loOf
  simp only [hl,k1,k2,k3,k4,k5,k6,k7,k8,hmax,put_twice,List.append_assoc,List.cons_append,List.nil_append]
  rfl
theorem lo_poll (s : St) (evs : List Ev) (beg : Nat) (i : Nat) (hi : i<s.ps.length) (hr : (pat s.ps i).read<(pat s.ps i).recs.length) (ht : 0≤s.timeout) : (loOf s evs beg).poll i=loOf (s.pollS i) (evs++s.pollE i) beg:=by
  unfold Lo.poll
  rw [lo_settled s evs beg i hi hr ht,lo_adv]
  unfold St.pollS St.pollE
  rw [List.append_assoc]
  rfl
theorem so_tick_st (tag : Nat→Nat) (W : Nat→Nat→Prop) (ev : Value) (V : SrcV) (g : Nat) (s : St) (evs : List Ev) (beg : Nat) (n : Int) (w : World) (h : SrcC w tag W ev V g (loOf s evs beg)) (hok : s.Ok) (hn : in64 n) (hb : evs.length≤90000) :
    Calls Tryz.prog 112 #[.pointer (some ⟨g,0,none⟩),.int .i64 n] w fun e w'=>e = .returned (.tuple #[])∧SrPost tag V g (loOf (s.doS (true,n)) (evs++s.doE (true,n)) beg) w w':=by
  unfold St.doS St.doE
  simp only [if_true]
  by_cases h0 : n<0
  · rw [if_pos h0,if_pos h0,List.append_nil]
    exact so_tick_none tag W ev V g _ n w h h0
  · rw [if_neg h0,if_neg h0,← lo_tick]
    refine so_tick tag W ev V g _ n w h (Nat.le_refl _) (by omega) hok.ck hn (fun c=>?_) (by show evs.length≤100000;omega)
    rw [iter_wait]
    exact ml_in fun i hi=>mark_in (hok.pt _ (pat_mem hi))
theorem so_poll_st (tag : Nat→Nat) (W : Nat→Nat→Prop) (ev : Value) (V : SrcV) (g : Nat) (s : St) (evs : List Ev) (beg : Nat) (n : Int) (w : World) (h : SrcC w tag W ev V g (loOf s evs beg)) (hok : s.Ok) (hb : evs.length≤90000) :
    Calls Tryz.prog 113 #[.pointer (some ⟨g,0,none⟩),.int .i64 n] w fun e w'=>e = .returned (.tuple #[])∧SrPost tag V g (loOf (s.doS (false,n)) (evs++s.doE (false,n)) beg) w w':=by
  have hs : ∀ j,j<(loOf s evs beg).n→0≤(loOf s evs beg).is j∧(loOf s evs beg).is j≤3:=fun j hj=>⟨(hok.pt _ (pat_mem hj)).lo,(hok.pt _ (pat_mem hj)).hi⟩
  unfold St.doS St.doE
  simp only [Bool.false_eq_true,if_false]
  cases hr : s.refused n
  · rw [if_neg (by simp),if_neg (by simp)]
    obtain ⟨h1,h2,h3,h4⟩:=refused_not hr
    have hrd:=refused_read hok hr
    obtain ⟨i,rfl⟩ : ∃ i : Nat,n=i:=⟨n.toNat,by omega⟩
    rw [Int.toNat_natCast] at *
    have hp:=hok.pt _ (pat_mem h2)
    rw [← lo_poll s evs beg i h2 hrd (by have:=hok.tm;omega)]
    have htm : in64 s.timeout:=by have:=hok.tm;unfold in64;omega
    refine so_poll tag W ev V g _ i w h (Nat.le_refl _) hs hr hrd hp.few hp.chk hp.fit (hp.inr.take _) ?_ ?_ hok.ck htm ?_ hb
    · show ((pat s.ps i).recs.take _).length≤400
      rw [List.length_take];have:=hp.few;omega
    · show in64 ((pat s.ps i).recs.getD (pat s.ps i).read zr).1∧in64 ((pat s.ps i).recs.getD (pat s.ps i).read zr).2.1
      rw [List.getD_eq_getElem?_getD,List.getElem?_eq_getElem hrd]
      exact okR_in (hp.okr _ (List.getElem_mem hrd))
    · rw [lo_settled s evs beg i h2 hrd (by have:=hok.tm;omega)]
      have hk:=(St.Ok.poll hok h2 hrd).pt
      have hl : s.ps.length=(s.polled i).length:=by unfold St.polled;rw [List.length_set]
      show in64 (ml (kk (s.polled i)) (ss (s.polled i)) s.ps.length)
      rw [hl]
      exact least_in hk
  · rw [if_pos rfl,if_pos rfl,List.append_nil]
    exact so_poll_none tag W ev V g _ n w h (Nat.le_refl _) hs hr
def DoPost (tag : Nat→Nat) (V : SrcV) (g : Nat) (x : Lo) (l : List Ev) (w : World) (e : Ending) (w' : World) : Prop :=
  ∃ v tag' W' ev',e = .returned v∧Sl w.heap.size w' 1 v l.length (l.map evv)∧SrcC w' tag' W' ev' V g x∧Upd (fun b=>tag b≠0) w w'∧(∀ b,tag' b≠0→tag b≠0∨w.heap.size≤b)∧∀ b,v.ownBlock=some b→tag' b=0
theorem DoPost.un {tag : Nat→Nat} {V : SrcV} {g : Nat} {x : Lo} {l : List Ev} {w w' : World} {e : Ending} (h : DoPost (retag tag w.heap.size 0) V g x l w e w') : DoPost tag V g x l w e w':=by
  obtain ⟨v,tag',W',ev',h1,h2,h3,h4,h5,h6⟩:=h
  refine ⟨v,tag',W',ev',h1,h2,h3,h4.mono (fun k hk h=>by rw [retag_old hk] at h;exact h),fun k hk=>?_,h6⟩
  rcases h5 k hk with h|h
  · rcases Nat.lt_or_ge k w.heap.size with hlt|hge
    · rw [retag_old hlt] at h;exact .inl h
    · exact .inr hge
  · exact .inr h
theorem SrPost.row {tag : Nat→Nat} {V : SrcV} {g : Nat} {x : Lo} {w a b : World} {tag' : Nat→Nat} {W' : Nat→Nat→Prop} {ev' v : Value} {l : List Ev} (hS : SrcC a tag' W' ev' V g x) (hu : Upd (fun b=>tag b≠0) w a) (ht : ∀ b,tag' b≠0→tag b≠0∨w.heap.size≤b)
    (q1 : Sl a.heap.size b 1 v l.length (l.map evv)) (q2 : Below a.heap.size a b) : DoPost tag V g x l w (.returned v) b:=by
  refine ⟨v,Go.Proofs.YtmimfkhkilijcaaGreatDoor.retag tag' a.heap.size 0,W',ev',rfl,q1.base hu.size,(hS.retag 0).on q2,hu.trans (Upd.of_below (S:=fun k=>a.heap.size≤k) q2 (fun _ _ h=>h)) (fun i hi h=>by have:=hu.size;omega),fun k hk=>?_,fun k hk=>retag_new (q1.lt k hk).1⟩
  rcases Nat.lt_or_ge k a.heap.size with hlt|hge
  · rw [retag_old hlt] at hk;exact ht k hk
  · rw [retag_new hge] at hk;exact absurd rfl hk
theorem so_do0 (tag : Nat→Nat) (W : Nat→Nat→Prop) (ev : Value) (V : SrcV) (g : Nat) (s : St) (evs : List Ev) (beg : Nat) (t : Bool) (n : Int) (w : World) (h : SrcC w tag W ev V g (loOf s evs beg)) (h0 : ∀ b,w.heap.size≤b→tag b=0) (hok : s.Ok) (hn : in64 n) (hb : evs.length≤90000) :
    Calls Tryz.prog 58 #[.pointer (some ⟨g,0,none⟩),.agg #[.bool t,.int .i64 n]] w (DoPost tag V g (loOf (s.doS (t,n)) (evs++s.doE (t,n)) beg) (s.doE (t,n)) w):=by
  have hA:=At.alloc w [.bool t,.int .i64 n] 50
  have hb0 : Below w.heap.size w (w.alloc (.cells #[.bool t,.int .i64 n] 50)):=(Below.refl _ _).alloc (Nat.le_refl _) _
  have hS0:=h.on hb0
  have HT:=fun w' h=>Lib.hid (so_tick_st tag W ev V g s evs beg n w' h hok hn hb)
  have HP:=fun w' h=>Lib.hid (so_poll_st tag W ev V g s evs beg n w' h hok hb)
  have HH:=Lib.hid h
  have HX : Hid (∀ l : List Ev,((evs++l).map evv).drop (evs.length*1)=l.map evv):=by
    intro l
    rw [Nat.mul_one,List.map_append,List.drop_append_of_le_length (by rw [List.length_map];exact Nat.le_refl _),List.drop_of_length_le (by rw [List.length_map];exact Nat.le_refl _),List.nil_append]
  have HML : Hid (∀ (l : List Ev) (m3 : Nat),m3=(evs++l).length - evs.length→m3=l.length):=by
    intro l m3 h;rw [h,List.length_append];omega
  have hN:=h0 _ (Nat.le_refl w.heap.size)
  have HU0 : Hid (Upd (fun k=>tag k≠0) w (w.alloc (.cells #[.bool t,.int .i64 n] 50))):=(Upd.refl _ _).alloc _
  clear h h0 hok hn
  obtain ⟨hg,c0,z0,c1,z1,c2,z2,c3,z3,c4,z4,c5,z5⟩:=HH.out.blk.cells6
  obtain ⟨ae,ce,hev⟩:=HH.out.evr.shape
  rw [hev] at c4
  clear hev
  cases t
  · have hdl:=doE_len s (false,n)
    generalize s.doS (false,n)=s' at *
    generalize s.doE (false,n)=l at *
    have hel : (loOf s evs beg).evs.length=evs.length:=rfl
    rw [hel] at c4
    clear hel
    go_enter Tryz.func58,Tryz.ntmps58
    go_wp2_with (first|(go_at_call 113;(with_reducible refine (HP _ hS0).out.mono ?_);rintro e w2 ⟨rfl,tag2,W2,ev2,hS2,hu2,ht2⟩;obtain ⟨hg2,f0,x0,f1,x1,f2,x2,f3,x3,f4,x4,f5,x5⟩:=hS2.blk.cells6;have hE2 : Sl 0 w2 1 ev2 (evs++l).length ((evs++l).map evv):=hS2.evr;obtain ⟨a3,m3,c3',hm3,hrun,hsrc,hnil⟩:=sl_from_n hE2 (P:=Tryz.prog) Tryz.underlying69 (by intro w;kernel_rfl) evs.length evs.length rfl (by show evs.length≤(evs++l).length;rw [List.length_append];omega) (evv_one _);have hx:=HX.out l;have hml:=HML.out l m3 hm3;clear hm3;subst hml;rw [hx] at hsrc;have HC:=Lib.hid (cl_ev a3 _ c3' (l.map evv) w2 (fun w' hw=>hsrc w' (hE2.onW hw)) (fun e=>by have h1:=hnil e;refine ⟨h1,?_⟩;rw [List.eq_nil_of_length_eq_zero h1];rfl) (by omega)))|(go_at_call 114;(with_reducible refine HC.out.mono ?_);rintro e w3 ⟨v,rfl,q1,q2⟩))
    go_ret
    have hu:=HU0.out.trans hu2 (fun _ _ h=>h)
    exact SrPost.row hS2 hu (fun b hb=>by
      rcases ht2 b hb with h|h
      · exact .inl h
      · right;have : w.heap.size≤(w.alloc (.cells #[.bool false,.int .i64 n] 50)).heap.size:=by simp
        omega) q1 q2
  · have hdl:=doE_len s (true,n)
    generalize s.doS (true,n)=s' at *
    generalize s.doE (true,n)=l at *
    have hel : (loOf s evs beg).evs.length=evs.length:=rfl
    rw [hel] at c4
    clear hel
    go_enter Tryz.func58,Tryz.ntmps58
    go_wp2_with (first|(go_at_call 112;(with_reducible refine (HT _ hS0).out.mono ?_);rintro e w2 ⟨rfl,tag2,W2,ev2,hS2,hu2,ht2⟩;obtain ⟨hg2,f0,x0,f1,x1,f2,x2,f3,x3,f4,x4,f5,x5⟩:=hS2.blk.cells6;have hE2 : Sl 0 w2 1 ev2 (evs++l).length ((evs++l).map evv):=hS2.evr;obtain ⟨a3,m3,c3',hm3,hrun,hsrc,hnil⟩:=sl_from_n hE2 (P:=Tryz.prog) Tryz.underlying69 (by intro w;kernel_rfl) evs.length evs.length rfl (by show evs.length≤(evs++l).length;rw [List.length_append];omega) (evv_one _);have hx:=HX.out l;have hml:=HML.out l m3 hm3;clear hm3;subst hml;rw [hx] at hsrc;have HC:=Lib.hid (cl_ev a3 _ c3' (l.map evv) w2 (fun w' hw=>hsrc w' (hE2.onW hw)) (fun e=>by have h1:=hnil e;refine ⟨h1,?_⟩;rw [List.eq_nil_of_length_eq_zero h1];rfl) (by omega)))|(go_at_call 114;(with_reducible refine HC.out.mono ?_);rintro e w3 ⟨v,rfl,q1,q2⟩))
    go_ret
    have hu:=HU0.out.trans hu2 (fun _ _ h=>h)
    exact SrPost.row hS2 hu (fun b hb=>by
      rcases ht2 b hb with h|h
      · exact .inl h
      · right;have : w.heap.size≤(w.alloc (.cells #[.bool true,.int .i64 n] 50)).heap.size:=by simp
        omega) q1 q2
theorem so_do (tag : Nat→Nat) (W : Nat→Nat→Prop) (ev : Value) (V : SrcV) (g : Nat) (s : St) (evs : List Ev) (beg : Nat) (t : Bool) (n : Int) (w : World) (h : SrcC w tag W ev V g (loOf s evs beg)) (hok : s.Ok) (hn : in64 n) (hb : evs.length≤90000) :
    Calls Tryz.prog 58 #[.pointer (some ⟨g,0,none⟩),.agg #[.bool t,.int .i64 n]] w (DoPost tag V g (loOf (s.doS (t,n)) (evs++s.doE (t,n)) beg) (s.doE (t,n)) w) :=
  (so_do0 _ _ _ _ _ _ _ _ _ _ _ (h.retag 0) (fun _ hb=>retag_new hb) hok hn hb).mono fun e w' h=>h.un
end Go.Proofs.YtmimfkhkilijcaaGreatDoor
