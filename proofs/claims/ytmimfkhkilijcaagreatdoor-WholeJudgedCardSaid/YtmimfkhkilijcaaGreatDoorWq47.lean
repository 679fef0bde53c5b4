/- ModB; RefV; ModC; None13: what is reached of them. -/
import Derived.Test.YtmimfkhkilijcaaGreatDoorWq46
import Derived.Test.YtmimfkhkilijcaaGreatDoorWq43
import Derived.Test.YtmimfkhkilijcaaGreatDoorWq32
import Derived.Test.YtmimfkhkilijcaaGreatDoorWq35
set_option linter.unusedVariables false
set_option linter.unusedSimpArgs false
set_option maxRecDepth 100000
set_option maxHeartbeats 8000000
namespace Go.Proofs.YtmimfkhkilijcaaGreatDoor
open Go.ChangeShapes Go.WideShapes Go.ChangeAt Go.RowKit
open PHist PRing PSat PClamp PBound PFrame PVar PCrc PSign PTree PEv
theorem mo_new (rs : List Rul) (t d : Int) (ls : List ByteArray) (a : Option Addr) (n c : Nat) (b : Option Addr) (m c2 : Nat) (w : World) (h1 : RowU w a rs) (h2 : RowS w b ls) (hn : n=rs.length) (hm : m=ls.length) (hz : nerr rs t d m=0) (h8 : m≤8) (hf : ∀ r∈rs,r.Fits) (ht : in64 t) (hd : in64 d) (hs : ∀ s∈ls,s.size≤400) :
    Calls Tryz.prog 122 #[.agg #[.slice a n c,.int .i64 t,.int .i64 d],.slice b m c2] w (NewM (St.new t d rs (ls.map fun s=>s.data.toList)) (St.newE t rs (ls.map fun s=>s.data.toList)) rs n w):=by
  have e:=fun (w : World) (o : Obj)=>(Below.refl w.heap.size w).alloc (Nat.le_refl _) o
  have hA0:=(At.alloc w [.slice a n c,.int .i64 t,.int .i64 d] 24).on (e _ (.cells #[.slice none 0 0,.int .i64 0,.int .i64 0,.slice none 0 0,.int .i64 0,.int .i64 0] 191))
  have hA1:=At.alloc (w.alloc (.cells #[.slice a n c,.int .i64 t,.int .i64 d] 24)) [.slice none 0 0,.int .i64 0,.int .i64 0,.slice none 0 0,.int .i64 0,.int .i64 0] 191
  rw [World.size_alloc] at hA1
  have hb0 : Below w.heap.size w ((w.alloc (.cells #[.slice a n c,.int .i64 t,.int .i64 d] 24)).alloc (.cells #[.slice none 0 0,.int .i64 0,.int .i64 0,.slice none 0 0,.int .i64 0,.int .i64 0] 191)):=on_below (e _ _) (e _ _)
  obtain ⟨hc0,hmn⟩:=nerr_zero hz
  have HC:=Lib.hid (cf_check rs t d a n c _ (h1.below hb0) hn (by omega) 0 hc0)
  have ht1:=ccheck_t hc0
  have HRO : Hid (∀ p∈raws t rs (ls.map fun s=>s.data.toList),p.Ok):=raws_ok (fun r hr=>⟨ccheck_ok hc0 r hr,hf r hr⟩) (fun l hl=>by
    obtain ⟨s,hs',rfl⟩:=List.mem_map.1 hl
    exact hs s hs') ⟨ht1.2.1,ht.2⟩
  have HOK : Hid (∀ p∈begun t rs (ls.map fun s=>s.data.toList),p.Ok):=fun p hp=>by
    obtain ⟨q,hq,rfl⟩:=List.mem_map.1 hp
    exact (HRO.out q hq).settled
  have hadd : add 0 t=t:=add_zero_in ⟨ht1.2.1,ht.2⟩
  have HB1 : Hid (∀ p,a=some p→0<rs.length→p.block<w.heap.size):=fun p hp h0=>by
    obtain ⟨b',off,hab,hb,-⟩:=h1.at_ 0 h0
    rw [hab] at hp;cases hp
    exact hb
  have HB2 : Hid (∀ p,b=some p→0<ls.length→p.block<w.heap.size):=fun p hp h0=>by
    obtain ⟨b',off,hab,hb,-⟩:=h2.at_ 0 h0
    rw [hab] at hp;cases hp
    exact hb
  have H1:=Lib.hid (h1.below hb0)
  have H2:=Lib.hid (h2.below hb0)
  have HS:=Lib.hid hs
  have HRL:=Lib.hid (raws_len (t:=t) (rs:=rs) (ls:=ls.map fun s=>s.data.toList) (by rw [List.length_map];omega))
  have HLL : Hid ((ls.map fun s=>s.data.toList).length=rs.length):=by show _=_;rw [List.length_map];omega
  obtain rfl : m=n:=by omega
  have HAP:=fun w' (hb : Below w.heap.size w w')=>Lib.hid (mo_apart a m c rs none 0 0 [] t d 0 (-9223372036854775808) w' (h1.below hb) hn (RowP.nil _ _) rfl (by omega) (by omega))
  have HN:=Lib.hid hn
  have HM:=Lib.hid hm
  have htt : in64 t:=ht
  clear h1 h2 hn hm hz hs hc0 hmn ht1 hd ht
  have hne : ((m : Int) != (m : Int))=false:=by simp
  go_enter Tryz.func122,Tryz.ntmps122
  go_upto_region 1 with fail
  generalize (w.alloc (.cells #[.slice a m c,.int .i64 t,.int .i64 d] 24)).alloc (.cells #[.slice none 0 0,.int .i64 0,.int .i64 0,.slice none 0 0,.int .i64 0,.int .i64 0] 191)=w1 at *
  obtain ⟨hg0,p0,x0,p1,x1,p2,x2⟩:=hA0.three
  go_upto_region 6 with (first|(go_at_call 103;(with_reducible refine HC.out.mono ?_);rintro e w2 ⟨rfl,hb2⟩;obtain ⟨hgc,c0,z0,c1,z1,c2,z2⟩:=(hA0.on hb2).three))
  have hA0b:=hA0.on hb2
  have hA1b:=hA1.on hb2
  have hbw2:=on_below hb0 hb2
  have H1b:=Lib.hid (H1.out.below hb2)
  have H2b:=Lib.hid (H2.out.below hb2)
  have hlt2 : w.heap.size+1<w2.heap.size:=hA1b.1
  have HAP2:=HAP _ hbw2
  clear hA0 hA1 hb0 p0 x0 p1 x1 p2 x2 hg0 hb2 H1 H2 HAP
  go_upto_region 8 with (first|(go_at_call 175;(with_reducible refine HAP2.out.mono ?_);intro e w3 hY;obtain ⟨ra2,rc2,a2,cc2,rfl,hs3,ht3,hb3,hne3,hnil3⟩:=hY;obtain ⟨hn1,hn2⟩:=hnil3 rfl;subst hn1;subst hn2)|fail)
  have hba:=e w3 (.cells #[.slice ra2 m rc2,.int .i64 t,.int .i64 d,.slice none 0 0,.int .i64 0,.int .i64 (-9223372036854775808)] 191)
  have hBl:=At.alloc w3 [.slice ra2 m rc2,.int .i64 t,.int .i64 d,.slice none 0 0,.int .i64 0,.int .i64 (-9223372036854775808)] 191
  have hb4:=on_below hb3 hba
  have hbw4:=on_below hbw2 hb4
  have hru4:=(hs3.onW hba).base (show w.heap.size+2≤w2.heap.size by omega)
  have hrg : ∀ q,(Value.slice ra2 m rc2).ownBlock=some q→q<w3.heap.size:=fun q hq=>(hs3.lt q hq).2
  have hA0c:=hA0b.on hb4
  have hA1c:=hA1b.on hb4
  have H1c:=Lib.hid (H1b.out.below hb4)
  have H2c:=Lib.hid (H2b.out.below hb4)
  have hg3 : w.heap.size+1<w3.heap.size:=Nat.lt_of_lt_of_le hlt2 hb3.size
  have HR0 : MoN (w3.alloc (.cells #[.slice ra2 m rc2,.int .i64 t,.int .i64 d,.slice none 0 0,.int .i64 0,.int .i64 (-9223372036854775808)] 191)) (w3.alloc (.cells #[.slice ra2 m rc2,.int .i64 t,.int .i64 d,.slice none 0 0,.int .i64 0,.int .i64 (-9223372036854775808)] 191)) w3.heap.size (.slice ra2 m rc2) 0 t d rs (ls.map fun s=>s.data.toList) none 0 (.slice none 0 0) [] :=
    ⟨⟨hBl,Sl.nil _ _ _,rfl,rfl,(fun h=>by cases h),fun v hv=>(by cases hv),fun v hv=>(by cases hv),fun v hv=>(by cases hv)⟩,Sl.nil _ _ _,fun b hb=>(by cases hb),Upd.refl _ _⟩
  clear hs3 ht3 hb3 hba hb4 hbw2 hA0b hA1b H1b H2b hgc c0 z0 c1 z1 c2 z2 hne3 hnil3 HAP2 hlt2
  have hgl:=hBl.1
  clear hBl
  generalize w3.alloc (.cells #[.slice ra2 m rc2,.int .i64 t,.int .i64 d,.slice none 0 0,.int .i64 0,.int .i64 (-9223372036854775808)] 191)=w4 at *
  generalize w3.heap.size=g at *
  obtain ⟨hg0,p0,x0,p1,x1,p2,x2⟩:=hA0c.three
  have hru4':=Lib.hid hru4
  have hbw4':=Lib.hid hbw4
  clear hru4 hbw4
  go_wp2_with fail
  go_loopw [9,34] (fun vo vi wr=>∃ (k : Nat) (a' : Option Addr) (c' : Nat) (l : List Pv),k≤m∧vi = .int .i64 k∧MoN w4 wr g (.slice ra2 m rc2) k t d rs (ls.map fun s=>s.data.toList) a' c' vo l) (fun _ i _=>m - (intOf i).toNat)
  case atStart=>exact ⟨0,none,0,[],Nat.zero_le _,rfl,HR0⟩
  case round =>
    clear HR0 p0 x0 p1 x1 p2 x2 hg0
    obtain ⟨k,a',c',l,hk,rfl,hR⟩:=hrel
    obtain ⟨ao,co,hre⟩:=hR.evr.shape
    subst hre
    by_cases hlt : k<m
    · have hkr : k<rs.length:=by rw [← HN.out];exact hlt
      have hkl : k<ls.length:=by rw [← HM.out];exact hlt
      have hrow:=RowG.upd H1c.out hR.new (fun p hp h=>by have h1:=HB1.out p hp (by omega);have h2 : g≤p.block:=h;omega)
      have hstr:=RowS.upd H2c.out hR.new (fun p hp h=>by have h1:=HB2.out p hp (by omega);have h2 : g≤p.block:=h;omega)
      obtain ⟨bb,offb,rfl,-,-⟩:=hrow.at_ k hkr
      obtain ⟨bs,offs,rfl,-,-⟩:=hstr.at_ k hkl
      have hraw:=raws_at (t:=t) HLL.out k hkr
      rw [List.getElem_map] at hraw
      have hrawk : k<(raws t rs (ls.map fun s=>s.data.toList)).length:=by rw [HRL.out];exact hkr
      have hrok:=HRO.out _ (pat_mem hrawk)
      have HTR:=take_raw hrawk _ rfl
      have HPA:=fun wx=>Lib.hid (log_parse2 ls[k] wx (by have:=HS.out _ (List.getElem_mem hkl);omega))
      have hrc:=RowU.cells hrow k hkr
      have hst0:=hstr.cell k hkl
      unfold Pt.raw at hraw
      generalize rs[k]=ru at *
      obtain ⟨kd,bd,pc,wn,sg⟩:=ru
      generalize parse ls[k].data.toList=pp at *
      obtain ⟨recs,ln,er⟩:=pp
      simp only at hraw hrc
      generalize ls[k]=sk at *
      have HFL : Hid ((faults (pat (raws t rs (ls.map fun s=>s.data.toList)) k) k).length≤1):=faults_len _ _
      have HFK : Hid ((faultsTo (raws t rs (ls.map fun s=>s.data.toList)) k).length≤k):=faultsTo_len _ _
      have hfe : faultsTo (raws t rs (ls.map fun s=>s.data.toList)) (k+1)=faultsTo (raws t rs (ls.map fun s=>s.data.toList)) k++faults (pat (raws t rs (ls.map fun s=>s.data.toList)) k) k:=rfl
      have h400 : recs.length≤400:=by rw [hraw] at hrok;exact hrok.few
      have hpre : ∀ p∈(begun t rs (ls.map fun s=>s.data.toList)).take k,p.recs.length≤400:=fun p hp=>(HOK.out p (List.mem_of_mem_take hp)).few
      rw [hraw] at HTR hfe
      have HSE:=fun (K' : Option Addr→Nat→List R→Prop) (a1 : Option Addr) (c1 : Nat) (l1 : List Pv) wx (h : MoS K' (g+1) wx g (.slice ra2 m rc2) a1 (k+1) c1 l1 ((begun t rs (ls.map fun s=>s.data.toList)).take k++[⟨⟨kd,bd,pc,wn,sg⟩,recs,er,0,0,t⟩]) t d 0 (-9223372036854775808))=>Lib.hid (mo_settle K' (g+1) g (.slice ra2 m rc2) a1 (k+1) c1 l1 _ t d 0 (-9223372036854775808) k wx h (by omega) (fun p hp=>by
        rcases List.mem_append.1 hp with hp|hp
        · exact hpre p hp
        · rw [List.mem_singleton] at hp;rw [hp];exact h400) (by omega))
      rw [HTR.1,HTR.2] at HSE
      have HFE:=Lib.hid hfe
      obtain ⟨hbb,r0,r1,r2,r3,r4⟩:=hrc
      obtain ⟨hbs,s0⟩:=hst0
      have hbr:=e wr (.cells #[.int .i64 kd,.int .i64 bd,.int .i64 pc,.int .i64 wn,.int .i64 sg] 59)
      have hRu:=At.alloc wr [.int .i64 kd,.int .i64 bd,.int .i64 pc,.int .i64 wn,.int .i64 sg] 59
      have hgr : g+1≤wr.heap.size:=Nat.le_trans hgl hR.new.size
      rw [hraw] at HFL
      generalize faults ⟨⟨kd,bd,pc,wn,sg⟩,recs,er,0,0,t⟩ k=fl at *
      clear HTR hfe hraw hrok hpre hrow hstr HS
      have hmm : (k : Int)<(m : Int):=by omega
      go_upto_region 12 with (first|(go_at_call 128;(with_reducible refine (HPA _).out.mono ?_);intro e w5 hG;obtain ⟨ar,cr,rfl,hRR,hb5,hle,hcap,hnr⟩:=hG)|fail)
      have hRu5:=hRu.on hb5
      have hbr5:=on_below hbr hb5
      have hN5 : ∀ q,ar=some q→wr.heap.size≤q.block:=fun q hq=>by have:=hnr q hq;rw [World.size_alloc] at this;omega
      clear r0 r1 r2 r3 r4 s0 hbb hbs hRu hbr hnr HPA hb5
      have hM5:=hR.st.on hbr5
      obtain ⟨i0,hi0,hz0,hz1,hz2⟩:=info_parts info_cl_pt
      have hone:=Pv.cells_one ⟨⟨⟨kd,bd,pc,wn,sg⟩,recs,er,0,0,t⟩,ar,cr⟩
      have HDL:=fun wx (hx : Below w5.heap.size w5 wx)=>Lib.hid (hadd▸mo_deadline g _ _ t d 0 (-9223372036854775808) wx (hM5.on hx).blk (by unfold in64;omega) htt)
      have HF : ∀ wx,Upd (fun q=>(Value.slice a' k c').ownBlock=some q) w5 wx→wx.cell? ⟨g,3,none⟩=some (.slice a' k c')∧wx.frozen? ⟨g,3,none⟩=false:=fun wx hx=>by
        obtain ⟨-,-,-,-,-,-,-,t3,y3,-,-,-,-⟩:=(hM5.blk.upd hx hM5.ne).cells6
        exact ⟨t3,y3⟩
      have HF5 : ∀ wx,Upd (fun q=>q=g∨(Value.slice a' k c').ownBlock=some q) w5 wx→wx.cell? ⟨wr.heap.size,0,none⟩=some (.int .i64 kd)∧wx.cell? ⟨wr.heap.size,1,none⟩=some (.int .i64 bd)∧wx.cell? ⟨wr.heap.size,2,none⟩=some (.int .i64 pc)∧wx.cell? ⟨wr.heap.size,3,none⟩=some (.int .i64 wn)∧wx.cell? ⟨wr.heap.size,4,none⟩=some (.int .i64 sg):=fun wx hx=>by
        obtain ⟨-,u0,-,u1,-,u2,-,u3,-,u4,-⟩:=(hRu5.upd hx (fun h=>h.elim (fun h=>by have h' : wr.heap.size=g:=h;omega) (fun h=>by have:=(hR.st.row.lt _ h).2;omega))).five
        exact ⟨u0,u1,u2,u3,u4⟩
      have HUM : ∀ wx,Upd (fun q=>(Value.slice a' k c').ownBlock=some q) w5 wx→Upd (fun q=>q=g∨(Value.slice a' k c').ownBlock=some q) w5 wx:=fun wx hx=>hx.mono (fun _ _ h=>.inr h)
      have hm1 : k+1≤maxLen:=by unfold maxLen;omega
      have hrl5:=hM5.row
      have hgl5 : g+1≤w5.heap.size:=Nat.le_trans hgr hbr5.size
      have HPU:=fun (w6 w7 : World) (a1 : Option Addr) (c1 : Nat) (h6 : Below wr.heap.size wr w6) (hvo : PvOk w6 ⟨⟨⟨kd,bd,pc,wn,sg⟩,recs,er,0,0,t⟩,ar,cr⟩) hva q1 q2 q3=>MoS.push (w6:=w6) (w7:=w7) (a1:=a1) (c1:=c1) (v:=⟨⟨⟨kd,bd,pc,wn,sg⟩,recs,er,0,0,t⟩,ar,cr⟩) hR.st h6 hvo (fun p hp h0=>Nat.le_trans hgr (hN5 p hp)) hva q1 q2 q3
      have HVO : Hid (∀ wx,Below w5.heap.size w5 wx→PvOk wx ⟨⟨⟨kd,bd,pc,wn,sg⟩,recs,er,0,0,t⟩,ar,cr⟩):=fun wx hx=>⟨hRR.on hx,hle,hcap⟩
      have HVA : Hid (∀ wx,Below w5.heap.size w5 wx→∀ q,ar=some q→0<recs.length→wr.heap.size≤q.block∧q.block<wx.heap.size):=fun wx hx q hq h0=>by
        obtain ⟨b',off,hab,hb,-⟩:=hRR.at_ 0 h0
        have h3:=hN5 q hq
        rw [hab] at hq;cases hq
        have h1 : b'<w5.heap.size:=hb
        exact ⟨h3,Nat.lt_of_lt_of_le h1 hx.size⟩
      obtain ⟨t3,y3⟩:=HF w5 (Upd.refl _ _)
      obtain ⟨u0,u1,u2,u3,u4⟩:=HF5 w5 (Upd.refl _ _)
      clear hRu5 hRR
      go_cut [] (fun wx=>∃ (a1 : Option Addr) (c1 : Nat),MoS (fun a _ r=>∀ p,a=some p→0<r.length→g+1≤p.block) (g+1) wx g (.slice ra2 m rc2) a1 (k+1) c1 (l++[⟨⟨⟨kd,bd,pc,wn,sg⟩,recs,er,0,0,t⟩,ar,cr⟩]) ((begun t rs (ls.map fun s=>s.data.toList)).take k++[⟨⟨kd,bd,pc,wn,sg⟩,recs,er,0,0,t⟩]) t d 0 (-9223372036854775808)∧Upd (fun q=>q=g∨(Value.slice a' k c').ownBlock=some q) w5 wx∧∀ q,(Value.slice a1 (k+1) c1).ownBlock=some q→(Value.slice a' k c').ownBlock=some q∨w5.heap.size≤q)
      case first =>
        have hHR:=Lib.hid hR
        have hHM:=Lib.hid hM5
        clear HSE HFE HFL HFK HOK HRO HRL HLL HB1 HB2 H1c H2c hR hM5 hN5 HN HM
        clear t3 y3 u0 u1 u2 u3 u4
        obtain ⟨t3,y3⟩:=HF w5.drew (Upd.refl _ _).drew
        obtain ⟨u0,u1,u2,u3,u4⟩:=HF5 w5.drew (Upd.refl _ _).drew
        go_region_law
          (first|(go_simp;go_at_call 176;(with_reducible refine (HDL _ (Below.refl _ _).drew).out.mono ?_);rintro e w6 ⟨rfl,hb6⟩;have hbx:=on_below (Below.refl w5.heap.size w5).drew hb6;have hux : Upd (fun q=>(Value.slice a' k c').ownBlock=some q) w5 w6:=Upd.of_below hbx (fun q hq h=>by omega);have hux5:=HUM _ hux;obtain ⟨x6,z6⟩:=HF _ hux;obtain ⟨v0,v1,v2,v3,v4⟩:=HF5 _ hux5;obtain ⟨x7,z7⟩:=HF (w6.alloc (.cells #[.int .i64 kd,.int .i64 bd,.int .i64 pc,.int .i64 wn,.int .i64 sg,.slice ar recs.length cr,.int .i64 er,.int .i64 0,.int .i64 0,.int .i64 t] 256)) (hux.alloc _))|(refine step_append_mine rfl (.tmp 49) (.tmp 55) 189 189 rfl 256 i0 (.agg #[.int .i64 0,.int .i64 0,.int .i64 0,.int .i64 0,.int .i64 0,.slice none 0 0,.int .i64 0,.int .i64 0,.int .i64 0,.int .i64 0]) 96 Tryz.underlying189 hi0 hz0 hz1 hz2 rfl (.slice a' k c') _ 1 [.int .i64 kd,.int .i64 bd,.int .i64 pc,.int .i64 wn,.int .i64 sg,.slice ar recs.length cr,.int .i64 er,.int .i64 0,.int .i64 0,.int .i64 t] rfl rfl (B:=g+1) (xs:=pvs l) (n:=k) ((hrl5.onW hbx).alloc _) (src_cells Tryz.underlying189 _ [.int .i64 kd,.int .i64 bd,.int .i64 pc,.int .i64 wn,.int .i64 sg,.slice ar recs.length cr,.int .i64 er,.int .i64 0,.int .i64 0,.int .i64 t] 256 _ rfl 10 rfl hone) hm1 (by omega) (by have:=hbx.size;simp;omega) ?_;intro a1 c1 wz q1 q2 q3;have huz:=(hux.alloc (.cells #[.int .i64 kd,.int .i64 bd,.int .i64 pc,.int .i64 wn,.int .i64 sg,.slice ar recs.length cr,.int .i64 er,.int .i64 0,.int .i64 0,.int .i64 t] 256)).trans q2 (fun _ _ h=>h);have huz5:=HUM _ huz;have hst5:=fun u=>huz5.setCell (p:=⟨g,3,none⟩) (fun _=>.inl rfl) u;obtain ⟨x3,z3⟩:=HF _ huz))
        all_goals (go_wp2_with fail;go_meet)
        all_goals
          have hb6':=hbx.alloc hbx.size (.cells #[.int .i64 kd,.int .i64 bd,.int .i64 pc,.int .i64 wn,.int .i64 sg,.slice ar recs.length cr,.int .i64 er,.int .i64 0,.int .i64 0,.int .i64 t] 256)
          have hP:=HPU _ _ a1 c1 (on_below hbr5 hb6') (HVO.out _ hb6') (HVA.out _ hb6') q1 q2 q3
          exact ⟨a1,c1,hP.1,(Upd.of_below (S:=fun q=>q=g∨(Value.slice a' k c').ownBlock=some q) hb6' (fun q h1 h2=>by omega)).trans hP.2 (fun _ _ h=>h),fun q hq=>(q3 q hq).imp id (fun h=>Nat.le_trans hb6'.size h)⟩
      case rest =>
        obtain ⟨a1,c1,hM1,hU1,hq3⟩:=hcut
        have hog : ∀ q,(Value.slice ao (faultsTo (raws t rs (ls.map fun s=>s.data.toList)) k).length co).ownBlock=some q→g+1≤q∧q<wr.heap.size:=fun q hq=>hR.evr.lt q hq
        have hM1':=hM1.reK (K':=fun a _ r=>∀ p,a=some p→0<r.length→g+1≤p.block∧(Value.slice ao (faultsTo (raws t rs (ls.map fun s=>s.data.toList)) k).length co).ownBlock≠some p.block) (fun v hv p hp h0=>⟨hM1.kk v hv p hp h0,fun e=>by
          rcases List.mem_append.1 hv with hv|hv
          · exact (hR.fo _ e).2 v hv p hp h0 rfl
          · rw [List.mem_singleton] at hv
            subst hv
            have:=(hog _ e).2
            have:=hN5 p hp
            omega⟩)
        have HS1:=HSE _ a1 c1 _ wc hM1'
        have hEc:=(hR.evr.onW hbr5).upd hU1 (fun q h1 h2=>by
          rcases h2 with h2|h2
          · have:=(hog q h1).1;omega
          · exact (hR.fo q h1).1 h2)
        obtain ⟨j0,hj0,hy0,hy1,hy2⟩:=info_parts info_cl_ev
        have hf1:=HFL.out
        have hf2:=HFK.out
        have hsc : g+1≤wc.heap.size:=Nat.le_trans hgl5 hU1.size
        have hap : ∀ q,(Value.slice a1 (k+1) c1).ownBlock=some q→(Value.slice ao (faultsTo (raws t rs (ls.map fun s=>s.data.toList)) k).length co).ownBlock≠some q:=fun q h1 h2=>(hq3 q h1).elim (fun h3=>(hR.fo q h2).1 h3) (fun h3=>by have:=(hog q h2).2;have:=hbr5.size;omega)
        have hHR:=Lib.hid hR
        clear hR HPU HVO HVA HF HF5 HUM HDL hone hM1 hM1' HSE t3 y3 u0 u1 u2 u3 u4 hM5 hrl5
        go_wp2_with (first|(go_at_call 177;(with_reducible refine HS1.out.mono ?_);intro e ws hY;obtain ⟨l2,r2,rfl,hr2,hM2,hU2⟩:=hY;obtain ⟨av,cv,hre⟩:=hr2.shape;subst hre;have hEs:=hEc.upd hU2 (fun q h1 h2=>hap q h2 h1);have hss : g+1≤ws.heap.size:=Nat.le_trans hsc hU2.size)|(at_builtin;refine wpList_append_sl _ rfl (.tmp 58) (.tmp 60) 69 69 rfl 71 j0 _ 16 Tryz.underlying69 hj0 hy0 hy1 hy2 rfl rfl hEs (.slice av fl.length cv) fl.length (fl.map evv) rfl (src_sl hr2 Tryz.underlying69 (evv_one _)) (by unfold maxLen;omega) (by omega) hss ?_;intro v9 w9 l1 u1 l3)|fail)
        go_roundw
        case rel =>
          exact ⟨k+1,a1,c1,l2,by omega,by go_num,MoN.step hHR.out hbr5 hgr hU1 hq3 hM2 hU2 (by rw [HFE.out,List.length_append]) (by rw [HFE.out,List.map_append];exact l1) u1 l3⟩
        case measure=>simp [intOf] <;> omega
    · obtain rfl : k=m:=by omega
      have hbl : (begun t rs (ls.map fun s=>s.data.toList)).length=k:=by unfold begun;rw [List.length_map,HRL.out,HN.out]
      have hst:=hR.st
      rw [List.take_of_length_le (by omega)] at hst
      have hog : ∀ q,(Value.slice ao (faultsTo (raws t rs (ls.map fun s=>s.data.toList)) k).length co).ownBlock=some q→g+1≤q∧q<wr.heap.size:=fun q hq=>hR.evr.lt q hq
      have hst':=hst.reK (K':=fun a _ r=>∀ p,a=some p→0<r.length→g+1≤p.block∧(Value.slice ao (faultsTo (raws t rs (ls.map fun s=>s.data.toList)) k).length co).ownBlock≠some p.block) (fun v hv p hp h0=>⟨hst.kk v hv p hp h0,fun e=>(hR.fo _ e).2 v hv p hp h0 rfl⟩)
      have HADV:=Lib.hid (mo_advance _ (g+1) g _ a' k c' l _ t d 0 (-9223372036854775808) wr hst' HOK.out (by omega))
      have hel : (faultsTo (raws t rs (ls.map fun s=>s.data.toList)) k).length≤k:=faultsTo_len _ _
      have hml : (marksE (-9223372036854775808) (begun t rs (ls.map fun s=>s.data.toList))).length≤1:=marksE_len _ _
      have HES : Hid (St.newE t rs (ls.map fun s=>s.data.toList)=faultsTo (raws t rs (ls.map fun s=>s.data.toList)) k++marksE (-9223372036854775808) (begun t rs (ls.map fun s=>s.data.toList))):=by
        show _++_=_
        rw [← HN.out]
      have HSNx : St.new t d rs (ls.map fun s=>s.data.toList)=⟨begun t rs (ls.map fun s=>s.data.toList),t,d,0,further (-9223372036854775808) (begun t rs (ls.map fun s=>s.data.toList))⟩:=rfl
      have hev:=hR.evr
      have hAz:=hA1c.upd hR.new (fun h=>by have h' : g≤w.heap.size+1:=h;omega)
      have hgw : g+1≤wr.heap.size:=Nat.le_trans hgl hR.new.size
      have HRR:=Lib.hid hR
      have HBL:=Lib.hid hbl
      obtain ⟨i0,hi0,hz0,hz1,hz2⟩:=info_parts info_cl_ev
      clear hst hst' hR HRL HLL H1c H2c HB1 HB2 HRO HS hbl
      generalize further (-9223372036854775808) (begun t rs (ls.map fun s=>s.data.toList))=fu at *
      generalize marksE (-9223372036854775808) (begun t rs (ls.map fun s=>s.data.toList))=ms at *
      have HSN:=Lib.hid HSNx
      clear HSNx
      go_upto_region 16 with (first|(go_at_call 178;(with_reducible refine HADV.out.mono ?_);intro e ws hY;obtain ⟨l2,r2,rfl,hr2,hM2,hU2⟩:=hY;obtain ⟨av,cv,hre⟩:=hr2.shape;subst hre;have hEs:=hev.upd hU2 (fun q h1 h2=>by have h3:=(hog q h1).1;have h4 : q=g:=h2;omega);have hss : g+1≤ws.heap.size:=Nat.le_trans hgw hU2.size)|(at_builtin;refine wpList_append_sl _ rfl (.tmp 63) (.tmp 64) 69 69 rfl 71 i0 _ 16 Tryz.underlying69 hi0 hz0 hz1 hz2 rfl rfl hEs (.slice av ms.length cv) ms.length (ms.map evv) rfl (src_sl hr2 Tryz.underlying69 (evv_one _)) (by unfold maxLen;omega) (by omega) hss ?_;intro v9 w9 l1 u1 l3)|fail)
      have hM9:=hM2.upd u1 (fun h=>by have:=(hog _ h).1;omega) (fun q h1 h2=>(HRR.out.fo q h2).1 h1) (fun v hv p hp h0 h=>(hM2.kk v hv p hp h0).2 h)
      have hAz9:=(hAz.upd hU2 (fun h=>by have h' : w.heap.size+1=g:=h;omega)).upd u1 (fun h=>by have:=(hog _ h).1;omega)
      obtain ⟨-,p0,x0,p1,x1,p2,x2,p3,x3,p4,x4,p5,x5⟩:=hM9.blk.cells6
      obtain ⟨-,q0,y0,q1,y1,q2,y2,q3,y3,q4,y4,q5,y5⟩:=hAz9.cells6
      have hT:=Lib.hid (fun x0 x1 x2 x3 x4 x5=>At.all6 hAz9 x0 x1 x2 x3 x4 x5)
      have hUf:=Lib.hid (fun x0 x1 x2 x3 x4 x5=>Upd.all6 (Upd.refl (fun b=>b=w.heap.size+1) w9) (g:=w.heap.size+1) (fun _=>rfl) x0 x1 x2 x3 x4 x5)
      have hr2':=Lib.hid hr2
      have hM2':=Lib.hid hM2
      clear hM9 hAz9 hAz hr2 hM2 hEs hev HADV
      go_wp2_with fail
      refine bodyPost_ret (results_at3 (fn:=Tryz.f122) rfl _ rfl (hT.out _ _ _ _ _ _) Tryz.underlying191 rfl (by kernel_rfl)) rfl ?_
      rw [HSN.out,HES.out]
      exact MoN.done HRR.out hbw4'.out hg3 hru4'.out hrg HN.out HBL.out.symm hM2'.out hU2 (by rw [List.length_append]) (by rw [List.map_append]) l1 u1 l3 (hUf.out _ _ _ _ _ _)
theorem rowp_keep {S : Nat→Prop} {w w' : World} {a : Option Addr} {l : List Pv} (h : RowG w 10 Pv.cells a l) (hu : Upd S w w') (hn : ∀ p,a=some p→0<l.length→¬ S p.block) : RowG w' 10 Pv.cells a l:=by
  rcases Nat.eq_zero_or_pos l.length with h0|h0
  · exact ⟨fun i hi=>by omega⟩
  · exact h.upd hu fun p hp=>hn p hp h0
def KR (w1 : World) (t1 : Nat→Prop) (a : Option Addr) (c : Nat) (recs : List R) : Prop:=RowR w1 a recs∧recs.length≤c∧c≤maxLen∧∀ p,a=some p→0<recs.length→¬ t1 p.block
structure RefR (w1 : World) (t1 : Nat→Prop) (tag : Nat→Nat) (g5 : Nat) (wr : World) (a : Option Addr) (l : List Pv) (s : St) : Prop where
  row : RowG wr 10 Pv.cells a l
  k : ∀ v∈l,KR w1 t1 v.a v.c v.p.recs
  ps : l.map (·.p)=s.ps
  new : Upd t1 w1 wr
  fr : ∀ p,a=some p→0<l.length→tag p.block=0∧p.block≠g5
  old : ∀ b,b<w1.heap.size→tag b≠0→t1 b
  g : w1.heap.size≤g5
section
variable {w1 wr w' : World} {t1 : Nat→Prop} {tag tag' : Nat→Nat} {g5 : Nat} {a : Option Addr} {l : List Pv} {s : St}
theorem RefR.on (h : RefR w1 t1 tag g5 wr a l s) (hb : Below wr.heap.size wr w') : RefR w1 t1 tag g5 w' a l s :=
  ⟨h.row.below hb,h.k,h.ps,h.new.trans (Upd.of_below (S:=fun _=>False) hb (fun k h1 h2=>by omega)) (fun _ _ h=>h.elim),h.fr,h.old,h.g⟩
theorem RefR.len (h : RefR w1 t1 tag g5 wr a l s) : l.length=s.ps.length:=by rw [← h.ps,List.length_map]
theorem RefR.lt (h : RefR w1 t1 tag g5 wr a l s) : ∀ p,a=some p→0<l.length→p.block<wr.heap.size:=fun p hp h0=>by
  obtain ⟨b,off,hab,hb,-⟩:=h.row.at_ 0 h0
  rw [hab] at hp;cases hp
  exact hb
theorem RefR.src (h : RefR w1 t1 tag g5 wr a l s) (hu : Upd (fun b=>tag b≠0) wr w') (ht : ∀ b,tag' b≠0→tag b≠0∨wr.heap.size≤b) : RefR w1 t1 tag' g5 w' a l s:=by
  refine ⟨rowp_keep h.row hu (fun p hp h0 hn=>hn (h.fr p hp h0).1),h.k,h.ps,h.new.trans hu (fun b hb hn=>h.old b hb hn),fun p hp h0=>⟨?_,(h.fr p hp h0).2⟩,fun b hb hn=>?_,h.g⟩
  · apply Classical.byContradiction
    intro hn
    rcases ht _ hn with h1|h1
    · exact h1 (h.fr p hp h0).1
    · have:=h.lt p hp h0;omega
  · rcases ht b hn with h1|h1
    · exact h.old b hb h1
    · have:=h.new.size;omega
theorem RefR.set (h : RefR w1 t1 tag g5 wr a l s) (hu : Upd (fun b=>b=g5) wr w') : RefR w1 t1 tag g5 w' a l s :=
  ⟨rowp_keep h.row hu (fun p hp h0 hn=>(h.fr p hp h0).2 hn),h.k,h.ps,h.new.trans hu (fun b hb hn=>by have hn : b=g5:=hn;have:=h.g;omega),h.fr,h.old,h.g⟩
theorem RefR.rowp (h : RefR w1 t1 tag g5 wr a l s) : RowP wr a l :=
  ⟨h.row,fun v hv=>by
    obtain ⟨k1,k2,k3,k4⟩:=h.k v hv
    exact PvOk.upd (w:=w1) ⟨k1,k2,k3⟩ h.new k4⟩
end
structure MoV (w1 : World) (t1 : Nat→Prop) (tag : Nat→Nat) (g5 : Nat) (wr : World) (rs : List Rul) (ra a : Option Addr) (l : List Pv) (s : St) : Prop where
  par : RefR w1 t1 tag g5 wr a l s
  ru : RowU wr ra rs
  rf : ∀ p,ra=some p→0<rs.length→tag p.block=0∧p.block≠g5
theorem rowu_keep {S : Nat→Prop} {w w' : World} {ra : Option Addr} {rs : List Rul} (h : RowU w ra rs) (hu : Upd S w w') (hn : ∀ p,ra=some p→0<rs.length→¬ S p.block) : RowU w' ra rs:=by
  rcases Nat.eq_zero_or_pos rs.length with h0|h0
  · exact ⟨fun i hi=>by omega⟩
  · exact RowG.upd h hu fun p hp=>hn p hp h0
theorem rowu_lt {w : World} {ra : Option Addr} {rs : List Rul} (h : RowU w ra rs) : ∀ p,ra=some p→0<rs.length→p.block<w.heap.size:=fun p hp h0=>by
  obtain ⟨b,off,hab,hb,-⟩:=h.at_ 0 h0
  rw [hab] at hp;cases hp
  exact hb
section
variable {w1 wr w' : World} {t1 : Nat→Prop} {tag tag' : Nat→Nat} {g5 : Nat} {rs : List Rul} {ra a : Option Addr} {l : List Pv} {s : St}
theorem MoV.on (h : MoV w1 t1 tag g5 wr rs ra a l s) (hb : Below wr.heap.size wr w') : MoV w1 t1 tag g5 w' rs ra a l s:=⟨h.par.on hb,h.ru.below hb,h.rf⟩
theorem MoV.src (h : MoV w1 t1 tag g5 wr rs ra a l s) (hu : Upd (fun b=>tag b≠0) wr w') (ht : ∀ b,tag' b≠0→tag b≠0∨wr.heap.size≤b) : MoV w1 t1 tag' g5 w' rs ra a l s :=
  ⟨h.par.src hu ht,rowu_keep h.ru hu (fun p hp h0 hn=>hn (h.rf p hp h0).1),fun p hp h0=>⟨by
    apply Classical.byContradiction
    intro hn
    rcases ht _ hn with h1|h1
    · exact h1 (h.rf p hp h0).1
    · have:=rowu_lt h.ru p hp h0;omega,(h.rf p hp h0).2⟩⟩
theorem MoV.set (h : MoV w1 t1 tag g5 wr rs ra a l s) (hu : Upd (fun b=>b=g5) wr w') : MoV w1 t1 tag g5 w' rs ra a l s :=
  ⟨h.par.set hu,rowu_keep h.ru hu (fun p hp h0 hn=>(h.rf p hp h0).2 hn),h.rf⟩
theorem MoV.does (h : MoV w1 t1 tag g5 wr rs ra a l s) (hg : g5<wr.heap.size) (hn : ∀ b,wr.heap.size≤b→tag b=0) (rn rc c : Nat) (hrn : rn=rs.length) (hr8 : rn≤10000) (hok : s.Ok) (t : Bool) (x : Int) (hx : in64 x) :
    Calls Tryz.prog 123 #[.agg #[.slice ra rn rc,.int .i64 s.timeout,.int .i64 s.drift,.slice a s.ps.length c,.int .i64 s.clock,.int .i64 s.now],.agg #[.bool t,.int .i64 x]] wr fun e w'=>∃ ra' rc' a' c' l' r,e = .returned (.tuple #[.agg #[.slice ra' rn rc',.int .i64 (s.doS (t,x)).timeout,.int .i64 (s.doS (t,x)).drift,.slice a' (s.doS (t,x)).ps.length c',.int .i64 (s.doS (t,x)).clock,.int .i64 (s.doS (t,x)).now],r]) ∧
      MoV w1 t1 tag g5 w' rs ra' a' l' (s.doS (t,x))∧Sl wr.heap.size w' 1 r (s.doE (t,x)).length ((s.doE (t,x)).map evv)∧Below wr.heap.size wr w' :=
  (mo_do (KR w1 t1) ra rn rc rs a s.ps.length c l s t x wr h.ru hrn hr8 h.par.rowp h.par.len.symm h.par.ps h.par.k hok hx).mono fun e w' hY=>by
    obtain ⟨ra',rc',a',c',l',r,h1,h2,h3,h4,h5,h6,h7,h8,h9⟩:=hY
    exact ⟨ra',rc',a',c',l',r,h1,⟨⟨h3,h4,h5,(h.par.on h7).new,fun p hp h0=>by have:=h9 p hp;exact ⟨hn _ this,by omega⟩,h.par.old,h.par.g⟩,h2,fun p hp h0=>by have:=h8 p hp;exact ⟨hn _ this,by omega⟩⟩,h6,h7⟩
end
def own1 (v : Value) (b : Nat) : Nat:=match v.ownBlock with
  | some k=>if k=b then 1 else 0
  | none=>0
theorem own1_ne {v : Value} {b : Nat} : own1 v b≠0↔v.ownBlock=some b:=by
  unfold own1
  cases h : v.ownBlock with
  | none=>simp
  | some k =>
    by_cases e : k=b
    · simp [e]
    · simp [e]
theorem own1_zero {v : Value} {b : Nat} (h : v.ownBlock≠some b) : own1 v b=0:=by
  apply Classical.byContradiction
  intro hn
  exact h (own1_ne.1 hn)
theorem mo_play (rs : List Rul) (t d : Int) (ls : List ByteArray) (cs : List (Bool×Int)) (a : Option Addr) (n c : Nat) (b : Option Addr) (m c2 : Nat) (q : Option Addr) (nq c3 : Nat) (w : World) (h1 : RowU w a rs) (h2 : RowS w b ls) (h3 : RowG w 2 chc q cs) (hn : n=rs.length) (hm : m=ls.length) (hq : nq=cs.length) (hz : nerr rs t d m=0) (h8 : m≤8) (hf : ∀ r∈rs,r.Fits) (ht : in64 t) (hd : in64 d) (hs : ∀ s∈ls,s.size≤400) (hc : ∀ x∈cs,in64 x.2) (hcl : nq≤1000) :
    Calls Tryz.prog 67 #[.agg #[.slice a n c,.int .i64 t,.int .i64 d],.slice b m c2,.slice q nq c3] w (PlayPost (St.newE t rs (ls.map fun s=>s.data.toList)++(St.new t d rs (ls.map fun s=>s.data.toList)).runE cs) w):=by
  have e:=fun (w : World) (o : Obj)=>(Below.refl w.heap.size w).alloc (Nat.le_refl _) o
  have hb0 : Below w.heap.size w (w.alloc (.cells #[.slice a n c,.int .i64 t,.int .i64 d] 24)):=e _ _
  have hA0:=At.alloc w [.slice a n c,.int .i64 t,.int .i64 d] 24
  obtain ⟨hc0,hmn⟩:=nerr_zero hz
  have ht1:=ccheck_t hc0
  have hok : (St.new t d rs (ls.map fun s=>s.data.toList)).Ok:=new_ok (by rw [List.length_map];omega) (by omega) (fun r hr=>⟨ccheck_ok hc0 r hr,hf r hr⟩) (fun l hl=>by
    obtain ⟨s,hs',rfl⟩:=List.mem_map.1 hl
    exact hs s hs') ⟨ht1.2.1,ht.2⟩ ⟨ht1.2.2,hd.2⟩
  have hel:=newE_len t rs (ls.map fun s=>s.data.toList)
  have HN:=Lib.hid (mo_new rs t d ls a n c b m c2 _ (h1.below hb0) (h2.below hb0) hn hm hz h8 hf ht hd hs)
  generalize St.new t d rs (ls.map fun s=>s.data.toList)=s0 at *
  generalize St.newE t rs (ls.map fun s=>s.data.toList)=l0 at *
  have HOK:=Lib.hid hok
  have HL : Hid (l0.length≤9):=by show l0.length≤9;omega
  have HQ:=Lib.hid hq
  have H3:=Lib.hid h3
  have HC:=Lib.hid hc
  have HRN:=Lib.hid hn
  have hr8 : n≤8:=by omega
  clear h1 h2 h3 hn hm hz h8 hf ht hd hs hc hok hc0 hmn ht1 hel hq
  go_enter Tryz.func67,Tryz.ntmps67
  go_upto_region 1 with fail
  generalize w.alloc (.cells #[.slice a n c,.int .i64 t,.int .i64 d] 24)=w0 at *
  obtain ⟨-,p0,-,p1,-,p2,-⟩:=hA0.three
  go_upto_region 2 with (first|(go_at_call 122;(with_reducible refine HN.out.mono ?_);intro e3 w1 hN;obtain ⟨ra1,rc1,a1,c1,l1,r1,rfl,hU1,hP1,hps1,hr1,hb1,hra1,ha1,hap1,hrc1⟩:=hN;obtain ⟨ao,co,hre⟩:=hr1.shape;subst hre)|fail)
  have hbw1:=on_below hb0 hb1
  have hba:=e w1 (.cells #[.slice ra1 n rc1,.int .i64 s0.timeout,.int .i64 s0.drift,.slice a1 s0.ps.length c1,.int .i64 s0.clock,.int .i64 s0.now] 191)
  have hAt:=At.alloc w1 [.slice ra1 n rc1,.int .i64 s0.timeout,.int .i64 s0.drift,.slice a1 s0.ps.length c1,.int .i64 s0.clock,.int .i64 s0.now] 191
  have hs0 : w0.heap.size≤w1.heap.size:=hb1.size
  have hww1 : w.heap.size≤w1.heap.size:=hbw1.size
  have hM0 : MoV w1 (fun b=>(Value.slice ao l0.length co).ownBlock=some b) (own1 (.slice ao l0.length co)) w1.heap.size w1 rs ra1 a1 l1 s0 :=
    ⟨⟨hP1.row,fun v hv=>⟨(hP1.ok v hv).row,(hP1.ok v hv).le,(hP1.ok v hv).cap,fun p hp h0 h=>(hap1 _ h).2.2 v hv p hp h0 rfl⟩,hps1,Upd.refl _ _,fun p hp h0=>⟨own1_zero (fun h=>(hap1 _ h).2.1 p hp rfl),by
      obtain ⟨b',off,hab,hb,-⟩:=hP1.row.at_ 0 h0
      rw [hab] at hp;cases hp
      exact Nat.ne_of_lt hb⟩,fun b _ h=>own1_ne.1 h,Nat.le_refl _⟩,hU1,fun p hp h0=>⟨own1_zero (fun h=>(hap1 _ h).1 p hp rfl),Nat.ne_of_lt (rowu_lt hU1 p hp h0)⟩⟩
  have hM1:=hM0.on hba
  have hE1:=(hr1.onW hba).base hb0.size
  have hbw2:=on_below hbw1 hba
  have hno : (Value.slice ao l0.length co).ownBlock≠some w1.heap.size:=fun h=>Nat.lt_irrefl _ (hr1.lt _ h).2
  clear p0 p1 p2 hA0 HN hU1 hP1 hps1 hr1 hb1 hra1 ha1 hap1 hrc1 hM0 hba hb0
  have hg1:=hAt.1
  generalize w1.alloc (.cells #[.slice ra1 n rc1,.int .i64 s0.timeout,.int .i64 s0.drift,.slice a1 s0.ps.length c1,.int .i64 s0.clock,.int .i64 s0.now] 191)=w2 at *
  go_wp2_with fail
  go_loopw [9,27] (fun va i wr=>∃ (k : Nat) (ra : Option Addr) (rc : Nat) (a : Option Addr) (c : Nat) (l : List Pv),k≤nq∧i = .int .i64 k∧At wr w1.heap.size [.slice ra n rc,.int .i64 (s0.run (cs.take k)).timeout,.int .i64 (s0.run (cs.take k)).drift,.slice a (s0.run (cs.take k)).ps.length c,.int .i64 (s0.run (cs.take k)).clock,.int .i64 (s0.run (cs.take k)).now]∧MoV w1 (fun b=>(Value.slice ao l0.length co).ownBlock=some b) (own1 va) w1.heap.size wr rs ra a l (s0.run (cs.take k))∧Sl w.heap.size wr 1 va (l0++s0.runE (cs.take k)).length ((l0++s0.runE (cs.take k)).map evv)∧va.ownBlock≠some w1.heap.size∧Below w.heap.size w wr) (fun _ i _=>nq - (intOf i).toNat)
  case atStart =>
    refine ⟨0,ra1,rc1,a1,c1,l1,Nat.zero_le _,rfl,hAt,hM1,?_,hno,hbw2⟩
    show Sl w.heap.size w2 1 _ (l0++[]).length ((l0++[]).map evv)
    rw [List.append_nil]
    exact hE1
  case round =>
    clear hAt hM1 hE1 hbw2 hno
    obtain ⟨k,ra,rc,a,c,l,hk,rfl,hAt,hM,hE,hno,hbw⟩:=hrel
    obtain ⟨av,cv,hre⟩:=hE.shape
    subst hre
    by_cases hlt : k<nq
    · have hkc : k<cs.length:=by rw [← HQ.out];exact hlt
      have hrow:=H3.out.below hbw
      obtain ⟨bq,offq,hq',-,-⟩:=hrow.at_ k hkc
      subst hq'
      obtain ⟨hbq,r0,r1⟩:=RowC.cells hrow k hkc
      have hin:=HC.out _ (List.getElem_mem hkc)
      have hrl:=runE_len (cs.take k) s0
      rw [List.length_take] at hrl
      have hel : (l0++s0.runE (cs.take k)).length≤9000:=by rw [List.length_append];have:=HL.out;omega
      have hS1:=run_take s0 cs k hkc
      have hE1:=runE_take s0 cs k hkc
      generalize hck : cs[k]=x at *
      have HCK:=Lib.hid hck
      clear hck hrow hrl
      obtain ⟨ct,cn⟩:=x
      simp only at r0 r1 hin
      have hd3:=doE_len (s0.run (cs.take k)) (ct,cn)
      have hokk:=HOK.out.run (cs.take k)
      have HS1 : Hid (s0.run (cs.take (k+1))=(s0.run (cs.take k)).doS (ct,cn)):=hS1
      have HE1 : Hid (l0++s0.runE (cs.take (k+1))=(l0++s0.runE (cs.take k))++(s0.run (cs.take k)).doE (ct,cn)):=by show _=_;rw [hE1,List.append_assoc]
      have hbc:=e wr (.cells #[.bool ct,.int .i64 cn] 50)
      have hC3:=At.alloc wr [.bool ct,.int .i64 cn] 50
      have hAA:=hAt.on hbc
      have hMA:=hM.on hbc
      have hEA:=hE.onW hbc
      have hbA:=on_below hbw hbc
      have HD:=Lib.hid (hMA.does hAA.1 (fun b hb=>own1_zero (fun h=>by have:=(hE.lt b h).2;rw [World.size_alloc] at hb;omega)) n rc c HRN.out (by omega) hokk ct cn hin)
      clear hAt hM hE hbw hbc hS1 hE1 hokk
      generalize (s0.run (cs.take k)).doE (ct,cn)=e5 at *
      generalize (s0.run (cs.take k)).doS (ct,cn)=s5 at *
      generalize l0++s0.runE (cs.take k)=e4 at *
      generalize s0.run (cs.take k)=s4 at *
      go_upto_region 7 with fail
      clear r0 r1 hbq
      generalize wr.alloc (.cells #[.bool ct,.int .i64 cn] 50)=wA at *
      obtain ⟨-,c0,-,c1',-⟩:=hC3.two
      obtain ⟨-,d0,-,d1,-,d2,-,d3,-,d4,-,d5,-⟩:=hAA.cells6
      go_upto_region 8 with (first|(go_at_call 123;(with_reducible refine HD.out.mono ?_);intro e9 w6 hY;obtain ⟨ra6,rc6,a6,c6,l6,r6,rfl,hM6,hr6,hb6⟩:=hY;obtain ⟨ar,cr,hre⟩:=hr6.shape;subst hre)|fail)
      have hba7:=e w6 (.cells #[.slice ra6 n rc6,.int .i64 s5.timeout,.int .i64 s5.drift,.slice a6 s5.ps.length c6,.int .i64 s5.clock,.int .i64 s5.now] 191)
      have hN7:=At.alloc w6 [.slice ra6 n rc6,.int .i64 s5.timeout,.int .i64 s5.drift,.slice a6 s5.ps.length c6,.int .i64 s5.clock,.int .i64 s5.now] 191
      have hA7:=(hAA.on hb6).on hba7
      have hM7:=(hM6.on hba7).on (Below.refl _ _).drew
      have hE7:=(hEA.onW hb6).onW hba7
      have hr7:=hr6.onW hba7
      have hb7:=on_below (on_below hbA hb6) hba7
      have hav6 : ∀ b,(Value.slice av e4.length cv).ownBlock=some b→b<w6.heap.size:=fun b hb=>Nat.lt_of_lt_of_le (hEA.lt b hb).2 hb6.size
      have hg16 : w1.heap.size<w6.heap.size:=Nat.lt_of_lt_of_le hAA.1 hb6.size
      have hbw : w.heap.size≤w6.heap.size:=Nat.le_trans hbA.size hb6.size
      clear c0 c1' d0 d1 d2 d3 d4 d5 hC3 hAA hMA hEA hbA hM6 hr6 hb6 HD hba7
      have hg7 : w6.heap.size<(w6.alloc (.cells #[.slice ra6 n rc6,.int .i64 s5.timeout,.int .i64 s5.drift,.slice a6 s5.ps.length c6,.int .i64 s5.clock,.int .i64 s5.now] 191)).heap.size:=hN7.1
      generalize w6.alloc (.cells #[.slice ra6 n rc6,.int .i64 s5.timeout,.int .i64 s5.drift,.slice a6 s5.ps.length c6,.int .i64 s5.clock,.int .i64 s5.now] 191)=w7 at *
      generalize w6.heap.size=g13 at *
      have HFI : Hid (∀ (a8 : Option Addr) (c8 : Nat) (w8 : World),Sl w.heap.size w8 1 (.slice a8 (e4.length+e5.length) c8) (e4.length+e5.length) (e4.map evv++e5.map evv)→Upd (fun b=>(Value.slice av e4.length cv).ownBlock=some b) w7.drew w8→(∀ b,(Value.slice a8 (e4.length+e5.length) c8).ownBlock=some b→(Value.slice av e4.length cv).ownBlock=some b∨w7.drew.heap.size≤b)→∀ w9,Upd (fun b=>b=w1.heap.size) w8 w9 →
          MoV w1 (fun b=>(Value.slice ao l0.length co).ownBlock=some b) (own1 (.slice a8 (e4.length+e5.length) c8)) w1.heap.size w9 rs ra6 a6 l6 s5∧Sl w.heap.size w9 1 (.slice a8 (e4.length+e5.length) c8) (e4++e5).length ((e4++e5).map evv)∧(Value.slice a8 (e4.length+e5.length) c8).ownBlock≠some w1.heap.size∧Below w.heap.size w w9):=fun a8 c8 w8 l1 l2 l3 w9 hu=>by
        have hn8 : (Value.slice a8 (e4.length+e5.length) c8).ownBlock≠some w1.heap.size:=fun h=>(l3 _ h).elim hno (fun h=>by have h' : w7.heap.size≤w1.heap.size:=h;omega)
        have hb8 : Below w.heap.size w w8:=(on_below hb7 (Below.refl _ _).drew).upd l2 (by show w.heap.size≤w7.heap.size;omega) (fun b _ h=>(hE7.lt b h).1)
        refine ⟨(hM7.src (l2.mono (fun b _ h=>own1_ne.2 h)) (fun b h=>(l3 b (own1_ne.1 h)).imp own1_ne.2 id)).set hu,?_,hn8,hb8.upd hu hb8.size (fun b _ h=>by have h' : b=w1.heap.size:=h;omega)⟩
        have h9:=l1.upd hu (fun b h1 h2=>hn8 (by rw [h1];exact congrArg some h2))
        rw [List.length_append,List.map_append]
        exact h9
      obtain ⟨i0,hi0,hz0,hz1,hz2⟩:=info_parts info_cl_ev
      have hm1 : e4.length+e5.length≤maxLen:=by unfold maxLen;omega
      have hB7 : w.heap.size≤w7.drew.heap.size:=by show w.heap.size≤w7.heap.size;omega
      obtain ⟨hgz,c0,z0,c1',z1,c2',z2,c3',z3,c4',z4,c5',z5⟩:=hN7.drew.cells6
      obtain ⟨hgy,d0,y0,d1,y1,d2,y2,d3,y3,d4,y4,d5,y5⟩:=hA7.drew.cells6
      have hA7d:=hA7.drew
      have hN7d:=hN7.drew
      have hE7d:=hE7.drew
      have hr7d:=hr7.drew
      clear hM7 hA7 hN7 hE7 hr7 hb7
      go_region_law (first|(refine step_append_mine rfl (.tmp 38) (.tmp 39) 69 69 rfl 71 i0 .nilIface 16 Tryz.underlying69 hi0 hz0 hz1 hz2 rfl (.slice av e4.length cv) (.slice ar e5.length cr) e5.length (e5.map evv) rfl rfl hE7d (src_sl hr7d Tryz.underlying69 (evv_one _)) hm1 (by omega) hB7 ?_;intro a8 c8 w8 l1 l2 l3;have hN8:=hN7d.upd l2 (fun h=>by have:=hav6 _ h;omega);have hA8:=hA7d.upd l2 hno;obtain ⟨hgz',c0x,z0x,c1x,z1x,c2x,z2x,c3x,z3x,c4x,z4x,c5x,z5x⟩:=hN8.cells6;obtain ⟨hgy',d0x,y0x,d1x,y1x,d2x,y2x,d3x,y3x,d4x,y4x,d5x,y5x⟩:=hA8.cells6)|fail)
      all_goals
        have hT:=Lib.hid (At.all6 hA8 (.slice ra6 n rc6) (.int .i64 s5.timeout) (.int .i64 s5.drift) (.slice a6 s5.ps.length c6) (.int .i64 s5.clock) (.int .i64 s5.now))
        have hUf:=Lib.hid (Upd.all6 (Upd.refl (fun b=>b=w1.heap.size) w8) (g:=w1.heap.size) (fun _=>rfl) (.slice ra6 n rc6) (.int .i64 s5.timeout) (.int .i64 s5.drift) (.slice a6 s5.ps.length c6) (.int .i64 s5.clock) (.int .i64 s5.now))
        have hFI:=Lib.hid (HFI.out a8 c8 w8 l1 l2 l3 _ hUf.out)
        clear l1 l2 l3 hN8 hA8 c0x z0x c1x z1x c2x z2x c3x z3x c4x z4x c5x z5x d0x y0x d1x y1x d2x y2x d3x y3x d4x y4x d5x y5x
        go_wp2_with fail
        go_roundw
      all_goals first
        | exact ⟨k+1,ra6,rc6,a6,c6,l6,by omega,by go_num,by rw [HS1.out];exact hT.out,by rw [HS1.out];exact hFI.out.1,by rw [HE1.out];exact hFI.out.2.1,hFI.out.2.2.1,hFI.out.2.2.2⟩
        | (simp [intOf] <;> omega)
    · obtain rfl : k=nq:=by omega
      have hcs : cs.take k=cs:=List.take_of_length_le (by rw [HQ.out];exact Nat.le_refl _)
      rw [hcs] at hE
      rw [hcs]
      clear hcs
      have HE:=Lib.hid hE
      have HB:=Lib.hid hbw
      clear hE hbw hM hAt
      generalize l0++s0.runE cs=e4 at *
      go_wp2_with fail
      go_ret2
      exact ⟨_,rfl,HE.out,HB.out⟩
theorem rowu_one {w : World} {g : Nat} (h : At w g [.int .i64 0,.int .i64 0,.int .i64 0,.int .i64 0,.int .i64 0]) : RowU w (some ⟨g,0,none⟩) [⟨0,0,0,0,0⟩] :=
  ⟨fun i hi=>⟨g,0,rfl,h.1,fun j hj=>by
    have hi0 : i=0:=by simp at hi;exact hi
    subst hi0
    rw [show 0+0*5+j=j by omega,(h.2 j hj).1]
    show _=([.int .i64 0,.int .i64 0,.int .i64 0,.int .i64 0,.int .i64 0] : List Value)[j]?
    rw [List.getElem?_eq_getElem hj]⟩⟩
theorem rows_one12 {w : World} {g : Nat} (h : At w g [.string ⟨#[]⟩]) : RowS w (some ⟨g,0,none⟩) [⟨#[]⟩] :=
  ⟨fun i hi=>⟨g,0,rfl,h.1,by
    have hi0 : i=0:=by simp at hi;exact hi
    subst hi0
    exact (h.2 0 (by simp)).1⟩⟩
def OneP (w : World) (e : Ending) (w' : World) : Prop:=∃ a c,e = .returned (.tuple #[.slice a 1 c,.int .i64 0])∧Below w.heap.size w w'
theorem one_evs : St.newE 1 [⟨0,0,0,0,0⟩] ([(⟨#[]⟩ : ByteArray)].map fun s=>s.data.toList)++(St.new 1 0 [⟨0,0,0,0,0⟩] ([(⟨#[]⟩ : ByteArray)].map fun s=>s.data.toList)).runE []=[.mark 9223372036854775807]:=by
  show St.newE 1 [⟨0,0,0,0,0⟩] [[]]++[]=_
  rw [List.append_nil,one_new]
theorem OneP.of {w w' : World} {e : Ending} (h : PlayPost (St.newE 1 [⟨0,0,0,0,0⟩] ([(⟨#[]⟩ : ByteArray)].map fun s=>s.data.toList)++(St.new 1 0 [⟨0,0,0,0,0⟩] ([(⟨#[]⟩ : ByteArray)].map fun s=>s.data.toList)).runE []) w e w') : OneP w e w':=by
  obtain ⟨v,h1,q1,q2⟩:=h
  rw [one_evs] at q1
  obtain ⟨a,c,hv⟩:=q1.shape
  subst hv
  exact ⟨a,c,h1,q2⟩
theorem fits0 : ∀ r∈[(⟨0,0,0,0,0⟩ : Rul)],r.Fits:=fun r hr=>by
  rw [List.mem_singleton.1 hr]
  exact ⟨by show in64 0;unfold in64;omega,by show in64 0;unfold in64;omega,by show in64 0;unfold in64;omega,by show in64 0;unfold in64;omega,by show in64 0;unfold in64;omega⟩
theorem small0 : ∀ s∈[(⟨#[]⟩ : ByteArray)],s.size≤400:=fun s hs=>by
  rw [List.mem_singleton.1 hs]
  exact Nat.zero_le _
theorem one_so (w : World) (g1 g2 : Nat) (h1 : At w g1 [.int .i64 0,.int .i64 0,.int .i64 0,.int .i64 0,.int .i64 0]) (h2 : At w g2 [.string ⟨#[]⟩]) : Calls Tryz.prog 66 #[.agg #[.slice (some ⟨g1,0,none⟩) 1 1,.int .i64 1,.int .i64 0],.slice (some ⟨g2,0,none⟩) 1 1,.slice none 0 0] w (OneP w) :=
  (so_play [⟨0,0,0,0,0⟩] 1 0 [⟨#[]⟩] [] (some ⟨g1,0,none⟩) 1 1 (some ⟨g2,0,none⟩) 1 1 none 0 0 _ (rowu_one h1) (rows_one12 h2) ⟨fun i hi=>(Nat.not_lt_zero _ hi).elim⟩ rfl rfl rfl one_nerr (by omega) fits0 (by unfold in64;omega) (by unfold in64;omega) small0 (fun x hx=>by cases hx) (by omega)).mono fun e w' h=>OneP.of h
theorem one_mo (w : World) (g1 g2 : Nat) (h1 : At w g1 [.int .i64 0,.int .i64 0,.int .i64 0,.int .i64 0,.int .i64 0]) (h2 : At w g2 [.string ⟨#[]⟩]) : Calls Tryz.prog 67 #[.agg #[.slice (some ⟨g1,0,none⟩) 1 1,.int .i64 1,.int .i64 0],.slice (some ⟨g2,0,none⟩) 1 1,.slice none 0 0] w (OneP w) :=
  (mo_play [⟨0,0,0,0,0⟩] 1 0 [⟨#[]⟩] [] (some ⟨g1,0,none⟩) 1 1 (some ⟨g2,0,none⟩) 1 1 none 0 0 _ (rowu_one h1) (rows_one12 h2) ⟨fun i hi=>(Nat.not_lt_zero _ hi).elim⟩ rfl rfl rfl one_nerr (by omega) fits0 (by unfold in64;omega) (by unfold in64;omega) small0 (fun x hx=>by cases hx) (by omega)).mono fun e w' h=>OneP.of h
theorem none12 (w : World) : Calls Tryz.prog 25 #[] w fun e w'=>e = .returned (.bool true)∧Below w.heap.size w w':=by
  have e:=fun (w : World) (o : Obj)=>(Below.refl w.heap.size w).alloc (Nat.le_refl _) o
  have hR:=(At.alloc w [.int .i64 0,.int .i64 0,.int .i64 0,.int .i64 0,.int .i64 0] 59).on (e _ (.cells #[.slice (some ⟨w.heap.size,0,none⟩) 1 1,.int .i64 1,.int .i64 0] 24))
  have hC:=At.alloc (w.alloc (.cells #[.int .i64 0,.int .i64 0,.int .i64 0,.int .i64 0,.int .i64 0] 59)) [.slice (some ⟨w.heap.size,0,none⟩) 1 1,.int .i64 1,.int .i64 0] 24
  rw [World.size_alloc] at hC
  have hB:=on_below (e w (.cells #[.int .i64 0,.int .i64 0,.int .i64 0,.int .i64 0,.int .i64 0] 59)) (e _ (.cells #[.slice (some ⟨w.heap.size,0,none⟩) 1 1,.int .i64 1,.int .i64 0] 24))
  go_enter Tryz.func25,Tryz.ntmps25
  go_upto_region 2 with fail
  generalize (w.alloc (.cells #[.int .i64 0,.int .i64 0,.int .i64 0,.int .i64 0,.int .i64 0] 59)).alloc (.cells #[.slice (some ⟨w.heap.size,0,none⟩) 1 1,.int .i64 1,.int .i64 0] 24)=w2 at *
  obtain ⟨-,p0,-,p1,-,p2,-⟩:=hC.three
  have hb3:=e w2 (.cells #[.string ⟨#[]⟩] 9)
  have H1:=Lib.hid (one_so _ _ _ (hR.on hb3) (At.alloc w2 [.string ⟨#[]⟩] 9))
  go_upto_region 3 with (first|(go_at_call 66;(with_reducible refine H1.out.mono ?_);intro e4 w4 hY;obtain ⟨a4,c4,rfl,hb4⟩:=hY;obtain ⟨-,q0,-,q1,-,q2,-⟩:=((hC.on hb3).on hb4).three)|fail)
  have hb34:=on_below hb3 hb4
  have hR4:=hR.on hb34
  have hb5:=e w4 (.cells #[.string ⟨#[]⟩] 9)
  have H2:=Lib.hid (one_mo _ _ _ (hR4.on hb5) (At.alloc w4 [.string ⟨#[]⟩] 9))
  have hB4:=Lib.hid (on_below hB hb34)
  clear p0 p1 p2 H1 hR hR4 hC hB hb34 hb3 hb4
  go_wp2_with (first|(go_at_call 67;(with_reducible refine H2.out.mono ?_);intro e6 w6 hY;obtain ⟨a6,c6,rfl,hb6⟩:=hY)|fail)
  go_ret
  exact ⟨rfl,on_below hB4.out (on_below hb5 hb6)⟩
end Go.Proofs.YtmimfkhkilijcaaGreatDoor
