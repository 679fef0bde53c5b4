/- RepRow; RepRow3; WReportPlays: what is reached of them. -/
import Derived.Test.YtmimfkhkilijcaaGreatDoorPq44
import Derived.Test.YtmimfkhkilijcaaGreatDoorPq34
import Derived.Test.YtmimfkhkilijcaaGreatDoorPq47
import Derived.Test.YtmimfkhkilijcaaGreatDoorPq45
import Derived.Test.YtmimfkhkilijcaaGreatDoorPq48
import Derived.Deep.RegionHeld3
set_option linter.unusedVariables false
set_option linter.unusedSimpArgs false
set_option maxRecDepth 100000
set_option maxHeartbeats 8000000
namespace Go.Proofs.YtmimfkhkilijcaaGreatDoor
open Go.ChangeShapes Go.WideShapes Go.ChangeAt Go.RowKit
open PWord
open Go.Lib (itoa)
theorem law_row (name : List UInt8) (ns : List Int) (a : Option Addr) (n c : Nat) (w : World) (hr : RowI w .i64 a ns) (hn : n=ns.length) (hl : n≤10) (hna : name.length≤21) :
    Calls Tryz.prog 22 #[.string (bstr name),.slice a n c] w fun e w'=>e = .returned (.string (bstr (lineOf name ns++[10])))∧Below w.heap.size w w':=by
  have hb64 : ∀ x∈ns,in64 x:=fun x hx=>bounds_i64 (hr.wf x hx)
  have HLL : Hid (∀ k,(nsT (ns.take k)).length≤220):=fun k=>by
    have h1:=nsT_len (ns.take k) (fun m hm=>hb64 m (List.mem_of_mem_take hm))
    have h3 : (ns.take k).length≤ns.length:=by rw [List.length_take];omega
    have : (ns.take k).length*22≤10*22:=Nat.mul_le_mul_right 22 (by omega)
    omega
  have HB:=Lib.hid hb64
  have HN:=Lib.hid hn
  have HLN:=Lib.hid (lineOf_nsT name ns)
  clear hb64 hn
  go_enter Tryz.func22,Tryz.ntmps22
  go_wp2
  go_loopw [0,9] (fun v i wr=>∃ k : Nat,i = .int .i64 k∧k≤n∧v = .string (bstr (name++nsT (ns.take k)))∧Below w.heap.size w wr) (fun _ i _=>n - (intOf i).toNat)
  case atStart=>exact ⟨0,rfl,Nat.zero_le _,by rw [List.take_zero];show _=Value.string (bstr (name++[]));rw [List.append_nil],Below.refl _ _⟩
  case round =>
    obtain ⟨k,rfl,hk,rfl,hb⟩:=hrel
    have hln:=HLL.out k
    by_cases hlt : k<n
    · have hk1 : k<ns.length:=by rw [← HN.out];exact hlt
      have hri:=hr.below hb
      obtain ⟨b,off,rfl,hbb,q0⟩:=hri.at_ k hk1
      have HT : Hid (name++nsT (ns.take (k+1))=name++nsT (ns.take k)++(32::itoa ns[k])):=by
        refine Lib.hid ?_
        rw [List.take_succ_eq_append_getElem hk1,nsT_snoc,List.append_assoc]
      have hx:=HB.out _ (List.getElem_mem hk1)
      have hil:=itoa_len hx
      have HI:=Lib.hid (ref_num _ hx wr)
      clear hri
      generalize ns[k]=x at *
      clear hk1 hx
      have h1:=fun w=>tx_run w [32] (itoa x) (by simp only [List.length_cons,List.length_nil];omega)
      have h2:=fun w=>tx_run w (name++nsT (ns.take k)) ([32]++itoa x) (by simp only [List.length_append,List.length_cons,List.length_nil];omega)
      have e1 : name++nsT (ns.take k)++([32]++itoa x)=name++nsT (ns.take (k+1)):=by rw [HT.out];rfl
      rw [e1] at h2
      clear HT e1
      generalize bstr (itoa x)=u0 at *
      generalize bstr ([32]++itoa x)=u1 at *
      generalize bstr (name++nsT (ns.take k))=u2 at *
      go_wp2_with (first|(go_at_call 17;(with_reducible refine HI.out.mono ?_);rintro e w2 ⟨rfl,hb2⟩)|fail)
      go_roundw
      case rel=>exact ⟨k+1,by go_num,hlt,rfl,on_below hb hb2⟩
      case measure=>simp [intOf];omega
    · obtain rfl : k=n:=by omega
      rw [List.take_of_length_le (by rw [← HN.out];exact Nat.le_refl _)] at hln ⊢
      have h1:=fun w=>tx_run w (name++nsT ns) [10] (by simp only [List.length_append,List.length_cons,List.length_nil];omega)
      rw [← HLN.out] at h1 ⊢
      obtain ⟨u1,hu1⟩ : ∃ u,bstr (lineOf name ns++[10])=u:=⟨_,rfl⟩
      rw [hu1] at h1
      have HU:=Lib.hid hu1
      clear hu1
      generalize bstr (lineOf name ns)=u0 at *
      go_wp2
      go_ret
      exact ⟨by rw [HU.out];rfl,hb⟩
end Go.Proofs.YtmimfkhkilijcaaGreatDoor
namespace Go.Proofs.YtmimfkhkilijcaaGreatDoor
open Go.ChangeShapes Go.WideShapes Go.ChangeAt Go.RowKit
open PHist PRing PSat PClamp PBound PFrame PVar PCrc PSign PTree PEv
open Go.Lib (itoa)
theorem row3_of (x0 x1 x2 : Int) (h0 : in64 x0) (h1 : in64 x1) (h2 : in64 x2) (w : World) :
    Calls Tryz.prog 22 #[.string ⟨#[101,110,100]⟩,.slice (some ⟨w.heap.size,0,none⟩) 3 3] (w.alloc (.cells #[.int .i64 x0,.int .i64 x1,.int .i64 x2] 3)) fun e w'=>e = .returned (.string (bstr (lineT tEnd [x0,x1,x2])))∧Below w.heap.size w w':=by
  have hb : Below w.heap.size w (w.alloc (.cells (iv [x0,x1,x2]).toArray 3)):=(Below.refl _ _).alloc (Nat.le_refl _) _
  have hr:=rowi_made w [x0,x1,x2] 3 (by unfold maxLen;simp) (fun x hx=>by
    simp only [List.mem_cons,List.not_mem_nil,or_false] at hx
    rcases hx with rfl|rfl|rfl <;> assumption)
  refine (law_row tEnd [x0,x1,x2] (some ⟨w.heap.size,0,none⟩) 3 3 _ hr rfl (by omega) (by decide)).mono ?_
  rintro e w' ⟨rfl,h⟩
  exact ⟨rfl,on_below hb h⟩
theorem row4_of (x0 x1 x2 x3 : Int) (h0 : in64 x0) (h1 : in64 x1) (h2 : in64 x2) (h3 : in64 x3) (w : World) :
    Calls Tryz.prog 22 #[.string ⟨#[112,97,114,116]⟩,.slice (some ⟨w.heap.size,0,none⟩) 4 4] (w.alloc (.cells #[.int .i64 x0,.int .i64 x1,.int .i64 x2,.int .i64 x3] 3)) fun e w'=>e = .returned (.string (bstr (lineT tPart [x0,x1,x2,x3])))∧Below w.heap.size w w':=by
  have hb : Below w.heap.size w (w.alloc (.cells (iv [x0,x1,x2,x3]).toArray 3)):=(Below.refl _ _).alloc (Nat.le_refl _) _
  have hr:=rowi_made w [x0,x1,x2,x3] 3 (by unfold maxLen;simp) (fun x hx=>by
    simp only [List.mem_cons,List.not_mem_nil,or_false] at hx
    rcases hx with rfl|rfl|rfl|rfl <;> assumption)
  refine (law_row tPart [x0,x1,x2,x3] (some ⟨w.heap.size,0,none⟩) 4 4 _ hr rfl (by omega) (by decide)).mono ?_
  rintro e w' ⟨rfl,h⟩
  exact ⟨rfl,on_below hb h⟩
theorem evc_is_late (x : Ev) : ∃ (a p k t : Int) (s : ByteArray) (n e : Int),evc x=[.int .i64 a,.int .i64 p,.int .i64 k,.int .i64 t,.string s,.bool (Ev.lateB x),.int .i64 n,.int .i64 e]:=by
  cases x <;> exact ⟨_,_,_,_,_,_,_,rfl⟩
def StW (w0 w4 : World) (g : Nat) (wr : World) (s : St) (evs : List Ev) (va : Value) : Prop :=
  ∃ (a : Option Addr) (c : Nat) (l : List Pv),Below w0.heap.size w0 wr∧At wr g [.slice a s.ps.length c,.int .i64 s.timeout,.int .i64 s.drift,.int .i64 s.clock,.int .i64 s.now]∧RefR w4 (fun _=>False) (fun _=>0) g wr a l s∧EvR w0.heap.size (fun _=>0) g wr va evs
theorem walk_ReportPlays (w : World) (he : EnvE w) (hnm : Names w) (c0 : Array Value) (d0 : (((List (Int×Int×Int×Int×Int×Unit))×Int×Int×Unit)×(List ByteArray)×(List (Bool×Int×Unit))×Unit)) (w0 : Rd w (.pair (.pair (.sl (.pair (.int .i64) (.pair (.int .i64) (.pair (.int .i64) (.pair (.int .i64) (.pair (.int .i64) .unit)))))) (.pair (.int .i64) (.pair (.int .i64) .unit))) (.pair (.sl .str) (.pair (.sl (.pair .bool (.pair (.int .i64) .unit))) .unit))) c0.toList d0) :
    Calls Tryz.prog 5 #[.agg c0] w fun e w'=>e = .returned (.bool true)∧Below w.heap.size w w':=by
  obtain ⟨a,n,c,t,dr,b,m,c2,q,nq,c3,rs,ls,cs,rfl,hC⟩:=Rd.case w0
  clear w0
  have hbx : Below w.heap.size w (w.alloc (.cells #[.slice a n c,.int .i64 t,.int .i64 dr,.slice b m c2,.slice q nq c3] 28)):=(Below.refl _ _).alloc (Nat.le_refl _) _
  have hA0:=At.alloc w [.slice a n c,.int .i64 t,.int .i64 dr,.slice b m c2,.slice q nq c3] 28
  have hC0:=hC.on hbx
  have he0:=he.on hbx
  have hn0:=hnm.on hbx
  have hsz : w.heap.size<(w.alloc (.cells #[.slice a n c,.int .i64 t,.int .i64 dr,.slice b m c2,.slice q nq c3] 28)).heap.size:=hA0.1
  clear hC he hnm
  go_enter Tryz.func5,Tryz.ntmps5
  go_wp2_with fail
  generalize w.alloc (.cells #[.slice a n c,.int .i64 t,.int .i64 dr,.slice b m c2,.slice q nq c3] 28)=w0 at *
  have HSP:=Lib.hid (speaks26 w0 he0 hn0)
  have HSM:=fun wx (hx : Below w0.heap.size w0 wx)=>Lib.hid (law_small a n c t dr b m c2 q nq c3 ls wx (hC0.on hx).hlo hC0.hm (fun s hs=>hC0.hsl s hs))
  have HA:=fun wx (hx : Below w0.heap.size w0 wx)=>At.five (hA0.below hx hsz)
  go_wp2_with (go_at_call 8;(with_reducible refine HSP.out.mono ?_);rintro e w1 ⟨rfl,hb1⟩;obtain ⟨-,x0,-,x1,-,x2,-,x3,-,x4,-⟩:=HA _ hb1)
  go_at_call 9
  refine (HSM _ hb1).out.mono ?_
  intro e w2 hS
  obtain ⟨z,rfl,hz,hb2'⟩:=hS
  have hb2:=on_below hb1 hb2'
  obtain ⟨-,y0,-,y1,-,y2,-,y3,-,y4,-⟩:=HA _ hb2
  clear HSP HSM x0 x1 x2 x3 x4
  rcases hz with rfl|⟨rfl,hSm⟩
  · go_wp2
    go_ret
    exact ⟨rfl,on_below hbx hb2⟩
  obtain ⟨T,hT⟩ : ∃ T,playT t dr rs (ls.map fun s=>s.data.toList) cs=T:=⟨_,rfl⟩
  have HPY:=fun wx (hx : Below w0.heap.size w0 wx)=>Lib.hid (re_play wx (he0.on hx) (hC0.on hx) hSm T hT)
  have HTL:=fun wx (hx : Below w0.heap.size w0 wx) o (ho : toldB rs=o)=>Lib.hid (law_told a n c t dr b m c2 q nq c3 rs wx (hC0.on hx).hru hC0.hn hSm.2.2.1 o ho)
  obtain ⟨PT,hPT⟩ : ∃ PT,printS ⟨⟨rs,t,dr⟩,ls.map (fun s=>s.data.toList),cs⟩=PT:=⟨_,rfl⟩
  have HTD : Hid (toldB rs=true→∀ wx,Below w0.heap.size w0 wx→Calls Tryz.prog 13 #[.agg #[.slice a n c,.int .i64 t,.int .i64 dr,.slice b m c2,.slice q nq c3]] wx fun e w'=>e = .returned (.string (bstr PT))∧Below wx.heap.size wx w'):=fun htb wx hx =>
    law_print wx (hC0.on hx) (by have:=hSm.1;omega) (by have:=hSm.2.1;omega) (fun s hs=>Nat.le_trans (hSm.2.2.2 s hs) (by omega)) (by rw [hC0.hn];have:=(told_of htb).2;omega) PT hPT
  have HRN : Hid (toldB rs=true→∀ wx,Below w0.heap.size w0 wx→Calls Tryz.prog 16 #[.string (bstr PT)] wx fun e w'=>e = .returned (.string (bstr T))∧Below wx.heap.size wx w'):=fun htb wx hx=>by
    have hTL:=Tld.of hC0 hSm htb
    obtain ⟨U,hU⟩:=unq_ex
    have hps:=parseS_print hU _ hTL.ok
    have hln:=hTL.ln
    have hsm:=hTL.sm
    rw [hPT] at hps hln hsm
    exact re_run_ok U hU PT hln hsm wx (he0.on hx) (hn0.on hx) _ hps (by show (ls.map _).length≤8;rw [List.length_map,← hC0.hm];exact hSm.1) (by show cs.length≤120;rw [← hC0.hnq];exact hSm.2.1) (by show rs.length≤5000;rw [← hC0.hn];exact hSm.2.2.1) (fun l hl=>by
      obtain ⟨s,hs,rfl⟩:=List.mem_map.1 hl
      exact hSm.2.2.2 s hs) T hT
  have HTT:=Lib.hid hT
  clear hT hPT
  by_cases hz : nerr rs t dr m=0
  · have HNR := Lib.hid (ref_new rs t dr ls a n c b m c2 w2 (hC0.hru.below hb2) (hC0.hlo.below hb2) hC0.hn hC0.hm hz hSm.1 hC0.hfit hC0.ht hC0.hd hSm.2.2.2)
    have hel:=newE_len t rs (ls.map fun s=>s.data.toList)
    have hpl:=new_plen (d:=dr) hC0.hm hz
    obtain ⟨hcc,hmn⟩:=nerr_zero hz
    have hll : (ls.map fun s=>s.data.toList).length=m:=by rw [List.length_map];exact hC0.hm.symm
    have hf0:=fine_new (t:=t) (rs:=rs) (ls:=ls.map fun s=>s.data.toList) (by rw [hll];exact hmn) (by rw [← hmn];exact hSm.1) (fun r hr=>⟨ccheck_ok hcc r hr,hC0.hfit r hr⟩) (fun l hl=>by
      obtain ⟨s,hs',rfl⟩:=List.mem_map.1 hl
      exact hSm.2.2.2 s hs') ⟨(ccheck_t hcc).2.1,hC0.ht.2⟩
    have hok0:=case_okR hC0.hm hz hSm.1 hC0.hfit hC0.ht hC0.hd hSm.2.2.2
    have hTT:=HTT.out
    unfold playT at hTT
    rw [hll,if_pos hz] at hTT
    generalize St.new t dr rs (ls.map fun s=>s.data.toList)=s0 at *
    generalize St.newE t rs (ls.map fun s=>s.data.toList)=l0 at *
    have HL : Hid (l0.length≤9):=by show l0.length≤9;have:=hSm.1;omega
    have hnq : nq≤120:=hSm.2.1
    have HOK:=Lib.hid hok0
    have HF0:=Lib.hid hf0
    have HWT:=Lib.hid hTT
    have HPLn : Hid (s0.ps.length=rs.length):=hpl.trans hmn
    clear hel hpl hcc hmn hll hf0 hok0 hTT HTT hz hSm
    have eA:=fun (w : World) (o : Obj)=>(Below.refl w.heap.size w).alloc (Nat.le_refl _) o
    go_wp2_with (first|(go_at_call 19;(with_reducible refine HNR.out.mono ?_);intro e w4 hY;obtain ⟨a4,c4,l4,r4,rfl,hP4,hps4,hr4,hb4,hna4,hap4,hnr4⟩:=hY;obtain ⟨-,v0,-,v1,-,v2,-,v3,-,v4,-⟩:=HA _ (on_below (on_below hb2 hb4) (eA w4 (.cells #[.slice a4 s0.ps.length c4,.int .i64 s0.timeout,.int .i64 s0.drift,.int .i64 s0.clock,.int .i64 s0.now] 45))))|fail)
    clear v0 v1 v2 v3 v4 y0 y1 y2 y3 y4
    have hs4:=hb4.size
    have h04 : w0.heap.size≤w4.heap.size:=(on_below hb2 hb4).size
    have hR4 : RefR w4 (fun _=>False) (fun _=>0) w4.heap.size w4 a4 l4 s0:=⟨hP4.row,fun v hv=>⟨(hP4.ok v hv).row,(hP4.ok v hv).le,(hP4.ok v hv).cap,fun p hp h0 hn=>hn⟩,hps4,Upd.refl _ _,fun p hp h0=>⟨rfl,by
      obtain ⟨b',off,hab,hb,-⟩:=hP4.row.at_ 0 h0
      rw [hab] at hp;cases hp
      exact Nat.ne_of_lt hb⟩,fun b _ h=>absurd rfl h,Nat.le_refl _⟩
    have hE4 : EvR w0.heap.size (fun _=>0) w4.heap.size w4 r4 l0:=⟨hr4.base hb2.size,fun b hb=>⟨rfl,by have:=(hr4.lt b hb).2;omega⟩⟩
    have hA5:=At.alloc w4 [.slice a4 s0.ps.length c4,.int .i64 s0.timeout,.int .i64 s0.drift,.int .i64 s0.clock,.int .i64 s0.now] 45
    have hbS:=eA w4 (.cells #[.slice a4 s0.ps.length c4,.int .i64 s0.timeout,.int .i64 s0.drift,.int .i64 s0.clock,.int .i64 s0.now] 45)
    have hX5 : StW w0 w4 w4.heap.size (w4.alloc (.cells #[.slice a4 s0.ps.length c4,.int .i64 s0.timeout,.int .i64 s0.drift,.int .i64 s0.clock,.int .i64 s0.now] 45)) (s0.run (cs.take 0)) (l0++s0.runE (cs.take 0)) r4:=by
      show StW w0 w4 w4.heap.size _ s0 (l0++[]) r4
      rw [List.append_nil]
      exact ⟨a4,c4,l4,on_below (on_below hb2 hb4) hbS,hA5,hR4.on hbS,hE4.on hbS⟩
    clear hR4 hE4 hbS hP4 hps4 hr4 hna4 hap4 hnr4 HNR hA5
    generalize w4.alloc (.cells #[.slice a4 s0.ps.length c4,.int .i64 s0.timeout,.int .i64 s0.drift,.int .i64 s0.clock,.int .i64 s0.now] 45)=w5 at *
    go_loopw [4,39] (fun va i wr=>∃ k : Nat,k≤nq∧i = .int .i64 k∧StW w0 w4 w4.heap.size wr (s0.run (cs.take k)) (l0++s0.runE (cs.take k)) va) (fun _ i _=>nq - (intOf i).toNat)
    case atStart=>exact ⟨0,Nat.zero_le _,rfl,hX5⟩
    case round =>
      clear hX5
      obtain ⟨k,hk,rfl,a5,c5,l5,hbw,hA5,hR,hE⟩:=hrel
      by_cases hlt : k<nq
      · have hkc : k<cs.length:=by rw [← hC0.hnq];exact hlt
        have hrow:=(hC0.on hbw).hch
        obtain ⟨bq,offq,hq',-,-⟩:=hrow.at_ k hkc
        subst hq'
        obtain ⟨hbq,r0,r1⟩:=RowC.cells hrow k hkc
        have hin:=hC0.hci _ (List.getElem_mem hkc)
        have hrl:=runE_len (cs.take k) s0
        rw [List.length_take] at hrl
        have hel : (l0++s0.runE (cs.take k)).length≤9000:=by rw [List.length_append];have:=HL.out;omega
        have hS1:=run_take s0 cs k hkc
        have hE1:=runE_take s0 cs k hkc
        generalize hck : cs[k]=x at *
        have HCK:=Lib.hid hck
        clear hck hrow
        obtain ⟨ct,cn⟩:=x
        simp only at r0 r1 hin
        have hd3:=doE_len (s0.run (cs.take k)) (ct,cn)
        have hokk:=HOK.out.run (cs.take k)
        have hbc:=eA wr (.cells #[.bool ct,.int .i64 cn] 50)
        have hC3:=At.alloc wr [.bool ct,.int .i64 cn] 50
        have hAA:=hA5.on hbc
        have hEA:=hE.on hbc
        have hRA:=hR.on hbc
        have hbwA:=on_below hbw hbc
        have hRD:=Lib.hid (hRA.does hAA.1 (fun b hb=>rfl) c5 hokk ct cn hin)
        have HS1 : Hid (s0.run (cs.take (k+1))=(s0.run (cs.take k)).doS (ct,cn)):=hS1
        have HE1 : Hid (l0++s0.runE (cs.take (k+1))=(l0++s0.runE (cs.take k))++(s0.run (cs.take k)).doE (ct,cn)):=by show _=_;rw [hE1,List.append_assoc]
        clear hS1 hE1 hR hE hrl hRA
        generalize (s0.run (cs.take k)).doE (ct,cn)=e5 at *
        generalize (s0.run (cs.take k)).doS (ct,cn)=s5 at *
        generalize l0++s0.runE (cs.take k)=e4 at *
        go_upto_region 12 with fail
        clear r0 r1 hbq
        have hwA : wr.heap.size<(wr.alloc (.cells #[.bool ct,.int .i64 cn] 50)).heap.size:=hC3.1
        generalize wr.alloc (.cells #[.bool ct,.int .i64 cn] 50)=wA at *
        obtain ⟨-,c0,z0,c1,z1⟩:=hC3.two
        obtain ⟨-,d0,o0,d1,o1,d2,o2,d3,o3,d4,o4⟩:=hAA.five
        go_upto_region 14 with (first|(go_at_call 20;(with_reducible refine hRD.out.mono ?_);intro e w6 hY;obtain ⟨a6,c6,l6,r6,rfl,hR6,hv6,hb6⟩:=hY;obtain ⟨-,t0,p0,t1,p1,t2,p2,t3,p3,t4,p4⟩:=((hAA.on hb6).on (eA w6 (.cells #[.slice a6 s5.ps.length c6,.int .i64 s5.timeout,.int .i64 s5.drift,.int .i64 s5.clock,.int .i64 s5.now] 45))).five)|fail)
        clear c0 z0 c1 z1 d0 o0 d1 o1 d2 o2 d3 o3 d4 o4 t0 p0 t1 p1 t2 p2 t3 p3 t4 p4 hRD
        have hb7:=eA w6 (.cells #[.slice a6 s5.ps.length c6,.int .i64 s5.timeout,.int .i64 s5.drift,.int .i64 s5.clock,.int .i64 s5.now] 45)
        have hu8:=upd_all5 (w6.alloc (.cells #[.slice a6 s5.ps.length c6,.int .i64 s5.timeout,.int .i64 s5.drift,.int .i64 s5.clock,.int .i64 s5.now] 45)) w4.heap.size (.slice a6 s5.ps.length c6) (.int .i64 s5.timeout) (.int .i64 s5.drift) (.int .i64 s5.clock) (.int .i64 s5.now)
        have hA8:=At.all5 ((hAA.on hb6).on hb7) (.slice a6 s5.ps.length c6) (.int .i64 s5.timeout) (.int .i64 s5.drift) (.int .i64 s5.clock) (.int .i64 s5.now)
        have hR8:=(hR6.on hb7).set hu8
        have hE8:=((hEA.on hb6).on hb7).set hu8
        have hsA:=hAA.1
        have hbw8:=(on_below (on_below hbwA hb6) hb7).upd hu8 (on_below (on_below hbwA hb6) hb7).size (fun b _ h=>by have h' : b=w4.heap.size:=h;omega)
        have hv8 : EvR w0.heap.size (fun _=>0) w4.heap.size _ r6 e5:=(EvR.on (⟨hv6.base (by have:=hbwA.size;omega),fun b hb=>⟨rfl,by have:=(hv6.lt b hb).1;omega⟩⟩ : EvR w0.heap.size (fun _=>0) w4.heap.size w6 r6 e5) hb7).set hu8
        have hgen : ∃ w8,w8=(((((w6.alloc (.cells #[.slice a6 s5.ps.length c6,.int .i64 s5.timeout,.int .i64 s5.drift,.int .i64 s5.clock,.int .i64 s5.now] 45)).setCell ⟨w4.heap.size,0,none⟩ (.slice a6 s5.ps.length c6)).setCell ⟨w4.heap.size,1,none⟩ (.int .i64 s5.timeout)).setCell ⟨w4.heap.size,2,none⟩ (.int .i64 s5.drift)).setCell ⟨w4.heap.size,3,none⟩ (.int .i64 s5.clock)).setCell ⟨w4.heap.size,4,none⟩ (.int .i64 s5.now):=⟨_,rfl⟩
        obtain ⟨w8,hw8⟩:=hgen
        rw [← hw8] at hA8 hR8 hE8 hv8 hbw8 ⊢
        clear hAA hEA hC3 hR6 hv6 hb7 hu8 hw8
        obtain ⟨j0,hj0,hz0,hz1,hz2⟩:=info_parts info_evr
        obtain ⟨aa,ca,hva⟩:=hE8.row.shape
        subst hva
        obtain ⟨ar,cr,hva⟩:=hv8.row.shape
        subst hva
        have hb9:=eA w8 (.cells #[] 56)
        have hs0 : Sl w8.heap.size (w8.alloc (.cells #[] 56)) 8 (.slice (some ⟨w8.heap.size,0,none⟩) 0 0) 0 []:=by
          have h:=Sl.made (B:=w8.heap.size) w8 #[] 56 8 0 0 (Nat.le_refl _) (Nat.le_refl _) (Nat.zero_le _) (by simp)
          simpa using h
        have hmx : e4.length+e5.length≤maxLen:=by unfold maxLen;omega
        go_wp2_with (first|(at_builtin;refine wpList_append_sl _ rfl (.tmp 50) (.tmp 51) 46 46 rfl 56 j0 _ 72 Tryz.underlying46 hj0 hz0 hz1 hz2 rfl rfl hs0 (.slice aa e4.length ca) e4.length (evcs e4) rfl (src_sl (hE8.row.on hb9) Tryz.underlying46 (evcs_one _)) (by omega) (by omega) (by simp) ?_;intro v10 w10 k1 k2 k3;have k1':=k1;rw [Nat.zero_add,List.nil_append] at k1';have hr10:=(hv8.row.on hb9).upd k2 (fun q hq h=>by have h2 : w8.heap.size=q:=Option.some.inj h;have:=(hv8.row.lt q hq).2;omega);have hs10:=k2.size;obtain ⟨a10,c10,hv10⟩:=k1'.shape;subst hv10)|(at_builtin;refine wpList_append_sl _ rfl (.tmp 52) (.tmp 53) 46 46 rfl 56 j0 _ 72 Tryz.underlying46 hj0 hz0 hz1 hz2 rfl rfl k1' (.slice ar e5.length cr) e5.length (evcs e5) rfl (src_sl hr10 Tryz.underlying46 (evcs_one _)) hmx (by omega) (by simp at hs10;omega) ?_;intro v11 w11 l1 l2 l3)|fail)
        have hb10 : Below w8.heap.size w8 w10:=hb9.upd k2 hb9.size (fun q _ h=>by have h2 : w8.heap.size=q:=Option.some.inj h;omega)
        have hb11 : Below w8.heap.size w8 w11:=hb10.upd l2 hb10.size (fun q _ h=>(k1'.lt q h).1)
        have hX : StW w0 w4 w4.heap.size w11 s5 (e4++e5) v11:=⟨a6,c6,l6,on_below hbw8 hb11,hA8.on hb11,hR8.on hb11,⟨by
          have h:=l1.base hbw8.size
          rw [List.length_append,show evcs (e4++e5)=evcs e4++evcs e5 by simp [evcs]]
          exact h,fun q hq=>⟨rfl,by have:=(l1.lt q hq).1;have:=hA8.1;omega⟩⟩⟩
        go_roundw
        case rel =>
          refine ⟨k+1,by omega,by go_num,?_⟩
          rw [HS1.out,HE1.out]
          exact hX
        case measure=>simp [intOf] <;> omega
      · obtain rfl : k=nq:=by omega
        have hrl:=runE_len cs s0
        have hck : cs.take k=cs:=List.take_of_length_le (by rw [← hC0.hnq];exact Nat.le_refl _)
        rw [hck] at hA5 hR hE
        have hel : (l0++s0.runE cs).length≤369:=by rw [List.length_append];have:=HL.out;have:=hC0.hnq;omega
        have hfin : ∀ v∈l0++s0.runE cs,Fine v:=fun v hv=>by
          rcases List.mem_append.1 hv with hv|hv
          · exact HF0.out v hv
          · exact fine_run cs HOK.out v hv
        have hsr:=HOK.out.run cs
        have hpl : (s0.run cs).ps.length=n:=by rw [run_len,HPLn.out,hC0.hn]
        have hTT:=HWT.out
        clear hck hrl HL HF0 HOK HWT HPLn
        generalize s0.run cs=s at *
        generalize l0++s0.runE cs=L at *
        obtain ⟨N,hN⟩ : ∃ N,L.length=N:=⟨_,rfl⟩
        obtain ⟨aE,cE,rfl,hrE⟩:=hE.rowg
        rw [hN] at hel
        have hmx:=etexts_max L hfin
        rw [hN] at hmx
        have hlt9:=lates_le L
        rw [hN] at hlt9
        have HFN:=Lib.hid hfin
        have HNN:=Lib.hid hN
        have HPT:=Lib.hid (fun k hk=>partsT_len hsr k hk)
        have HSR:=Lib.hid hsr
        have HPL:=Lib.hid hpl
        have HTT:=Lib.hid hTT
        have HLL:=Lib.hid hR.len
        have HPS:=Lib.hid hR.ps
        have hrP:=hR.rowp
        obtain ⟨-,d0,o0,d1,o1,d2,o2,d3,o3,d4,o4⟩:=hA5.five
        rw [HNN.out]
        clear hfin hN hsr hpl hTT hE hR
        go_wp2
        generalize wr=wS at *
        go_loopw [6,7,58] (fun sv lv i w3=>∃ j : Nat,j≤N∧sv = .string (bstr (etexts (L.take j)))∧lv = .int .i64 (lates (L.take j) : Nat)∧i = .int .i64 j∧Below wS.heap.size wS w3) (fun _ _ i _=>N - (intOf i).toNat)
        case atStart=>exact ⟨0,Nat.zero_le _,rfl,rfl,rfl,Below.refl _ _⟩
        case round =>
          clear d0 o0 d1 o1 d2 o2 d3 o3 d4 o4
          obtain ⟨j,hj,rfl,rfl,rfl,hb3⟩:=hrel
          by_cases hjl : j<N
          · have hj1 : j<L.length:=by rw [HNN.out];exact hjl
            have hrj:=hrE.below hb3
            obtain ⟨b1,o1,rfl,-,-⟩:=hrj.at_ j hj1
            obtain ⟨xa,xp,xk,xt,xs,xn,xe,he1⟩:=evc_is_late L[j]
            obtain ⟨hbl1,p0,p1,p2,p3,p4,p5,p6,p7⟩:=RowV.cells hrj j hj1 he1
            have hfj:=HFN.out _ (List.getElem_mem hj1)
            have hll:=eline_len _ hfj.1
            have hf4:=hfj.2
            have HLN:=fun wx=>Lib.hid (ref_line L[j] hfj.1 (Nat.le_trans hfj.2 (by omega)) wx)
            simp only [evr,he1] at HLN
            have hmj:=etexts_len L j
            have hsn : etexts (L.take (j+1))=etexts (L.take j)++(eline L[j]++[10]):=by rw [List.take_succ_eq_append_getElem hj1,etexts_snoc,List.append_assoc]
            have hlj:=lates_take L j hj1
            have hl9:=lates_le (L.take j)
            rw [List.length_take] at hl9
            generalize lates (L.take j)=la at *
            generalize L[j]=v at *
            have h1:=fun w=>tx_run w (eline v) [10] (by simp only [List.length_cons,List.length_nil];omega)
            have h2:=fun w=>tx_run w (etexts (L.take j)) (eline v++[10]) (by simp only [List.length_append,List.length_cons,List.length_nil];omega)
            rw [← hsn] at h2
            clear hsn hfj hll hf4 hmj hrj he1
            generalize bstr (eline v++[10])=U1 at *
            generalize bstr (eline v)=U0 at *
            generalize bstr (etexts (L.take j))=U2 at *
            have HU:=Lib.hid (rfl : bstr (etexts (L.take (j+1)))=bstr (etexts (L.take (j+1))))
            generalize hU3 : bstr (etexts (L.take (j+1)))=U3 at h2 HU
            have HU3:=Lib.hid hU3
            have hs3:=hb3.size
            have hgx : w4.heap.size<wr.heap.size:=Nat.lt_of_lt_of_le hA5.1 hs3
            have hbx3:=eA wr (.cells #[.int .i64 xa,.int .i64 xp,.int .i64 xk,.int .i64 xt,.string xs,.bool (Ev.lateB v),.int .i64 xn,.int .i64 xe] 56)
            have HA8:=Lib.hid (At.alloc wr [.int .i64 xa,.int .i64 xp,.int .i64 xk,.int .i64 xt,.string xs,.bool (Ev.lateB v),.int .i64 xn,.int .i64 xe] 56)
            clear hU3
            cases hlv : Ev.lateB v with
            | true =>
              rw [hlv] at hlj HLN p5 HA8
              simp only [if_true] at hlj
              go_wp2_with (first|(go_at_call 21;(with_reducible refine (HLN _).out.mono ?_);rintro e w5 ⟨rfl,hb5⟩;have hg5:=((HA8.out.on hb5).2 5 (by simp)).1)|fail)
              go_roundw
              case rel=>exact ⟨j+1,hjl,HU3.out.symm▸rfl,by rw [hlj];go_num,by go_num,on_below hb3 (on_below (eA wr _) hb5)⟩
              case measure=>simp [intOf];omega
            | false =>
              rw [hlv] at hlj HLN p5 HA8
              simp only [Bool.false_eq_true,if_false,Nat.add_zero] at hlj
              go_wp2_with (first|(go_at_call 21;(with_reducible refine (HLN _).out.mono ?_);rintro e w5 ⟨rfl,hb5⟩;have hg5:=((HA8.out.on hb5).2 5 (by simp)).1)|fail)
              go_roundw
              case rel=>exact ⟨j+1,hjl,HU3.out.symm▸rfl,by rw [hlj],by go_num,on_below hb3 (on_below (eA wr _) hb5)⟩
              case measure=>simp [intOf];omega
          · obtain rfl : j=N:=by omega
            have htk : L.take j=L:=List.take_of_length_le (by rw [HNN.out];exact Nat.le_refl _)
            rw [htk]
            clear htk hj hjl
            obtain ⟨la,hla⟩ : ∃ la,lates L=la:=⟨_,rfl⟩
            have hTX:=HTT.out
            unfold outT at hTX
            rw [hla] at hlt9 hTX ⊢
            have HTX:=Lib.hid hTX
            clear hla hTX HTT
            have hbS:=hb3
            have hA6:=hA5.on hb3
            obtain ⟨-,d0,o0,d1,o1,d2,o2,d3,o3,d4,o4⟩:=hA6.five
            have hp0 : Value.string (bstr (etexts L)) = .string (bstr (etexts L++partsT s 0)):=by show _=Value.string (bstr (etexts L++[]));rw [List.append_nil]
            go_wp2
            rw [hp0]
            clear hp0
            rw [HPL.out]
            generalize wr=wT at *
            go_loopw [6,75] (fun sv i wr=>∃ j : Nat,j≤n∧sv = .string (bstr (etexts L++partsT s j))∧i = .int .i64 j∧Below wS.heap.size wS wr) (fun _ i _=>n - (intOf i).toNat)
            case atStart=>exact ⟨0,Nat.zero_le _,rfl,rfl,hbS⟩
            case round =>
              clear d0 o0 d1 o1 d2 o2 d3 o3 d4 o4
              obtain ⟨j,hj,rfl,rfl,hb3⟩:=hrel
              by_cases hjl : j<n
              · have hj1 : j<l5.length:=by rw [HLL.out,HPL.out];exact hjl
                have hjp : j<s.ps.length:=by rw [HPL.out];exact hjl
                have hrj:=hrP.on hb3
                obtain ⟨b5,o5,rfl,-,-⟩:=hrj.row.at_ j hj1
                obtain ⟨hbl,p0,p1,p2,p3,p4,p5,p6,p7,p8,p9⟩:=hrj.cell j hj1
                have hpe : pat s.ps j=l5[j].p:=by
                  rw [pat_lt hjp]
                  have h:=HPS.out
                  simp only [← h,List.getElem_map]
                obtain ⟨f1,f2,f3⟩:=pt_fits HSR.out hjp
                have hpok:=HSR.out.pt _ (pat_mem hjp)
                have hpl0:=HPT.out j (by omega)
                have hpl1:=HPT.out (j+1) hjp
                have hn8:=HSR.out.n
                obtain ⟨X,hX⟩ : ∃ X,etexts L++partsT s j=X:=⟨_,rfl⟩
                have hXl : X.length≤1514175:=by rw [← hX,List.length_append];omega
                have hnx : etexts L++partsT s (j+1)=X++lineT tPart [(j : Int),(pat s.ps j).is,((pat s.ps j).read : Int),(pat s.ps j).mark]:=by rw [← hX,List.append_assoc];rfl
                have hj64 : in64 (j : Int):=by unfold in64;omega
                have hll:=lineT_len (name:=tPart) (ns:=[(j : Int),(pat s.ps j).is,((pat s.ps j).read : Int),(pat s.ps j).mark]) (by decide) (fun x hx=>by
                  simp only [List.mem_cons,List.not_mem_nil,or_false] at hx
                  rcases hx with rfl|rfl|rfl|rfl
                  · exact hj64
                  · exact f1
                  · exact f2
                  · exact f3)
                simp only [List.length_cons,List.length_nil] at hll
                have HRW:=fun wx=>Lib.hid (row4_of (j : Int) (pat s.ps j).is ((pat s.ps j).read : Int) (pat s.ps j).mark hj64 f1 f2 f3 wx)
                rw [hX]
                rw [hpe] at HRW hnx hll hpok
                have HM:=fun wx (hx : Below wr.heap.size wr wx)=>Lib.hid (ref_mark l5[j] wx ((hrj.on hx).ok _ (List.getElem_mem hj1)) hpok _ rfl)
                clear hpe f1 f2 f3 hpl0 hpl1 hrj hpok hX
                generalize l5[j]=v at *
                obtain ⟨⟨⟨kd,bd,pc,wn,sg⟩,recs,er,rd,is,tl⟩,av,cv⟩:=v
                simp only [Pv.val] at HM p0 p1 p2 p3 p4 p5 p6 p7 p8 p9 HRW hnx hll
                generalize hmk : (Pt.mark ⟨⟨kd,bd,pc,wn,sg⟩,recs,er,rd,is,tl⟩)=mk at *
                have h1:=fun w=>tx_run w X (lineT tPart [(j : Int),is,(rd : Int),mk]) (by omega)
                rw [← hnx] at h1
                have HNX:=Lib.hid (rfl : bstr (etexts L++partsT s (j+1))=bstr (etexts L++partsT s (j+1)))
                generalize hU3 : bstr (etexts L++partsT s (j+1))=U3 at h1 HNX
                have HU3:=Lib.hid hU3
                clear hU3 hnx hll hmk hXl
                generalize bstr (lineT tPart [(j : Int),is,(rd : Int),mk])=U1 at *
                generalize bstr X=U2 at *
                have hs3:=hb3.size
                have hwg : w4.heap.size<wr.heap.size:=Nat.lt_of_lt_of_le hA5.1 hs3
                have hbx9:=eA wr (.cells #[.int .i64 kd,.int .i64 bd,.int .i64 pc,.int .i64 wn,.int .i64 sg,.slice av recs.length cv,.int .i64 er,.int .i64 rd,.int .i64 is,.int .i64 tl] 62)
                have hA9:=At.alloc wr [.int .i64 kd,.int .i64 bd,.int .i64 pc,.int .i64 wn,.int .i64 sg,.slice av recs.length cv,.int .i64 er,.int .i64 rd,.int .i64 is,.int .i64 tl] 62
                go_upto_region 26 with fail
                have hb9:=on_below hb3 hbx9
                generalize wr.alloc (.cells #[.int .i64 kd,.int .i64 bd,.int .i64 pc,.int .i64 wn,.int .i64 sg,.slice av recs.length cv,.int .i64 er,.int .i64 rd,.int .i64 is,.int .i64 tl] 62)=w9 at *
                clear p0 p1 p2 p3 p4 p5 p6 p7 p8 p9
                have HA9:=Lib.hid hA9
                obtain ⟨hg9,k0,z0,k1,z1,k2,z2,k3,z3,k4,z4,k5,z5,k6,z6,k7,z7,k8,z8,k9,z9⟩:=At.ten hA9
                clear z0 z1 z2 z3 z4 z5 z6 z7 z8 z9 hA9
                have HB9:=Lib.hid hbx9
                go_region_with (first|(go_at_call 23;(with_reducible refine (HM _ (HB9.out.drew)).out.mono ?_);rintro e w6 ⟨rfl,hb6⟩;obtain ⟨-,e0,-,e1,-,e2,-,e3,-,e4,-,e5,-,e6,-,e7,-,e8,-,e9,-⟩:=At.ten (HA9.out.drew.on hb6))|(go_at_call 22;(with_reducible refine (HRW _).out.mono ?_);rintro e w7 ⟨rfl,hb7⟩)|fail)
                all_goals
                  go_wp2
                  go_roundw
                  case rel=>exact ⟨j+1,hjl,HU3.out.symm▸rfl,by go_num,on_below (on_below hb9.drew hb6) hb7⟩
                  case measure=>simp [intOf];omega
              · obtain rfl : j=n:=by omega
                have hB3:=hb3
                have hBW:=on_below hbw hb3
                have hpn:=HPT.out j (by rw [HPL.out];exact Nat.le_refl _)
                have hn8:=HSR.out.n
                rw [HPL.out] at hn8
                obtain ⟨X,hX⟩ : ∃ X,etexts L++partsT s j=X:=⟨_,rfl⟩
                have hXl : X.length≤1514175:=by rw [← hX,List.length_append];omega
                have hTX:=HTX.out
                rw [← hC0.hn,hX] at hTX
                have hnw:=HSR.out.nw
                have hck:=HSR.out.ck
                have hll:=lineT_len (name:=tEnd) (ns:=[s.now,s.clock,(la : Int)]) (by decide) (fun x hx=>by
                  simp only [List.mem_cons,List.not_mem_nil,or_false] at hx
                  rcases hx with rfl|rfl|rfl
                  · exact hnw
                  · exact hck
                  · unfold in64;omega)
                simp only [List.length_cons,List.length_nil] at hll
                have HRW:=fun wx=>Lib.hid (row3_of s.now s.clock (la : Int) hnw hck (by unfold in64;omega) wx)
                have h1:=fun w=>tx_run w X (lineT tEnd [s.now,s.clock,(la : Int)]) (by omega)
                rw [hTX] at h1
                rw [hX]
                obtain ⟨-,d0,o0,d1,o1,d2,o2,d3,o3,d4,o4⟩:=(hA5.on hb3).five
                clear hTX hX hnw hck hll hXl hpn
                generalize bstr (lineT tEnd [s.now,s.clock,(la : Int)])=U1 at *
                generalize bstr X=U2 at *
                cases htb : toldB rs with
                | false =>
                  have HT2:=fun wx hx=>HTL wx hx false htb
                  generalize bstr T=TX at *
                  go_wp2_with (first|(go_at_call 22;(with_reducible refine (HRW _).out.mono ?_);rintro e w7 ⟨rfl,hb7⟩;have hB7:=on_below hBW hb7;obtain ⟨-,s0,-,s1,-,s2,-,s3,-,s4,-⟩:=HA _ hB7)|(go_at_call 24;(with_reducible refine (HPY _ hB7).out.mono ?_);rintro e w8 ⟨rfl,hb8⟩;have hB8:=on_below hB7 hb8;obtain ⟨-,r0,-,r1,-,r2,-,r3,-,r4,-⟩:=HA _ hB8)|(go_at_call 10;(with_reducible refine (HT2 _ hB8).out.mono ?_);rintro e w9 ⟨rfl,hb9⟩;have hB9:=on_below hB8 hb9)|fail)
                  go_ret
                  exact ⟨rfl,on_below hbx hB9⟩
                | true =>
                  have HT2:=fun wx hx=>HTL wx hx true htb
                  have HPT2:=fun wx hx=>Lib.hid (HTD.out htb wx hx)
                  have HRN2:=fun wx hx=>Lib.hid (HRN.out htb wx hx)
                  generalize bstr T=TX at *
                  generalize bstr PT=TP at *
                  go_wp2_with (first|(go_at_call 22;(with_reducible refine (HRW _).out.mono ?_);rintro e w7 ⟨rfl,hb7⟩;have hB7:=on_below hBW hb7;obtain ⟨-,s0,-,s1,-,s2,-,s3,-,s4,-⟩:=HA _ hB7)|(go_at_call 24;(with_reducible refine (HPY _ hB7).out.mono ?_);rintro e w8 ⟨rfl,hb8⟩;have hB8:=on_below hB7 hb8;obtain ⟨-,r0,-,r1,-,r2,-,r3,-,r4,-⟩:=HA _ hB8)|(go_at_call 10;(with_reducible refine (HT2 _ hB8).out.mono ?_);rintro e w9 ⟨rfl,hb9⟩;have hB9:=on_below hB8 hb9;obtain ⟨-,v0,-,v1,-,v2,-,v3,-,v4,-⟩:=HA _ hB9)|(go_at_call 13;(with_reducible refine (HPT2 _ hB9).out.mono ?_);rintro e w10 ⟨rfl,hb10⟩;have hB10:=on_below hB9 hb10)|(go_at_call 16;(with_reducible refine (HRN2 _ hB10).out.mono ?_);rintro e w11 ⟨rfl,hb11⟩;have hB11:=on_below hB10 hb11)|fail)
                  go_ret
                  exact ⟨rfl,on_below hbx hB11⟩
  · have hin:=nerr_in rs t dr m
    have hTT:=HTT.out
    unfold playT at hTT
    rw [show (ls.map fun s=>s.data.toList).length=m by rw [List.length_map];exact hC0.hm.symm,if_neg hz] at hTT
    obtain ⟨z,hzz⟩ : ∃ z,nerr rs t dr m=z:=⟨_,rfl⟩
    rw [hzz] at hTT hin hz
    have hz0 : (z != 0)=true:=by rw [bne_iff_ne];exact hz
    have HNR:=Lib.hid (ref_new_none rs t dr a n c b m c2 w2 (hC0.hru.below hb2) hC0.hn (by have:=hSm.2.2.1;omega) z hzz hz)
    have HNM:=fun wx=>Lib.hid (ref_num z hin wx)
    have hil:=PWord.itoa_len hin
    have h1:=fun w=>tx_run w [101,114,114,111,114,32] (itoa z) (by simp only [List.length_cons,List.length_nil];omega)
    have h2:=fun w=>tx_run w ([101,114,114,111,114,32]++itoa z) [10] (by simp only [List.length_append,List.length_cons,List.length_nil];omega)
    have he2 : [101,114,114,111,114,32]++itoa z++[10]=T:=by rw [← hTT];simp [lineT,PWord.lineOf,PWord.glue]
    rw [he2] at h2
    clear he2 hTT hzz hz hil HTT
    have eA:=fun (w : World) (o : Obj)=>(Below.refl w.heap.size w).alloc (Nat.le_refl _) o
    generalize bstr ([101,114,114,111,114,32]++itoa z)=U1 at *
    generalize bstr (itoa z)=U0 at *
    go_wp2_with (first|(go_at_call 19;(with_reducible refine HNR.out.mono ?_);rintro e w4 ⟨rfl,hb4⟩;have hB4:=on_below (on_below hb2 hb4) (eA w4 (.cells #[.slice none 0 0,.int .i64 0,.int .i64 0,.int .i64 0,.int .i64 0] 45)))|fail)
    cases htb : toldB rs with
    | false =>
      have HT2:=fun wx hx=>HTL wx hx false htb
      generalize bstr T=TX at *
      go_wp2_with (first|(go_at_call 17;(with_reducible refine (HNM _).out.mono ?_);rintro e w7 ⟨rfl,hb7⟩;have hB7:=on_below hB4 hb7;obtain ⟨-,s0,-,s1,-,s2,-,s3,-,s4,-⟩:=HA _ hB7)|(go_at_call 24;(with_reducible refine (HPY _ hB7).out.mono ?_);rintro e w8 ⟨rfl,hb8⟩;have hB8:=on_below hB7 hb8;obtain ⟨-,r0,-,r1,-,r2,-,r3,-,r4,-⟩:=HA _ hB8)|(go_at_call 10;(with_reducible refine (HT2 _ hB8).out.mono ?_);rintro e w9 ⟨rfl,hb9⟩;have hB9:=on_below hB8 hb9)|fail)
      go_ret
      exact ⟨rfl,on_below hbx hB9⟩
    | true =>
      have HT2:=fun wx hx=>HTL wx hx true htb
      have HPT2:=fun wx hx=>Lib.hid (HTD.out htb wx hx)
      have HRN2:=fun wx hx=>Lib.hid (HRN.out htb wx hx)
      generalize bstr T=TX at *
      generalize bstr PT=TP at *
      go_wp2_with (first|(go_at_call 17;(with_reducible refine (HNM _).out.mono ?_);rintro e w7 ⟨rfl,hb7⟩;have hB7:=on_below hB4 hb7;obtain ⟨-,s0,-,s1,-,s2,-,s3,-,s4,-⟩:=HA _ hB7)|(go_at_call 24;(with_reducible refine (HPY _ hB7).out.mono ?_);rintro e w8 ⟨rfl,hb8⟩;have hB8:=on_below hB7 hb8;obtain ⟨-,r0,-,r1,-,r2,-,r3,-,r4,-⟩:=HA _ hB8)|(go_at_call 10;(with_reducible refine (HT2 _ hB8).out.mono ?_);rintro e w9 ⟨rfl,hb9⟩;have hB9:=on_below hB8 hb9;obtain ⟨-,v0,-,v1,-,v2,-,v3,-,v4,-⟩:=HA _ hB9)|(go_at_call 13;(with_reducible refine (HPT2 _ hB9).out.mono ?_);rintro e w10 ⟨rfl,hb10⟩;have hB10:=on_below hB9 hb10)|(go_at_call 16;(with_reducible refine (HRN2 _ hB10).out.mono ?_);rintro e w11 ⟨rfl,hb11⟩;have hB11:=on_below hB10 hb11)|fail)
      go_ret
      exact ⟨rfl,on_below hbx hB11⟩
end Go.Proofs.YtmimfkhkilijcaaGreatDoor
