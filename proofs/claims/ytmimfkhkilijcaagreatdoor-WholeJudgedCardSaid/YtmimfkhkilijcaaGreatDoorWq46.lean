/- Mod8; Mod9; ModA: what is reached of them. -/
import Derived.Test.YtmimfkhkilijcaaGreatDoorWq45
import Derived.Test.YtmimfkhkilijcaaGreatDoorWq39
import Derived.Test.YtmimfkhkilijcaaGreatDoorWq34
import Derived.Deep.RegionHeld3
set_option linter.unusedVariables false
set_option linter.unusedSimpArgs false
set_option maxRecDepth 100000
set_option maxHeartbeats 8000000
namespace Go.Proofs.YtmimfkhkilijcaaGreatDoor
open Go.ChangeShapes Go.WideShapes Go.ChangeAt Go.RowKit
open PHist PRing PSat PClamp PBound PFrame PSign PTree PEv
def MoD (K : Option Addr→Nat→List R→Prop) (s : St) (es : List Ev) (rs : List Rul) (rn : Nat) (w : World) (e : Ending) (w' : World) : Prop :=
  ∃ ra rc a c l r,e = .returned (.tuple #[.agg #[.slice ra rn rc,.int .i64 s.timeout,.int .i64 s.drift,.slice a s.ps.length c,.int .i64 s.clock,.int .i64 s.now],r])∧RowU w' ra rs∧RowG w' 10 Pv.cells a l∧(∀ v∈l,K v.a v.c v.p.recs)∧l.map (·.p)=s.ps∧Sl w.heap.size w' 1 r es.length (es.map evv)∧Below w.heap.size w w'∧(∀ p,ra=some p→w.heap.size≤p.block)∧(∀ p,a=some p→w.heap.size≤p.block)
theorem MoS.made {K : Option Addr→Nat→List R→Prop} {w w2 : World} {B : Nat} {ra : Option Addr} {rn rc : Nat} {a : Option Addr} {n c : Nat} {l : List Pv} {ps : List Pt} {t d k m : Int} {ex : TypeId} (hb : Below w.heap.size w w2) (hB : w.heap.size≤B) (hs : Sl B w2 10 (.slice a n c) n (pvs l)) (hn : n=l.length) (hl : l.map (·.p)=ps) (hok : ∀ v∈l,PvOk w v) (hk : ∀ v∈l,K v.a v.c v.p.recs) :
    MoS K w.heap.size (w2.alloc (.cells #[.slice ra rn rc,.int .i64 t,.int .i64 d,.slice a n c,.int .i64 k,.int .i64 m] ex)) w2.heap.size (.slice ra rn rc) a n c l ps t d k m :=
  ⟨At.alloc w2 [.slice ra rn rc,.int .i64 t,.int .i64 d,.slice a n c,.int .i64 k,.int .i64 m] ex,(hs.alloc _).base hB,hn,hl,fun h=>Nat.lt_irrefl _ (hs.lt _ h).2,fun v hv=>((hok v hv).on hb).on ((Below.refl _ _).alloc (Nat.le_refl _) _),hk,fun v hv p hp h0=>by
    obtain ⟨b',off,hab,hb',-⟩:=(hok v hv).row.at_ 0 h0
    rw [hab] at hp;cases hp
    have:=hb.size
    refine ⟨fun e=>?_,fun e=>?_⟩
    · have e : b'=w2.heap.size:=e
      omega
    · have:=(hs.lt _ e).1
      have hb' : b'<w.heap.size:=hb'
      have : B≤b':=this
      omega⟩
theorem mo_do_poll (K : Option Addr→Nat→List R→Prop) (ra : Option Addr) (rn rc : Nat) (rs : List Rul) (a : Option Addr) (n c : Nat) (l : List Pv) (s s2 : St) (es : List Ev) (x : Int) (w : World) (hru : RowU w ra rs) (hrn : rn=rs.length) (hr8 : rn≤10000) (hr : RowP w a l) (hn : n=l.length) (hl : l.map (·.p)=s.ps) (h0 : ∀ v∈l,K v.a v.c v.p.recs) (h8 : n≤1000) (hn2 : s2.ps.length=n)
    (HC : ∀ (g : Nat) (ra2 : Option Addr) (rc2 : Nat) (a2 : Option Addr) (c2 : Nat) (w3 : World),MoS K w.heap.size w3 g (.slice ra2 rn rc2) a2 n c2 l s.ps s.timeout s.drift s.clock s.now→Calls Tryz.prog 180 #[.pointer (some ⟨g,0,none⟩),.int .i64 x] w3 (MoPost K w.heap.size g (.slice ra2 rn rc2) a2 n c2 s2.ps s2.timeout s2.drift s2.clock s2.now (fun b=>b=g∨(Value.slice a2 n c2).ownBlock=some b) es w3)) :
    Calls Tryz.prog 123 #[.agg #[.slice ra rn rc,.int .i64 s.timeout,.int .i64 s.drift,.slice a n c,.int .i64 s.clock,.int .i64 s.now],.agg #[.bool false,.int .i64 x]] w (MoD K s2 es rs rn w):=by
  have e:=fun (w : World) (o : Obj)=>(Below.refl w.heap.size w).alloc (Nat.le_refl _) o
  have hA0:=At.alloc w [.slice ra rn rc,.int .i64 s.timeout,.int .i64 s.drift,.slice a n c,.int .i64 s.clock,.int .i64 s.now] 191
  have hA1:=At.alloc (w.alloc (.cells #[.slice ra rn rc,.int .i64 s.timeout,.int .i64 s.drift,.slice a n c,.int .i64 s.clock,.int .i64 s.now] 191)) [.bool false,.int .i64 x] 50
  have hA2:=At.alloc ((w.alloc (.cells #[.slice ra rn rc,.int .i64 s.timeout,.int .i64 s.drift,.slice a n c,.int .i64 s.clock,.int .i64 s.now] 191)).alloc (.cells #[.bool false,.int .i64 x] 50)) [.slice none 0 0,.int .i64 0,.int .i64 0,.slice none 0 0,.int .i64 0,.int .i64 0] 191
  simp only [World.size_alloc] at hA1 hA2
  have hA0':=(hA0.on (e _ (.cells #[.bool false,.int .i64 x] 50))).on (e _ (.cells #[.slice none 0 0,.int .i64 0,.int .i64 0,.slice none 0 0,.int .i64 0,.int .i64 0] 191))
  have hA1':=hA1.on (e _ (.cells #[.slice none 0 0,.int .i64 0,.int .i64 0,.slice none 0 0,.int .i64 0,.int .i64 0] 191))
  have hB0 : Below w.heap.size w (((w.alloc (.cells #[.slice ra rn rc,.int .i64 s.timeout,.int .i64 s.drift,.slice a n c,.int .i64 s.clock,.int .i64 s.now] 191)).alloc (.cells #[.bool false,.int .i64 x] 50)).alloc (.cells #[.slice none 0 0,.int .i64 0,.int .i64 0,.slice none 0 0,.int .i64 0,.int .i64 0] 191)):=on_below (on_below (e _ _) (e _ _)) (e _ _)
  have HAP:=fun w' (hb : Below w.heap.size w w')=>Lib.hid (mo_apart ra rn rc rs a n c l s.timeout s.drift s.clock s.now w' (hru.below hb) hrn (hr.on hb) hn h8 hr8)
  have HC':=fun g ra2 rc2 a2 c2 w3 h=>Lib.hid (HC g ra2 rc2 a2 c2 w3 h)
  have HM:=fun (w2 : World) (B : Nat) (ra2 : Option Addr) (rc2 : Nat) (a2 : Option Addr) (c2 : Nat) (hb : Below w.heap.size w w2) (hB : w.heap.size≤B) (hs : Sl B w2 10 (.slice a2 n c2) n (pvs l))=>MoS.made (ra:=ra2) (rn:=rn) (rc:=rc2) (t:=s.timeout) (d:=s.drift) (k:=s.clock) (m:=s.now) (ex:=191) hb hB hs hn hl hr.ok h0
  have HN2:=Lib.hid hn2
  have HRN:=Lib.hid hrn
  clear hru hrn hr hn hl h0 HC hA0 hA1 hn2 e
  obtain ⟨ps,tm,dr,ck,nw⟩:=s
  simp only at *
  go_enter Tryz.func123,Tryz.ntmps123
  go_upto_region 1 with fail
  generalize ((w.alloc (.cells #[.slice ra rn rc,.int .i64 tm,.int .i64 dr,.slice a n c,.int .i64 ck,.int .i64 nw] 191)).alloc (.cells #[.bool false,.int .i64 x] 50)).alloc (.cells #[.slice none 0 0,.int .i64 0,.int .i64 0,.slice none 0 0,.int .i64 0,.int .i64 0] 191)=w1 at *
  have hsz1 : w.heap.size+1+1<w1.heap.size:=hA2.1
  obtain ⟨-,p0,-,p1,-,p2,-,p3,-,p4,-,p5,-⟩:=hA0'.cells6
  have HA1:=HAP _ hB0
  go_upto_region 2 with (first|(go_at_call 175;(with_reducible refine HA1.out.mono ?_);intro e2 w2 hY;obtain ⟨ra2,rc2,a2,c2,rfl,hs2,ht2,hb2,hne2,-⟩:=hY)|fail)
  have hM3:=HM w2 w1.heap.size ra2 rc2 a2 c2 (on_below hB0 hb2) hB0.size ht2
  have hba:=(Below.refl w2.heap.size w2).alloc (Nat.le_refl _) (.cells #[.slice ra2 rn rc2,.int .i64 tm,.int .i64 dr,.slice a2 n c2,.int .i64 ck,.int .i64 nw] 191)
  have hb3:=on_below hb2 hba
  have hC3:=hA1'.on hb3
  have hZ3:=hA2.on hb3
  have hs3:=hs2.onW hba
  have hB3:=on_below hB0 hb3
  have hg2 : w1.heap.size≤w2.heap.size:=hb2.size
  have hrg : ∀ q,(Value.slice ra2 rn rc2).ownBlock=some q→q<w2.heap.size:=fun q hq=>(hs2.lt q hq).2
  have hpg : ∀ q,(Value.slice a2 n c2).ownBlock=some q→w1.heap.size≤q:=fun q hq=>(ht2.lt q hq).1
  have HC3:=HC' _ _ _ _ _ _ hM3
  clear p0 p1 p2 p3 p4 p5 hA0' hA1' hA2 hs2 ht2 hb2 hb3 hba HM HAP HA1 HC' hM3 hB0
  generalize w2.alloc (.cells #[.slice ra2 rn rc2,.int .i64 tm,.int .i64 dr,.slice a2 n c2,.int .i64 ck,.int .i64 nw] 191)=w3 at *
  generalize w2.heap.size=g at *
  obtain ⟨-,c0,-,c1,-⟩:=hC3.two
  go_upto_region 6 with (first|(go_at_call 180;(with_reducible refine HC3.out.mono ?_);intro e4 w4 hY;obtain ⟨l4,r4,rfl,hs4,hM4,hu4⟩:=hY)|fail)
  have hZ4 := hZ3.upd hu4 (fun h => by rcases h with h | h; · omega
                                       · have:=hpg _ h;omega)
  obtain ⟨-,p0,y0,p1,y1,p2,y2,p3,y3,p4,y4,p5,y5⟩:=hM4.blk.cells6
  obtain ⟨-,q0,z0,q1,z1,q2,z2,q3,z3,q4,z4,q5,z5⟩:=hZ4.cells6
  have hT:=Lib.hid (fun x0 x1 x2 x3 x4 x5=>At.all6 hZ4 x0 x1 x2 x3 x4 x5)
  have hUf:=Lib.hid (fun x0 x1 x2 x3 x4 x5=>Upd.all6 (Upd.refl (fun b=>b=w.heap.size+1+1) w4) (g:=w.heap.size+1+1) (fun _=>rfl) x0 x1 x2 x3 x4 x5)
  have hB4 : Below w.heap.size w w4 := hB3.upd hu4 hB3.size (fun q _ h => by rcases h with h | h; · omega
                                                                             · have:=hpg _ h;omega)
  have hs4r := hs3.upd hu4 (fun q h1 h2 => by rcases h2 with h2 | h2; · have := hrg q h1; omega
                                              · exact hne2 q h1 h2)
  have HFI : Hid (∀ wf,Upd (fun b=>b=w.heap.size+1+1) w4 wf→MoD K s2 es rs rn w (.returned (.tuple #[.agg #[.slice ra2 rn rc2,.int .i64 s2.timeout,.int .i64 s2.drift,.slice a2 n c2,.int .i64 s2.clock,.int .i64 s2.now],r4])) wf):=fun wf hu=>by
    have hB:=hB4.upd hu hB4.size (fun q _ h=>by omega)
    have hrow:=hs4r.upd hu (fun q h1 h2=>by have:=(hs4r.lt q h1).1;omega)
    have hrow2:=hM4.row.upd hu (fun q h1 h2=>by have:=hpg q h1;omega)
    have hev:=hs4.upd hu (fun q h1 h2=>by have:=(hs4.lt q h1).1;have:=hB3.size;have:=hZ3.1;omega)
    obtain ⟨a',c',hv,hG⟩:=rowg_of_sl (f:=Rul.cells) hrow HRN.out rul_len
    cases hv
    obtain ⟨a',c',hv,hG2⟩:=rowg_of_sl (f:=Pv.cells) hrow2 hM4.len (fun _=>rfl)
    cases hv
    have hn2:=HN2.out
    refine ⟨ra2,rc2,a2,c2,l4,r4,by rw [hn2],hG,hG2,hM4.kk,hM4.map,hev.base (by have:=hZ3.1;omega),hB,fun p hp=>?_,fun p hp=>?_⟩
    · have:=(hs4r.lt p.block (by rw [hp];rfl)).1
      omega
    · have:=hpg p.block (by rw [hp];rfl)
      omega
  clear hZ4 hB4 hs4r hM4 hs4 hu4 hZ3 hC3 hs3
  go_wp2_with fail
  refine bodyPost_ret (results_at2 (fn:=Tryz.f123) rfl _ rfl (hT.out _ _ _ _ _ _) Tryz.underlying191 rfl (by kernel_rfl)) rfl ?_
  exact HFI.out _ (hUf.out _ _ _ _ _ _)
theorem mo_do_tick (K : Option Addr→Nat→List R→Prop) (ra : Option Addr) (rn rc : Nat) (rs : List Rul) (a : Option Addr) (n c : Nat) (l : List Pv) (s s2 : St) (es : List Ev) (x : Int) (w : World) (hru : RowU w ra rs) (hrn : rn=rs.length) (hr8 : rn≤10000) (hr : RowP w a l) (hn : n=l.length) (hl : l.map (·.p)=s.ps) (h0 : ∀ v∈l,K v.a v.c v.p.recs) (h8 : n≤1000) (hn2 : s2.ps.length=n)
    (HC : ∀ (g : Nat) (ra2 : Option Addr) (rc2 : Nat) (a2 : Option Addr) (c2 : Nat) (w3 : World),MoS K w.heap.size w3 g (.slice ra2 rn rc2) a2 n c2 l s.ps s.timeout s.drift s.clock s.now→Calls Tryz.prog 179 #[.pointer (some ⟨g,0,none⟩),.int .i64 x] w3 (MoPost K w.heap.size g (.slice ra2 rn rc2) a2 n c2 s2.ps s2.timeout s2.drift s2.clock s2.now (fun b=>b=g∨(Value.slice a2 n c2).ownBlock=some b) es w3)) :
    Calls Tryz.prog 123 #[.agg #[.slice ra rn rc,.int .i64 s.timeout,.int .i64 s.drift,.slice a n c,.int .i64 s.clock,.int .i64 s.now],.agg #[.bool true,.int .i64 x]] w (MoD K s2 es rs rn w):=by
  have e:=fun (w : World) (o : Obj)=>(Below.refl w.heap.size w).alloc (Nat.le_refl _) o
  have hA0:=At.alloc w [.slice ra rn rc,.int .i64 s.timeout,.int .i64 s.drift,.slice a n c,.int .i64 s.clock,.int .i64 s.now] 191
  have hA1:=At.alloc (w.alloc (.cells #[.slice ra rn rc,.int .i64 s.timeout,.int .i64 s.drift,.slice a n c,.int .i64 s.clock,.int .i64 s.now] 191)) [.bool true,.int .i64 x] 50
  have hA2:=At.alloc ((w.alloc (.cells #[.slice ra rn rc,.int .i64 s.timeout,.int .i64 s.drift,.slice a n c,.int .i64 s.clock,.int .i64 s.now] 191)).alloc (.cells #[.bool true,.int .i64 x] 50)) [.slice none 0 0,.int .i64 0,.int .i64 0,.slice none 0 0,.int .i64 0,.int .i64 0] 191
  simp only [World.size_alloc] at hA1 hA2
  have hA0':=(hA0.on (e _ (.cells #[.bool true,.int .i64 x] 50))).on (e _ (.cells #[.slice none 0 0,.int .i64 0,.int .i64 0,.slice none 0 0,.int .i64 0,.int .i64 0] 191))
  have hA1':=hA1.on (e _ (.cells #[.slice none 0 0,.int .i64 0,.int .i64 0,.slice none 0 0,.int .i64 0,.int .i64 0] 191))
  have hB0 : Below w.heap.size w (((w.alloc (.cells #[.slice ra rn rc,.int .i64 s.timeout,.int .i64 s.drift,.slice a n c,.int .i64 s.clock,.int .i64 s.now] 191)).alloc (.cells #[.bool true,.int .i64 x] 50)).alloc (.cells #[.slice none 0 0,.int .i64 0,.int .i64 0,.slice none 0 0,.int .i64 0,.int .i64 0] 191)):=on_below (on_below (e _ _) (e _ _)) (e _ _)
  have HAP:=fun w' (hb : Below w.heap.size w w')=>Lib.hid (mo_apart ra rn rc rs a n c l s.timeout s.drift s.clock s.now w' (hru.below hb) hrn (hr.on hb) hn h8 hr8)
  have HC':=fun g ra2 rc2 a2 c2 w3 h=>Lib.hid (HC g ra2 rc2 a2 c2 w3 h)
  have HM:=fun (w2 : World) (B : Nat) (ra2 : Option Addr) (rc2 : Nat) (a2 : Option Addr) (c2 : Nat) (hb : Below w.heap.size w w2) (hB : w.heap.size≤B) (hs : Sl B w2 10 (.slice a2 n c2) n (pvs l))=>MoS.made (ra:=ra2) (rn:=rn) (rc:=rc2) (t:=s.timeout) (d:=s.drift) (k:=s.clock) (m:=s.now) (ex:=191) hb hB hs hn hl hr.ok h0
  have HN2:=Lib.hid hn2
  have HRN:=Lib.hid hrn
  clear hru hrn hr hn hl h0 HC hA0 hA1 hn2 e
  obtain ⟨ps,tm,dr,ck,nw⟩:=s
  simp only at *
  go_enter Tryz.func123,Tryz.ntmps123
  go_upto_region 1 with fail
  generalize ((w.alloc (.cells #[.slice ra rn rc,.int .i64 tm,.int .i64 dr,.slice a n c,.int .i64 ck,.int .i64 nw] 191)).alloc (.cells #[.bool true,.int .i64 x] 50)).alloc (.cells #[.slice none 0 0,.int .i64 0,.int .i64 0,.slice none 0 0,.int .i64 0,.int .i64 0] 191)=w1 at *
  have hsz1 : w.heap.size+1+1<w1.heap.size:=hA2.1
  obtain ⟨-,p0,-,p1,-,p2,-,p3,-,p4,-,p5,-⟩:=hA0'.cells6
  have HA1:=HAP _ hB0
  go_upto_region 2 with (first|(go_at_call 175;(with_reducible refine HA1.out.mono ?_);intro e2 w2 hY;obtain ⟨ra2,rc2,a2,c2,rfl,hs2,ht2,hb2,hne2,-⟩:=hY)|fail)
  have hM3:=HM w2 w1.heap.size ra2 rc2 a2 c2 (on_below hB0 hb2) hB0.size ht2
  have hba:=(Below.refl w2.heap.size w2).alloc (Nat.le_refl _) (.cells #[.slice ra2 rn rc2,.int .i64 tm,.int .i64 dr,.slice a2 n c2,.int .i64 ck,.int .i64 nw] 191)
  have hb3:=on_below hb2 hba
  have hC3:=hA1'.on hb3
  have hZ3:=hA2.on hb3
  have hs3:=hs2.onW hba
  have hB3:=on_below hB0 hb3
  have hg2 : w1.heap.size≤w2.heap.size:=hb2.size
  have hrg : ∀ q,(Value.slice ra2 rn rc2).ownBlock=some q→q<w2.heap.size:=fun q hq=>(hs2.lt q hq).2
  have hpg : ∀ q,(Value.slice a2 n c2).ownBlock=some q→w1.heap.size≤q:=fun q hq=>(ht2.lt q hq).1
  have HC3:=HC' _ _ _ _ _ _ hM3
  clear p0 p1 p2 p3 p4 p5 hA0' hA1' hA2 hs2 ht2 hb2 hb3 hba HM HAP HA1 HC' hM3 hB0
  generalize w2.alloc (.cells #[.slice ra2 rn rc2,.int .i64 tm,.int .i64 dr,.slice a2 n c2,.int .i64 ck,.int .i64 nw] 191)=w3 at *
  generalize w2.heap.size=g at *
  obtain ⟨-,c0,-,c1,-⟩:=hC3.two
  go_upto_region 6 with (first|(go_at_call 179;(with_reducible refine HC3.out.mono ?_);intro e4 w4 hY;obtain ⟨l4,r4,rfl,hs4,hM4,hu4⟩:=hY)|fail)
  have hZ4 := hZ3.upd hu4 (fun h => by rcases h with h | h; · omega
                                       · have:=hpg _ h;omega)
  obtain ⟨-,p0,y0,p1,y1,p2,y2,p3,y3,p4,y4,p5,y5⟩:=hM4.blk.cells6
  obtain ⟨-,q0,z0,q1,z1,q2,z2,q3,z3,q4,z4,q5,z5⟩:=hZ4.cells6
  have hT:=Lib.hid (fun x0 x1 x2 x3 x4 x5=>At.all6 hZ4 x0 x1 x2 x3 x4 x5)
  have hUf:=Lib.hid (fun x0 x1 x2 x3 x4 x5=>Upd.all6 (Upd.refl (fun b=>b=w.heap.size+1+1) w4) (g:=w.heap.size+1+1) (fun _=>rfl) x0 x1 x2 x3 x4 x5)
  have hB4 : Below w.heap.size w w4 := hB3.upd hu4 hB3.size (fun q _ h => by rcases h with h | h; · omega
                                                                             · have:=hpg _ h;omega)
  have hs4r := hs3.upd hu4 (fun q h1 h2 => by rcases h2 with h2 | h2; · have := hrg q h1; omega
                                              · exact hne2 q h1 h2)
  have HFI : Hid (∀ wf,Upd (fun b=>b=w.heap.size+1+1) w4 wf→MoD K s2 es rs rn w (.returned (.tuple #[.agg #[.slice ra2 rn rc2,.int .i64 s2.timeout,.int .i64 s2.drift,.slice a2 n c2,.int .i64 s2.clock,.int .i64 s2.now],r4])) wf):=fun wf hu=>by
    have hB:=hB4.upd hu hB4.size (fun q _ h=>by omega)
    have hrow:=hs4r.upd hu (fun q h1 h2=>by have:=(hs4r.lt q h1).1;omega)
    have hrow2:=hM4.row.upd hu (fun q h1 h2=>by have:=hpg q h1;omega)
    have hev:=hs4.upd hu (fun q h1 h2=>by have:=(hs4.lt q h1).1;have:=hB3.size;have:=hZ3.1;omega)
    obtain ⟨a',c',hv,hG⟩:=rowg_of_sl (f:=Rul.cells) hrow HRN.out rul_len
    cases hv
    obtain ⟨a',c',hv,hG2⟩:=rowg_of_sl (f:=Pv.cells) hrow2 hM4.len (fun _=>rfl)
    cases hv
    have hn2:=HN2.out
    refine ⟨ra2,rc2,a2,c2,l4,r4,by rw [hn2],hG,hG2,hM4.kk,hM4.map,hev.base (by have:=hZ3.1;omega),hB,fun p hp=>?_,fun p hp=>?_⟩
    · have:=(hs4r.lt p.block (by rw [hp];rfl)).1
      omega
    · have:=hpg p.block (by rw [hp];rfl)
      omega
  clear hZ4 hB4 hs4r hM4 hs4 hu4 hZ3 hC3 hs3
  go_wp2_with fail
  refine bodyPost_ret (results_at2 (fn:=Tryz.f123) rfl _ rfl (hT.out _ _ _ _ _ _) Tryz.underlying191 rfl (by kernel_rfl)) rfl ?_
  exact HFI.out _ (hUf.out _ _ _ _ _ _)
theorem mo_do (K : Option Addr→Nat→List R→Prop) (ra : Option Addr) (rn rc : Nat) (rs : List Rul) (a : Option Addr) (n c : Nat) (l : List Pv) (s : St) (t : Bool) (x : Int) (w : World) (hru : RowU w ra rs) (hrn : rn=rs.length) (hr8 : rn≤10000) (hr : RowP w a l) (hn : n=l.length) (hl : l.map (·.p)=s.ps) (h0 : ∀ v∈l,K v.a v.c v.p.recs) (hok : s.Ok) (hx : in64 x) :
    Calls Tryz.prog 123 #[.agg #[.slice ra rn rc,.int .i64 s.timeout,.int .i64 s.drift,.slice a n c,.int .i64 s.clock,.int .i64 s.now],.agg #[.bool t,.int .i64 x]] w (MoD K (s.doS (t,x)) (s.doE (t,x)) rs rn w):=by
  have hln : s.ps.length=n:=by rw [hn,← hl,List.length_map]
  have h8 : n≤1000:=by have:=hok.n;omega
  have hn2 : (s.doS (t,x)).ps.length=n:=by rw [doS_len,hln]
  cases t
  · refine mo_do_poll K ra rn rc rs a n c l s _ _ x w hru hrn hr8 hr hn hl h0 h8 hn2 fun g ra2 rc2 a2 c2 w3 h=>?_
    cases hv : s.refused x
    · obtain ⟨k,rfl⟩ : ∃ k : Nat,x=k:=⟨x.toNat,by have:=(refused_not hv).1;omega⟩
      rw [show s.doS (false,(k : Int))=s.pollS k by show (if s.refused k=true then s else s.pollS (k : Int).toNat)=_;rw [if_neg (by rw [hv];exact Bool.false_ne_true),Int.toNat_natCast],show s.doE (false,(k : Int))=s.pollE k by show (if s.refused k=true then [] else s.pollE (k : Int).toNat)=_;rw [if_neg (by rw [hv];exact Bool.false_ne_true),Int.toNat_natCast]]
      exact mo_poll K _ g ra2 rn rc2 a2 n c2 l s.ps s.timeout s.drift s.clock s.now k w3 h hok hv
    · rw [show s.doS (false,x)=s from if_pos hv,show s.doE (false,x)=[] from if_pos hv]
      exact mo_poll_no K _ g ra2 rn rc2 a2 n c2 l s x w3 h hok hv
  · refine mo_do_tick K ra rn rc rs a n c l s _ _ x w hru hrn hr8 hr hn hl h0 h8 hn2 fun g ra2 rc2 a2 c2 w3 h=>?_
    by_cases hx0 : x<0
    · rw [show s.doS (true,x)=s from if_pos hx0,show s.doE (true,x)=[] from if_pos hx0]
      exact mo_tick_vain K _ g _ a2 n c2 l s.ps s.timeout s.drift s.clock s.now x w3 h hx0
    · rw [show s.doS (true,x)=s.tickS x from if_neg hx0,show s.doE (true,x)=s.tickE x from if_neg hx0]
      exact mo_tick K _ g _ a2 n c2 l s x w3 h hok (by omega) hx.2
open PVar PCrc
def ApartM (r : Value) (ra a : Option Addr) (l : List Pv) : Prop :=
  ∀ q,r.ownBlock=some q→(∀ p,ra=some p→q≠p.block)∧(∀ p,a=some p→q≠p.block)∧∀ v∈l,∀ p,v.a=some p→0<v.p.recs.length→q≠p.block
def NewM (s : St) (es : List Ev) (rs : List Rul) (rn : Nat) (w : World) (e : Ending) (w' : World) : Prop :=
  ∃ (ra : Option Addr) (rc : Nat) (a : Option Addr) (c : Nat) (l : List Pv) (r : Value),e = .returned (.tuple #[.agg #[.slice ra rn rc,.int .i64 s.timeout,.int .i64 s.drift,.slice a s.ps.length c,.int .i64 s.clock,.int .i64 s.now],r,.int .i64 0])∧RowU w' ra rs∧RowP w' a l∧l.map (·.p)=s.ps∧Sl w.heap.size w' 1 r es.length (es.map evv)∧Below w.heap.size w w'∧(∀ p,ra=some p→w.heap.size≤p.block)∧(∀ p,a=some p→w.heap.size≤p.block)∧ApartM r ra a l∧∀ v∈l,∀ p,v.a=some p→0<v.p.recs.length→w.heap.size≤p.block
theorem MoS.push {K : Option Addr→Nat→List R→Prop} {B : Nat} {wr w6 w7 : World} {g : Nat} {ru : Value} {a a1 : Option Addr} {k c c1 : Nat} {l : List Pv} {ps : List Pt} {t d kk m : Int} {v : Pv} (h : MoS K B wr g ru a k c l ps t d kk m) (h6 : Below wr.heap.size wr w6) (hvo : PvOk w6 v) (hvk : K v.a v.c v.p.recs) (hva : ∀ p,v.a=some p→0<v.p.recs.length→wr.heap.size≤p.block∧p.block<w6.heap.size)
    (q1 : Sl B w7 10 (.slice a1 (k+1) c1) (k+1) (pvs l++v.cells)) (q2 : Upd (fun b=>(Value.slice a k c).ownBlock=some b) w6 w7) (q3 : ∀ b,(Value.slice a1 (k+1) c1).ownBlock=some b→(Value.slice a k c).ownBlock=some b∨w6.heap.size≤b) :
    MoS K B (w7.setCell ⟨g,3,none⟩ (.slice a1 (k+1) c1)) g ru a1 (k+1) c1 (l++[v]) (ps++[v.p]) t d kk m∧Upd (fun b=>b=g∨(Value.slice a k c).ownBlock=some b) w6 (w7.setCell ⟨g,3,none⟩ (.slice a1 (k+1) c1)):=by
  have h7:=h.on h6
  have hs6:=h6.size
  have hgl:=h.blk.1
  have hu8 : Upd (fun b=>b=g) w7 (w7.setCell ⟨g,3,none⟩ (.slice a1 (k+1) c1)):=(Upd.refl (fun b=>b=g) w7).setCell (p:=⟨g,3,none⟩) (fun _=>rfl) _
  have hag : ∀ b,(Value.slice a k c).ownBlock=some b→b≠g:=fun b hb e=>h.ne (by rw [hb,e])
  have hag1 : ∀ b,(Value.slice a1 (k+1) c1).ownBlock=some b→b≠g:=fun b hb e=>(q3 b hb).elim (fun h1=>hag b h1 e) (fun h1=>by omega)
  have hold : ∀ v'∈l,∀ p,v'.a=some p→0<v'.p.recs.length→p.block<wr.heap.size:=fun v' hv' p hp h0=>by
    obtain ⟨b',off,hab,hb,-⟩:=(h.ok v' hv').row.at_ 0 h0
    rw [hab] at hp;cases hp
    exact hb
  have hfr : ∀ v'∈l++[v],∀ p,v'.a=some p→0<v'.p.recs.length→p.block≠g∧(Value.slice a k c).ownBlock≠some p.block∧(Value.slice a1 (k+1) c1).ownBlock≠some p.block:=fun v' hv' p hp h0=>by
    rcases List.mem_append.1 hv' with hv' | hv'
    · have h1:=h.fr v' hv' p hp h0
      have h2:=hold v' hv' p hp h0
      exact ⟨h1.1,h1.2,fun e=>(q3 _ e).elim (fun h3=>h1.2 h3) (fun h3=>by omega)⟩
    · rw [List.mem_singleton] at hv'
      subst hv'
      have h1:=hva p hp h0
      exact ⟨by omega,fun e=>by have:=(h.row.lt _ e).2;omega,fun e=>(q3 _ e).elim (fun h3=>by have:=(h.row.lt _ h3).2;omega) (fun h3=>by omega)⟩
  have hat:=(h7.blk.upd q2 (fun e=>hag _ e rfl)).set 3 (by simp) (.slice a1 (k+1) c1)
  simp only [List.set] at hat
  refine ⟨⟨hat,?_,by rw [List.length_append,h.len];rfl,by rw [List.map_append,h.map];rfl,fun e=>hag1 _ e rfl,fun v' hv'=>?_,fun v' hv'=>?_,fun v' hv' p hp h0=>⟨(hfr v' hv' p hp h0).1,(hfr v' hv' p hp h0).2.2⟩⟩,(q2.mono (fun _ _ h=>.inr h)).trans hu8 (fun _ _ h=>.inl h)⟩
  · rw [pvs_snoc]
    exact q1.upd hu8 (fun b hb e=>hag1 b hb e)
  · have h6' : PvOk w6 v':=by
      rcases List.mem_append.1 hv' with hv'' | hv''
      · exact h7.ok v' hv''
      · rw [List.mem_singleton] at hv'';subst hv'';exact hvo
    exact (h6'.upd q2 (fun p hp h0=>(hfr v' hv' p hp h0).2.1)).upd hu8 (fun p hp h0=>(hfr v' hv' p hp h0).1)
  · rcases List.mem_append.1 hv' with hv'' | hv''
    · exact h.kk v' hv''
    · rw [List.mem_singleton] at hv'';subst hv'';exact hvk
structure MoN (w8 wr : World) (g : Nat) (ru : Value) (k : Nat) (t d : Int) (rs : List Rul) (ls : List (List UInt8)) (a : Option Addr) (c : Nat) (out : Value) (l : List Pv) : Prop where
  st : MoS (fun a _ r=>∀ p,a=some p→0<r.length→g+1≤p.block) (g+1) wr g ru a k c l ((begun t rs ls).take k) t d 0 (-9223372036854775808)
  evr : Sl (g+1) wr 1 out (faultsTo (raws t rs ls) k).length ((faultsTo (raws t rs ls) k).map evv)
  fo : ∀ b,out.ownBlock=some b→(Value.slice a k c).ownBlock≠some b∧∀ v∈l,∀ p,v.a=some p→0<v.p.recs.length→p.block≠b
  new : Upd (fun b=>g≤b) w8 wr
theorem take_raw {t : Int} {rs : List Rul} {ls : List (List UInt8)} {k : Nat} (hk : k<(raws t rs ls).length) (p : Pt) (hp : pat (raws t rs ls) k=p) :
    ((begun t rs ls).take k++[p]).set k (settled (pat ((begun t rs ls).take k++[p]) k))=(begun t rs ls).take (k+1)∧pat ((begun t rs ls).take k++[p]) k=p:=by
  have hb : k<(begun t rs ls).length:=by unfold begun;rw [List.length_map];exact hk
  have hl : ((begun t rs ls).take k).length=k:=by rw [List.length_take];omega
  have e1 : pat ((begun t rs ls).take k++[p]) k=p:=by
    rw [pat_lt (by rw [List.length_append,hl];simp),List.getElem_append_right (by omega)]
    simp [hl]
  refine ⟨?_,e1⟩
  rw [e1,List.set_append_right _ _ (by omega),hl,Nat.sub_self,List.take_succ_eq_append_getElem hb]
  congr 1
  show [settled p]=_
  rw [← hp,pat_lt hk]
  simp only [begun,List.getElem_map]
theorem MoS.reK {K K' : Option Addr→Nat→List R→Prop} {B : Nat} {w : World} {g : Nat} {ru : Value} {a : Option Addr} {n c : Nat} {l : List Pv} {ps : List Pt} {t d k m : Int} (h : MoS K B w g ru a n c l ps t d k m) (hk : ∀ v∈l,K' v.a v.c v.p.recs) : MoS K' B w g ru a n c l ps t d k m :=
  ⟨h.blk,h.row,h.len,h.map,h.ne,h.ok,hk,h.fr⟩
theorem MoS.old_at {K : Option Addr→Nat→List R→Prop} {B : Nat} {w : World} {g : Nat} {ru : Value} {a : Option Addr} {n c : Nat} {l : List Pv} {ps : List Pt} {t d k m : Int} (h : MoS K B w g ru a n c l ps t d k m) {v : Pv} (hv : v∈l) {p : Addr} (hp : v.a=some p) (h0 : 0<v.p.recs.length) : p.block<w.heap.size:=by
  obtain ⟨b',off,hab,hb,-⟩:=(h.ok v hv).row.at_ 0 h0
  rw [hab] at hp;cases hp
  exact hb
theorem add_zero_in {t : Int} (h : 1≤t∧t≤9223372036854775807) : add 0 t=t:=by
  unfold add clampI
  (repeat' split) <;> omega
theorem MoN.step {w8 wr w5 wx ws w9 : World} {g : Nat} {ru : Value} {k : Nat} {t d : Int} {rs : List Rul} {ls : List (List UInt8)} {a a1 : Option Addr} {c c1 n9 : Nat} {out v9 : Value} {l l2 : List Pv} (h : MoN w8 wr g ru k t d rs ls a c out l) (h5 : Below wr.heap.size wr w5) (hg : g+1≤wr.heap.size)
    (hU1 : Upd (fun b=>b=g∨(Value.slice a k c).ownBlock=some b) w5 wx) (hq3 : ∀ b,(Value.slice a1 (k+1) c1).ownBlock=some b→(Value.slice a k c).ownBlock=some b∨w5.heap.size≤b)
    (hM2 : MoS (fun a _ r=>∀ p,a=some p→0<r.length→g+1≤p.block∧out.ownBlock≠some p.block) (g+1) ws g ru a1 (k+1) c1 l2 ((begun t rs ls).take (k+1)) t d 0 (-9223372036854775808)) (hU2 : Upd (fun b=>(Value.slice a1 (k+1) c1).ownBlock=some b) wx ws)
    (hn : n9=(faultsTo (raws t rs ls) (k+1)).length) (l1 : Sl (g+1) w9 1 v9 n9 ((faultsTo (raws t rs ls) (k+1)).map evv)) (u1 : Upd (fun b=>out.ownBlock=some b) ws w9) (l3 : ∀ b,v9.ownBlock=some b→out.ownBlock=some b∨ws.heap.size≤b) :
    MoN w8 w9 g ru (k+1) t d rs ls a1 c1 v9 l2:=by
  subst hn
  have hs5:=h5.size
  have hsx:=hU1.size
  have hss:=hU2.size
  have hap : ∀ b,(Value.slice a1 (k+1) c1).ownBlock=some b→out.ownBlock≠some b:=fun b h1 h2=>(hq3 b h1).elim (fun h3=>(h.fo b h2).1 h3) (fun h3=>by have:=(h.evr.lt b h2).2;omega)
  have hog : ∀ b,out.ownBlock=some b→g+1≤b:=fun b hb=>(h.evr.lt b hb).1
  have hpg : ∀ b,(Value.slice a k c).ownBlock=some b→g+1≤b:=fun b hb=>(h.st.row.lt b hb).1
  have hpg1 : ∀ b,(Value.slice a1 (k+1) c1).ownBlock=some b→g+1≤b:=fun b hb=>(hM2.row.lt b hb).1
  have hM3:=hM2.upd u1 (fun e=>by have:=hog _ e;omega) (fun b h1 h2=>hap b h1 h2) (fun v hv p hp h0 e=>(hM2.kk v hv p hp h0).2 e)
  refine ⟨hM3.reK (fun v hv p hp h0=>(hM2.kk v hv p hp h0).1),l1,fun b hb=>⟨fun e=>?_,fun v hv p hp h0 e=>?_⟩,?_⟩
  · rcases l3 b hb with h1|h1
    · exact hap b e h1
    · have:=(hM2.row.lt b e).2;omega
  · rcases l3 b hb with h1|h1
    · exact (hM2.kk v hv p hp h0).2 (by rw [e];exact h1)
    · have:=hM2.old_at hv hp h0;omega
  · refine (((h.new.trans (Upd.of_below (S:=fun b=>g≤b) h5 (fun q h1 h2=>by omega)) (fun _ _ h=>h)).trans hU1 (fun q _ h=>?_)).trans hU2 (fun q _ h=>?_)).trans u1 (fun q _ h=>?_)
    · rcases h with h|h
      · show g≤q;omega
      · have:=hpg q h;show g≤q;omega
    · have:=hpg1 q h;show g≤q;omega
    · have:=hog q h;show g≤q;omega
theorem MoN.done {w w8 wr ws w9 wf : World} {g : Nat} {ra : Option Addr} {rn rc : Nat} {k : Nat} {t d fu : Int} {rs : List Rul} {ls : List (List UInt8)} {a : Option Addr} {c n9 : Nat} {out v9 : Value} {l l2 : List Pv} {es : List Ev} {xs : List Value} (h : MoN w8 wr g (.slice ra rn rc) k t d rs ls a c out l) (hw : Below w.heap.size w w8) (hg8 : w.heap.size+1<g)
    (hru : Sl (w.heap.size+2) w8 5 (.slice ra rn rc) rn (rs.flatMap Rul.cells)) (hrg : ∀ b,(Value.slice ra rn rc).ownBlock=some b→b<g) (hrn : rn=rs.length) (hk : k=(begun t rs ls).length)
    (hM2 : MoS (fun a _ r=>∀ p,a=some p→0<r.length→g+1≤p.block∧out.ownBlock≠some p.block) (g+1) ws g (.slice ra rn rc) a k c l2 (begun t rs ls) t d 0 fu) (hU2 : Upd (fun b=>b=g) wr ws)
    (hn : n9=es.length) (hxs : xs=es.map evv) (l1 : Sl (g+1) w9 1 v9 n9 xs) (u1 : Upd (fun b=>out.ownBlock=some b) ws w9) (l3 : ∀ b,v9.ownBlock=some b→out.ownBlock=some b∨ws.heap.size≤b) (hf : Upd (fun b=>b=w.heap.size+1) w9 wf) :
    NewM ⟨begun t rs ls,t,d,0,fu⟩ es rs rn w (.returned (.tuple #[.agg #[.slice ra rn rc,.int .i64 t,.int .i64 d,.slice a k c,.int .i64 0,.int .i64 fu],v9,.int .i64 0])) wf:=by
  subst hn hxs
  have hss:=hU2.size
  have hog : ∀ b,out.ownBlock=some b→g+1≤b:=fun b hb=>(h.evr.lt b hb).1
  have hpg1 : ∀ b,(Value.slice a k c).ownBlock=some b→g+1≤b:=fun b hb=>(hM2.row.lt b hb).1
  have hgl:=hM2.blk.1
  have hM3:=hM2.upd u1 (fun e=>by have:=hog _ e;omega) (fun b h1 h2=>(h.fo b h2).1 h1) (fun v hv p hp h0 e=>(hM2.kk v hv p hp h0).2 e)
  have hM4:=hM3.upd hf (fun e=>by omega) (fun b h1 h2=>by have:=hpg1 b h1;omega) (fun v hv p hp h0 e=>by have:=(hM2.kk v hv p hp h0).1;omega)
  have hU9 : Upd (fun b=>g≤b) w8 w9:=(h.new.trans hU2 (fun q _ h=>by show g≤q;omega)).trans u1 (fun q _ h=>by have:=hog q h;show g≤q;omega)
  have hUf : Upd (fun b=>g≤b∨b=w.heap.size+1) w8 wf:=(hU9.mono (fun _ _ h=>.inl h)).trans hf (fun _ _ h=>.inr h)
  have hru4:=hru.upd hUf (fun b h1 h2=>by have:=hrg b h1;have:=(hru.lt b h1).1;omega)
  obtain ⟨a',c',hv,hG⟩:=rowg_of_sl (f:=Rul.cells) hru4 hrn rul_len
  cases hv
  have hl9:=l1.upd hf (fun b h1 h2=>by have:=(l1.lt b h1).1;omega)
  refine ⟨ra,rc,a,c,l2,v9,by rw [hk],hG,hM4.rowp,hM4.map,hl9.base (by omega),hw.upd hUf hw.size (fun q _ h=>by omega),fun p hp=>?_,fun p hp=>?_,fun q hq=>⟨fun p hp e=>?_,fun p hp e=>?_,fun v hv p hp h0 e=>?_⟩,fun v hv p hp h0=>?_⟩
  · have:=(hru.lt p.block (by rw [hp];rfl)).1;omega
  · have:=hpg1 p.block (by rw [hp];rfl);omega
  · have h1:=hrg p.block (by rw [hp];rfl)
    have:=(l1.lt q hq).1
    omega
  · have h1 : (Value.slice a k c).ownBlock=some q:=by rw [hp,e];rfl
    rcases l3 q hq with h2|h2
    · exact (h.fo q h2).1 h1
    · have:=(hM2.row.lt q h1).2;omega
  · rcases l3 q hq with h2|h2
    · exact (hM2.kk v hv p hp h0).2 (by rw [← e];exact h2)
    · have:=hM2.old_at hv hp h0;omega
  · have:=(hM2.kk v hv p hp h0).1;omega
end Go.Proofs.YtmimfkhkilijcaaGreatDoor
