/- Mod4; Mod5: what is reached of them. -/
import Derived.Test.YtmimfkhkilijcaaGreatDoorWq43
import Derived.Test.YtmimfkhkilijcaaGreatDoorWq01
import Derived.Test.YtmimfkhkilijcaaGreatDoorWq32
import Derived.Deep.RegionHeld3
set_option linter.unusedVariables false
set_option linter.unusedSimpArgs false
set_option maxRecDepth 100000
set_option maxHeartbeats 8000000
namespace Go.Proofs.YtmimfkhkilijcaaGreatDoor
open Go.ChangeShapes Go.WideShapes Go.ChangeAt Go.RowKit
open PHist PRing PSat PClamp PBound PFrame PSign PTree PEv
theorem sl_min (a : Option Addr) (n c : Nat) (l : List Int) (w : World) (hn : n=l.length) (hl : RowI w .i64 a l) (h0 : 0<n) (h1 : n≤100000) (z : Int) (hz : minOf l=z) :
    Calls Tryz.prog 252 #[.slice a n c] w fun e w'=>e = .returned (.int .i64 z)∧w=w':=by
  have HN:=Lib.hid hn
  have h0l : 0<l.length:=by omega
  have H1:=Lib.hid (minOf_one l h0l)
  have HZ:=Lib.hid hz
  obtain ⟨b,off,rfl,hb,hc⟩:=hl.at_ 0 h0l
  rw [Nat.add_zero] at hc
  have hn1 : ¬ ((n : Int)<1):=by omega
  clear hn hz
  go_enter Tryz.func252,Tryz.ntmps252
  go_wp2
  go_loop [3,4] (fun s i=>∃ k : Nat,1≤k∧k≤n∧i = .int .i64 k∧s = .int .i64 (minOf (l.take k))) (fun _ i=>n - (intOf i).toNat)
  case atStart=>exact ⟨1,Nat.le_refl _,h0,rfl,by rw [H1.out]⟩
  case round =>
    obtain ⟨k,hk1,hk,rfl,rfl⟩:=hrel
    by_cases hlt : k<n
    · have hkl : k<l.length:=by rw [← HN.out];exact hlt
      obtain ⟨b',off',he,hb',hc'⟩:=hl.at_ k hkl
      cases he
      have HT:=minOf_take l k hk1 hkl
      have HX:=Lib.hid HT
      clear HT
      generalize l[k]=x at *
      generalize hm : minOf (l.take k)=m at *
      have HM:=Lib.hid hm
      clear hm
      by_cases hmx : x<m
      · have hxm : ¬ (m≤x):=by omega
        have HE:=Lib.hid (show min m x=x by omega)
        go_wp2
        go_round
        case rel=>exact ⟨k+1,by omega,by omega,by go_num,by rw [HX.out,HE.out]⟩
        case measure=>simp [intOf] <;> omega
      · have hxm : m≤x:=by omega
        have HE:=Lib.hid (show min m x=m by omega)
        go_wp2
        go_round
        case rel=>exact ⟨k+1,by omega,by omega,by go_num,by rw [HX.out,HE.out]⟩
        case measure=>simp [intOf] <;> omega
    · obtain rfl : k=n:=by omega
      go_wp2
      go_ret
      exact ⟨ret_int (by rw [List.take_of_length_le (by rw [HN.out];exact Nat.le_refl _)];exact HZ.out),rfl⟩
def MarksPost (n : Nat) (l : List Int) (w : World) (e : Ending) (w' : World) : Prop:=∃ a c,e = .returned (.slice a n c)∧n=l.length∧RowI w' .i64 a l∧Below w.heap.size w w'
theorem mo_marks (g : Nat) (ru : Value) (a : Option Addr) (n c : Nat) (l : List Pv) (ps : List Pt) (t d k m q : Int) (w : World) (hA : At w g [ru,.int .i64 t,.int .i64 d,.slice a n c,.int .i64 k,.int .i64 m]) (hr : RowP w a l) (hn : n=l.length) (hl : l.map (·.p)=ps) (hok : ∀ p∈ps,p.Ok) (h8 : n≤1000) :
    Calls Tryz.prog 251 #[.pointer (some ⟨g,0,none⟩),.int .i64 q] w (MarksPost (marksTo ps q n).length (marksTo ps q n) w):=by
  obtain ⟨i0,hi0,hz0,hz1,hz2⟩:=info_parts info_int
  have HL:=Lib.hid hl
  have HN:=Lib.hid hn
  have HOK:=Lib.hid hok
  have HBD : Hid (∀ j,j≤n→∀ x∈marksTo ps q j,-9223372036854775808≤x∧x≤9223372036854775807):=by
    intro j
    induction j with
    | zero=>intro _ x hx;cases hx
    | succ j ih =>
      intro hj x hx
      unfold marksTo at hx
      split at hx
      · rcases List.mem_append.1 hx with hx|hx
        · exact ih (by omega) x hx
        · rw [List.mem_singleton] at hx
          subst hx
          exact mark_in (hok _ (pat_mem (by rw [← hl,List.length_map];omega)))
      · exact ih (by omega) x hx
  obtain ⟨hg,-,-,-,-,-,-,p3,-,-,-,-,-⟩:=hA.cells6
  clear hl hn hok hA
  go_enter Tryz.func251,Tryz.ntmps251
  go_wp2
  go_loopw [5,13] (fun v i wr=>∃ j : Nat,j≤n∧i = .int .i64 j∧Sl w.heap.size wr 1 v (marksTo ps q j).length (iv (marksTo ps q j))∧Below w.heap.size w wr) (fun _ i _=>n - (intOf i).toNat)
  case atStart=>exact ⟨0,Nat.zero_le _,rfl,Sl.nil _ _ _,Below.refl _ _⟩
  case round =>
    obtain ⟨j,hj,rfl,hsl,hbw⟩:=hrel
    by_cases hlt : j<n
    · have hjl : j<l.length:=by rw [← HN.out];exact hlt
      have hrow:=hr.on hbw
      obtain ⟨b,off,rfl,-,-⟩:=hr.row.at_ j hjl
      have hcell:=hrow.cell j hjl
      have hpj : l[j].p=pat ps j:=by rw [pat_lt (by rw [← HL.out,List.length_map];exact hjl)];simp only [← HL.out,List.getElem_map]
      have hpo : (l[j]).p.Ok:=HOK.out _ (by rw [← HL.out];exact List.mem_map_of_mem (List.getElem_mem hjl))
      have hvo:=hrow.ok _ (List.getElem_mem hjl)
      have hml:=marksTo_len ps q j
      have HS : Hid (marksTo ps q (j+1)=if (l[j]).p.is=q then marksTo ps q j++[(l[j]).p.mark] else marksTo ps q j):=by
        show marksTo ps q (j+1)=_
        rw [hpj];rfl
      have HM:=fun w' (h : PvOk w' l[j])=>Lib.hid (mo_mark l[j] w' h hpo _ rfl)
      clear hpj hpo
      generalize l[j]=v at *
      obtain ⟨⟨⟨kd,bd,pc,wn,sg⟩,recs,er,rd,is,tl⟩,av,cv⟩:=v
      simp only [Pv.val] at HM hcell HS
      obtain ⟨hbb,r0,r1,r2,r3,r4,r5,r6,r7,r8,r9⟩:=hcell
      have hba:=(Below.refl wr.heap.size wr).alloc (Nat.le_refl _) (.cells #[.int .i64 kd,.int .i64 bd,.int .i64 pc,.int .i64 wn,.int .i64 sg,.slice av recs.length cv,.int .i64 er,.int .i64 rd,.int .i64 is,.int .i64 tl] 256)
      have hP:=At.alloc wr [.int .i64 kd,.int .i64 bd,.int .i64 pc,.int .i64 wn,.int .i64 sg,.slice av recs.length cv,.int .i64 er,.int .i64 rd,.int .i64 is,.int .i64 tl] 256
      have hvo1:=hvo.on hba
      have hsl1:=hsl.onW hba
      have hbw1:=on_below hbw hba
      have HM1:=HM _ hvo1
      clear HM hvo
      generalize (Pt.mark ⟨⟨kd,bd,pc,wn,sg⟩,recs,er,rd,is,tl⟩)=z at *
      generalize marksTo ps q j=L at *
      have hsz:=hbw.size
      go_upto_region 5 with fail
      generalize wr.alloc (.cells #[.int .i64 kd,.int .i64 bd,.int .i64 pc,.int .i64 wn,.int .i64 sg,.slice av recs.length cv,.int .i64 er,.int .i64 rd,.int .i64 is,.int .i64 tl] 256)=w1 at *
      obtain ⟨hgp,q0,x0,q1,x1,q2,x2,q3,x3,q4,x4,q5,x5,q6,x6,q7,x7,q8,x8,q9,x9⟩:=hP.ten
      by_cases hq : is=q
      · subst hq
        rw [if_pos rfl] at HS
        have hs1 : w.heap.size≤w1.heap.size:=hbw1.size
        have hm1 : L.length+1≤maxLen:=by unfold maxLen;omega
        go_wp2_with (first|(go_at_call 254;(with_reducible refine HM1.out.mono ?_);rintro e9 w2 ⟨rfl,hb2⟩;have hsl2:=hsl1.onW hb2;have hs2 : w.heap.size≤w2.heap.size:=Nat.le_trans hs1 hb2.size)|(at_builtin;refine wpList_append_sl _ rfl (.tmp 21) (.tmp 24) 106 106 rfl 3 i0 (.int .i64 0) 8 Tryz.underlying106 hi0 hz0 hz1 hz2 rfl rfl (hsl2.alloc _) _ 1 [.int .i64 z] rfl (src_oneN Tryz.underlying106 _ (.int .i64 z) 3 _ rfl rfl) hm1 (by omega) (by simp;omega) ?_;intro v1 w3 k1 k2 k3))
        go_roundw
        case rel =>
          refine ⟨j+1,by omega,by go_num,?_,?_⟩
          · rw [HS.out,List.length_append,iv_snoc']
            exact k1
          · have hb2':=on_below hbw1 hb2
            exact (hb2'.alloc hb2'.size _).upd k2 (by simp;omega) (fun i _ h=>(hsl2.lt i h).1)
        case measure=>simp [intOf] <;> omega
      · have hq' : (is == q)=false:=by rw [beq_eq_false_iff_ne];exact hq
        rw [if_neg hq] at HS
        clear hq
        go_wp2_with fail
        go_roundw
        case rel=>exact ⟨j+1,by omega,by go_num,by rw [HS.out];exact hsl1,hbw1⟩
        case measure=>simp [intOf] <;> omega
    · obtain rfl : j=n:=by omega
      have hbd:=HBD.out j (Nat.le_refl _)
      generalize marksTo ps q j=L at *
      obtain ⟨hL,a1,c1,rfl,hrow⟩:=rowi_of_sl hsl hbd
      have HR:=Lib.hid hrow
      have HB:=Lib.hid hbw
      clear hsl hbw hbd hrow HBD
      go_wp2_with fail
      go_ret
      exact ⟨a1,c1,rfl,rfl,HR.out,HB.out⟩
theorem idx_two (w : World) : (Instr.index 326 (.agg #[.int .i64 0,.int .i64 1]) (.int .i64 0)).run Tryz.prog w = .ok (.int .i64 0) w∧(Instr.index 326 (.agg #[.int .i64 0,.int .i64 1]) (.int .i64 1)).run Tryz.prog w = .ok (.int .i64 1) w:=⟨by kernel_rfl,by kernel_rfl⟩
theorem mo_least (g : Nat) (ru : Value) (a : Option Addr) (n c : Nat) (l : List Pv) (ps : List Pt) (t d k m : Int) (w : World) (hA : At w g [ru,.int .i64 t,.int .i64 d,.slice a n c,.int .i64 k,.int .i64 m]) (hr : RowP w a l) (hn : n=l.length) (hl : l.map (·.p)=ps) (hok : ∀ p∈ps,p.Ok) (h8 : n≤1000) (z : Int) (hz : least ps=z) :
    Calls Tryz.prog 225 #[.pointer (some ⟨g,0,none⟩)] w fun e w'=>e = .returned (.int .i64 z)∧Below w.heap.size w w':=by
  have hlm:=least_marks ps
  have hpn : ps.length=n:=by rw [hn,← hl,List.length_map]
  rw [hpn,hz] at hlm
  have HM:=fun q w' (hb : Below w.heap.size w w')=>Lib.hid (mo_marks g ru a n c l ps t d k m q w' (hA.on hb) (hr.on hb) hn hl hok h8)
  have h0:=marksTo_len ps 0 n
  have h1:=marksTo_len ps 1 n
  obtain ⟨x0,x1⟩:=idx_two w
  have HX:=fun w'=>idx_two w'
  clear hA hr hn hl hok hpn hz x0 x1
  have HM0:=HM 0
  have HM1:=HM 1
  clear HM
  generalize marksTo ps 0 n=L0 at *
  generalize marksTo ps 1 n=L1 at *
  have HMN:=fun (L : List Int) (a' : Option Addr) (c' : Nat) (w' : World) (h : RowI w' .i64 a' L) (h0 : 0<L.length) (h1 : L.length≤1000)=>Lib.hid (sl_min a' L.length c' L w' rfl h h0 (by omega) _ rfl)
  have HLM:=Lib.hid hlm
  have H0 : Hid (L0.length≤1000):=by show L0.length≤1000;omega
  have H1 : Hid (L1.length≤1000):=by show L1.length≤1000;omega
  clear hlm h0 h1
  go_enter Tryz.func225,Tryz.ntmps225
  go_wp2
  go_loopw [7] (fun i wr=>∃ j : Nat,j≤2∧i = .int .i64 j∧Hid (0<j→L0=[])∧Hid (1<j→L1=[])∧Below w.heap.size w wr) (fun i _=>2 - (intOf i).toNat)
  case atStart=>exact ⟨0,by omega,rfl,fun h=>absurd h (by omega),fun h=>absurd h (by omega),Below.refl _ _⟩
  case round =>
    obtain ⟨j,hj,rfl,he0,he1,hbw⟩:=hrel
    obtain ⟨x0,x1⟩:=HX wr
    rcases (show j=0∨j=1∨j=2 by omega) with rfl|rfl|rfl
    · cases L0 with
      | nil =>
        have HMA:=HM0 wr hbw
        go_wp2_with (first|(go_at_call 251;(with_reducible refine HMA.out.mono ?_);intro e9 w2 hY;obtain ⟨a2,c2,rfl,-,hrow2,hb2⟩:=hY)|fail)
        go_roundw
        case rel=>exact ⟨1,by omega,by go_num,fun _=>trivial,fun h=>absurd h (by omega),on_below hbw hb2⟩
        case measure=>simp [intOf] <;> omega
      | cons x r =>
        have HMA:=HM0 wr hbw
        have hpos : Hid (0<(x::r).length):=Nat.succ_pos _
        have hzz : minOf (x::r)=z:=by rw [HLM.out,if_pos (by simp)]
        have HZ:=Lib.hid hzz
        have HMI:=HMN (x::r)
        rw [hzz] at HMI
        clear hzz HM1
        generalize x::r=L at *
        have hp1 : (0 : Int)<(L.length : Int):=by have:=hpos.out;omega
        go_wp2_with (first|(go_at_call 251;(with_reducible refine HMA.out.mono ?_);intro e9 w2 hY;obtain ⟨a2,c2,rfl,-,hrow2,hb2⟩:=hY;have HMJ:=HMI a2 c2 w2 hrow2 hpos.out H0.out)|(go_at_call 252;(with_reducible refine HMJ.out.mono ?_);rintro e9 w3 ⟨rfl,rfl⟩)|fail)
        go_ret
        exact ⟨rfl,on_below hbw hb2⟩
    · have h00:=he0.out (by omega)
      subst h00
      cases L1 with
      | nil =>
        have HMA:=HM1 wr hbw
        go_wp2_with (first|(go_at_call 251;(with_reducible refine HMA.out.mono ?_);intro e9 w2 hY;obtain ⟨a2,c2,rfl,-,hrow2,hb2⟩:=hY)|fail)
        go_roundw
        case rel=>exact ⟨2,by omega,by go_num,fun _=>trivial,fun _=>trivial,on_below hbw hb2⟩
        case measure=>simp [intOf] <;> omega
      | cons x r =>
        have HMA:=HM1 wr hbw
        have hpos : Hid (0<(x::r).length):=Nat.succ_pos _
        have hzz : minOf (x::r)=z:=by rw [HLM.out,if_neg (by simp),if_pos (by simp)]
        have HMI:=HMN (x::r)
        rw [hzz] at HMI
        clear hzz HM0
        generalize x::r=L at *
        have hp1 : (0 : Int)<(L.length : Int):=by have:=hpos.out;omega
        go_wp2_with (first|(go_at_call 251;(with_reducible refine HMA.out.mono ?_);intro e9 w2 hY;obtain ⟨a2,c2,rfl,-,hrow2,hb2⟩:=hY;have HMJ:=HMI a2 c2 w2 hrow2 hpos.out H1.out)|(go_at_call 252;(with_reducible refine HMJ.out.mono ?_);rintro e9 w3 ⟨rfl,rfl⟩)|fail)
        go_ret
        exact ⟨rfl,on_below hbw hb2⟩
    · have h00:=he0.out (by omega)
      have h01:=he1.out (by omega)
      subst h00 h01
      have hzz : (9223372036854775807 : Int)=z:=by rw [HLM.out,if_neg (by simp),if_neg (by simp)]
      have HZ:=Lib.hid hzz
      clear hzz
      go_wp2_with fail
      go_ret
      exact ⟨ret_int HZ.out,hbw⟩
def MoPost (K : Option Addr→Nat→List R→Prop) (B g : Nat) (ru : Value) (a : Option Addr) (n c : Nat) (ps : List Pt) (t d k m : Int) (S : Nat→Prop) (es : List Ev) (w : World) (e : Ending) (w' : World) : Prop :=
  ∃ l r,e = .returned r∧Sl w.heap.size w' 1 r es.length (es.map evv)∧MoS K B w' g ru a n c l ps t d k m∧Upd S w w'
theorem mo_advance (K : Option Addr→Nat→List R→Prop) (B g : Nat) (ru : Value) (a : Option Addr) (n c : Nat) (l : List Pv) (ps : List Pt) (t d k m : Int) (w : World) (h : MoS K B w g ru a n c l ps t d k m) (hok : ∀ p∈ps,p.Ok) (h8 : n≤1000) :
    Calls Tryz.prog 178 #[.pointer (some ⟨g,0,none⟩)] w (MoPost K B g ru a n c ps t d k (further m ps) (fun b=>b=g) (marksE m ps) w):=by
  have HLE:=Lib.hid (mo_least g ru a n c l ps t d k m w h.blk h.rowp h.len h.map hok h8 _ rfl)
  have HH:=Lib.hid h
  by_cases hle : least ps≤m
  · have hfm:=Lib.hid (show further m ps=m from if_pos hle)
    have hme:=Lib.hid (show marksE m ps=[] from if_pos hle)
    have hzz : least ps≤m:=hle
    clear hle h hok
    generalize least ps=z at *
    go_enter Tryz.func178,Tryz.ntmps178
    go_wp2_with (first|(go_at_call 225;(with_reducible refine HLE.out.mono ?_);rintro e9 w1 ⟨rfl,hb1⟩;obtain ⟨hg,-,-,-,-,-,-,-,-,-,-,p5,x5⟩:=(HH.out.blk.on hb1).cells6)|fail)
    go_ret
    rw [hfm.out,hme.out]
    exact ⟨l,.slice none 0 0,rfl,Sl.nil _ _ _,HH.out.on hb1,Upd.of_below hb1 (fun q h1 h2=>by omega)⟩
  · have hfm:=Lib.hid (show further m ps=least ps from if_neg hle)
    have hme:=Lib.hid (show marksE m ps=[.mark (least ps)] from if_neg hle)
    have hzz : m<least ps:=by omega
    clear hle h hok
    generalize least ps=z at *
    have hlt' : ¬ (z≤m):=by omega
    go_enter Tryz.func178,Tryz.ntmps178
    go_wp2_with (first|(go_at_call 225;(with_reducible refine HLE.out.mono ?_);rintro e9 w1 ⟨rfl,hb1⟩;obtain ⟨hg,-,-,-,-,-,-,-,-,-,-,p5,x5⟩:=(HH.out.blk.on hb1).cells6)|fail)
    go_ret
    rw [hfm.out,hme.out]
    obtain ⟨h2,hu2⟩:=(HH.out.on hb1).setNow z
    have hba:=(Below.refl (w1.setCell ⟨g,5,none⟩ (.int .i64 z)).heap.size (w1.setCell ⟨g,5,none⟩ (.int .i64 z))).alloc (Nat.le_refl _) (.cells #[.iface 125 (.agg #[.int .i64 z])] 71)
    have hu3 : Upd (fun q=>q=g) w (w1.setCell ⟨g,5,none⟩ (.int .i64 z)):=(Upd.of_below hb1 (fun q h1 h2=>by omega)).trans hu2 (fun _ _ h=>h)
    exact ⟨l,_,rfl,evi_row (.mark z) _ rfl (by simp [World.setCell]) hu3.size,h2.on hba,hu3.alloc _⟩
theorem set_pat {ps : List Pt} {i : Nat} (h : i<ps.length) : ps.set i (pat ps i)=ps:=by
  rw [pat_lt h,List.set_getElem_self]
theorem rec_alloc (w : World) (x y z : Value) : Below w.heap.size w (w.alloc (.cells #[x,y,z] 54)):=(Below.refl w.heap.size w).alloc (Nat.le_refl _) _
theorem mo_settle (K : Option Addr→Nat→List R→Prop) (B g : Nat) (ru : Value) (a : Option Addr) (n c : Nat) (l : List Pv) (ps : List Pt) (t d k m : Int) (i : Nat) (w : World) (h : MoS K B w g ru a n c l ps t d k m) (hi : i<n) (h400 : ∀ p∈ps,p.recs.length≤400) (hn8 : n≤1000) :
    Calls Tryz.prog 177 #[.pointer (some ⟨g,0,none⟩),.int .i64 i] w (MoPost K B g ru a n c (ps.set i (settled (pat ps i))) t d k m (fun b=>(Value.slice a n c).ownBlock=some b) (faults (pat ps i) i) w):=by
  have hil : i<l.length:=by rw [← h.len];exact hi
  obtain ⟨b,off,rfl,hBb,hbl,hbg,hfr⟩:=h.at_ i hil
  have hpi:=h.pat i hil
  have hip : i<ps.length:=by rw [← h.plen];exact hi
  have h4:=h400 _ (pat_mem hip)
  have hSP:=set_pat hip
  have hvo:=h.ok _ (List.getElem_mem hil)
  have HPK:=fun w' (h' : MoS K B w' g ru (some ⟨b,off,none⟩) n c l ps t d k m) (v : Pv) (hv : l[i]=v) (x : Int)=>h'.poke i 8 hil (by omega) v hv { v.p with is:=x } (.int .i64 x) rfl rfl
  rw [← hpi] at h4 hSP ⊢
  have hcell:=fun w' (h' : MoS K B w' g ru (some ⟨b,off,none⟩) n c l ps t d k m)=>h'.rowp.cell i hil
  obtain ⟨hgl,-,-,-,-,-,-,p3,-,-,-,-,-⟩:=h.blk.cells6
  have HH:=Lib.hid h
  clear hpi h400 h
  generalize hv : l[i]=v at *
  have HV:=Lib.hid hv
  clear hv
  have HNX1:=fun h=>Lib.hid (mo_next_one v w hvo h4 h)
  have HNX0:=fun h=>Lib.hid (mo_next_none v w h4 h)
  have f8:=hfr 8 (by omega)
  have hil2 : (i : Int)<(n : Int):=by omega
  obtain ⟨hbb,r0,r1,r2,r3,r4,r5,r6,r7,r8,r9⟩:=hcell w HH.out
  obtain ⟨⟨⟨kd,bd,pc,wn,sg⟩,recs,er,rd,is,tl⟩,av,cv⟩:=v
  simp only [Pv.val] at HNX1 HNX0 hcell r0 r1 r2 r3 r4 r5 r6 r7 r8 r9 hSP h4 HPK ⊢
  clear hvo hfr
  by_cases hrd : rd<recs.length
  · have HN1:=HNX1 hrd
    have e1 : settled ⟨⟨kd,bd,pc,wn,sg⟩,recs,er,rd,is,tl⟩=⟨⟨kd,bd,pc,wn,sg⟩,recs,er,rd,is,tl⟩:=if_pos hrd
    have e2 : faults ⟨⟨kd,bd,pc,wn,sg⟩,recs,er,rd,is,tl⟩ i=[]:=if_pos hrd
    rw [e1,e2,hSP]
    clear e1 e2 HNX0 HNX1 hcell HPK f8 hrd
    go_enter Tryz.func177,Tryz.ntmps177
    go_wp2_with (first|(go_at_call 224;(with_reducible refine HN1.out.mono ?_);rintro e9 w1 ⟨rfl,hb1⟩)|fail)
    go_ret
    exact ⟨l,.slice none 0 0,rfl,Sl.nil _ _ _,HH.out.on (on_below hb1 ((Below.refl _ _).alloc (Nat.le_refl _) _)),Upd.of_below (on_below hb1 ((Below.refl _ _).alloc (Nat.le_refl _) _)) (fun q h1 h2=>by omega)⟩
  · have HN1:=HNX0 (by omega)
    have HR : Hid (∀ w1,Below w.heap.size w w1→MoS K B (w1.alloc (.cells #[.int .i64 0,.int .i64 0,.string ⟨#[]⟩] 54)) g ru (some ⟨b,off,none⟩) n c l ps t d k m∧Below w.heap.size w (w1.alloc (.cells #[.int .i64 0,.int .i64 0,.string ⟨#[]⟩] 54))):=fun w1 hb1=>⟨HH.out.on (on_below hb1 (rec_alloc w1 _ _ _)),on_below hb1 (rec_alloc w1 _ _ _)⟩
    by_cases her : er=0
    · have e1 : settled ⟨⟨kd,bd,pc,wn,sg⟩,recs,er,rd,is,tl⟩=⟨⟨kd,bd,pc,wn,sg⟩,recs,er,rd,2,tl⟩:=by unfold settled;rw [if_neg hrd,if_pos her]
      have e2 : faults ⟨⟨kd,bd,pc,wn,sg⟩,recs,er,rd,is,tl⟩ i=[]:=by unfold faults;rw [if_neg hrd,if_pos her]
      rw [e1,e2]
      clear e1 e2 hrd HNX0 HNX1
      have her' : ((er : Int) == 0)=true:=by rw [her];rfl
      clear her
      go_enter Tryz.func177,Tryz.ntmps177
      go_upto_region 5 with (first|(go_at_call 224;(with_reducible refine HN1.out.mono ?_);rintro e9 w1 ⟨rfl,hb1⟩)|fail)
      obtain ⟨h2,hb2⟩:=HR.out w1 hb1
      clear r0 r1 r2 r3 r4 r5 r6 r7 r8 r9 p3 hbb f8
      generalize w1.alloc (.cells #[.int .i64 0,.int .i64 0,.string ⟨#[]⟩] 54)=w2 at *
      obtain ⟨hbb,r0,r1,r2,r3,r4,r5,r6,r7,r8,r9⟩:=hcell w2 h2
      have f8:=(sl_free h2.row i hi).2.2 8 (by omega)
      obtain ⟨h3,hu3⟩:=HPK w2 h2 _ rfl 2
      have H3:=Lib.hid h3
      clear h2 h3 HPK hcell
      go_wp2_with fail
      go_ret
      exact ⟨_,.slice none 0 0,rfl,Sl.nil _ _ _,H3.out,(Upd.of_below hb2 (fun q h1 h2=>by omega)).trans hu3 (fun q _ h=>by rw [h];rfl)⟩
    · have e1 : settled ⟨⟨kd,bd,pc,wn,sg⟩,recs,er,rd,is,tl⟩=⟨⟨kd,bd,pc,wn,sg⟩,recs,er,rd,3,tl⟩:=by unfold settled;rw [if_neg hrd,if_neg her]
      have e2 : faults ⟨⟨kd,bd,pc,wn,sg⟩,recs,er,rd,is,tl⟩ i=[.fault i er]:=by unfold faults;rw [if_neg hrd,if_neg her]
      rw [e1,e2]
      clear e1 e2 hrd HNX0 HNX1
      have her' : ((er : Int) == 0)=false:=by rw [beq_eq_false_iff_ne];omega
      clear her
      go_enter Tryz.func177,Tryz.ntmps177
      go_upto_region 5 with (first|(go_at_call 224;(with_reducible refine HN1.out.mono ?_);rintro e9 w1 ⟨rfl,hb1⟩)|fail)
      obtain ⟨h2,hb2⟩:=HR.out w1 hb1
      clear r0 r1 r2 r3 r4 r5 r6 r7 r8 r9 p3 hbb f8
      generalize w1.alloc (.cells #[.int .i64 0,.int .i64 0,.string ⟨#[]⟩] 54)=w2 at *
      obtain ⟨hbb,r0,r1,r2,r3,r4,r5,r6,r7,r8,r9⟩:=hcell w2 h2
      have f8:=(sl_free h2.row i hi).2.2 8 (by omega)
      obtain ⟨h3,hu3⟩:=HPK w2 h2 _ rfl 3
      have H3:=Lib.hid h3
      have hc3:=(h3.rowp.cell i (by rw [List.length_set];exact hil)).2.2.2.2.2.2.2.1
      rw [List.getElem_set_self] at hc3
      simp only at hc3
      clear h2 h3 HPK hcell
      go_wp2_with fail
      go_ret
      have hu4 : Upd (fun q=>(Value.slice (some ⟨b,off,none⟩) n c).ownBlock=some q) w _:=(Upd.of_below hb2 (fun q h1 h2=>by omega)).trans hu3 (fun q _ h=>by rw [h];rfl)
      exact ⟨_,_,rfl,evi_row (.fault i er) _ rfl (by simp [World.setCell]) hu4.size,H3.out.on ((Below.refl _ _).alloc (Nat.le_refl _) _),hu4.alloc _⟩
theorem mo_refused (ra : Option Addr) (rn rc : Nat) (a : Option Addr) (n c : Nat) (l : List Pv) (s : St) (i : Int) (w : World) (hr : RowP w a l) (hn : n=l.length) (hl : l.map (·.p)=s.ps) (hok : s.Ok) (o : Bool) (ho : s.refused i=o) :
    Calls Tryz.prog 226 #[.agg #[.slice ra rn rc,.int .i64 s.timeout,.int .i64 s.drift,.slice a n c,.int .i64 s.clock,.int .i64 s.now],.int .i64 i] w fun e w'=>e = .returned (.bool o)∧Below w.heap.size w w':=by
  have hlen : n=s.ps.length:=by rw [hn,← hl,List.length_map]
  have hn8:=hok.n
  have hb0 : Below w.heap.size w (w.alloc (.cells #[.slice ra rn rc,.int .i64 s.timeout,.int .i64 s.drift,.slice a n c,.int .i64 s.clock,.int .i64 s.now] 191)):=(Below.refl w.heap.size w).alloc (Nat.le_refl _) _
  have HB:=Lib.hid hb0
  have hA:=At.alloc w [.slice ra rn rc,.int .i64 s.timeout,.int .i64 s.drift,.slice a n c,.int .i64 s.clock,.int .i64 s.now] 191
  by_cases h0 : 0≤i∧i<s.ps.length
  · obtain ⟨k,rfl⟩ : ∃ k : Nat,i=k:=⟨i.toNat,by omega⟩
    have hk : k<l.length:=by omega
    have hlk : (l[k]).p=pat s.ps k:=by
      rw [pat_lt (by omega)]
      simp only [← hl,List.getElem_map]
    have hpk:=hok.pt _ (pat_mem (show k<s.ps.length by omega))
    obtain ⟨b,off,rfl,-,-⟩:=hr.row.at_ k hk
    have hr0:=hr.on hb0
    have hcell:=hr0.cell k hk
    have hvo:=hr0.ok _ (List.getElem_mem hk)
    have hmk : (l[k]).p.mark=kk s.ps k:=by rw [hlk];rfl
    have his : (l[k]).p.is=ss s.ps k:=by rw [hlk];rfl
    rw [← hlk] at hpk
    have hro : s.refused (k : Nat)=(decide (1<ss s.ps k) || decide (add s.now s.drift<kk s.ps k)):=by
      unfold St.refused
      rw [decide_eq_false (show ¬ ¬ (0≤(k : Int)∧(k : Int)<s.ps.length) by omega),Bool.false_or,Int.toNat_natCast]
    rw [hro,← hmk,← his] at ho
    have HAD:=fun w'=>Lib.hid (sat_add s.now s.drift w' hok.nw (by have h1 : 0≤s.drift∧s.drift≤9223372036854775807:=hok.dr;omega))
    have HOV:=fun (o : Bool) (ho : decide (1<(l[k]).p.is)=o) w'=>Lib.hid (ho▸mo_over l[k] w' hpk.lo hpk.hi)
    have HMK:=fun w' (h : PvOk w' l[k])=>Lib.hid (mo_mark l[k] w' h hpk _ rfl)
    have hkl : (k : Int)<(n : Int):=by omega
    clear hr hok hro hlk hmk his hpk hl hn hlen h0
    generalize l[k]=v at *
    obtain ⟨⟨⟨kd,bd,pc,wn,sg⟩,recs,er,rd,is,tl⟩,av,cv⟩:=v
    simp only [Pv.val] at HOV HMK hcell ho
    obtain ⟨hbb,r0,r1,r2,r3,r4,r5,r6,r7,r8,r9⟩:=hcell
    generalize (Pt.mark ⟨⟨kd,bd,pc,wn,sg⟩,recs,er,rd,is,tl⟩)=mk at *
    generalize add s.now s.drift=lim at *
    go_enter Tryz.func226,Tryz.ntmps226
    go_upto_region 1 with fail
    generalize w.alloc (.cells #[.slice ra rn rc,.int .i64 s.timeout,.int .i64 s.drift,.slice (some ⟨b,off,none⟩) n c,.int .i64 s.clock,.int .i64 s.now] 191)=w1 at *
    have hP:=At.alloc w1 [.int .i64 kd,.int .i64 bd,.int .i64 pc,.int .i64 wn,.int .i64 sg,.slice av recs.length cv,.int .i64 er,.int .i64 rd,.int .i64 is,.int .i64 tl] 256
    have hbP:=(Below.refl w1.heap.size w1).alloc (Nat.le_refl _) (.cells #[.int .i64 kd,.int .i64 bd,.int .i64 pc,.int .i64 wn,.int .i64 sg,.slice av recs.length cv,.int .i64 er,.int .i64 rd,.int .i64 is,.int .i64 tl] 256)
    have hvo2:=(hvo.on hbP).on (Below.refl _ _).drew
    have hA2:=(hA.on hbP).drew
    obtain ⟨-,s0,-,s1,-,s2,-,s3,-,s4,-,s5,-⟩:=hA.cells6
    go_upto_region 4 with fail
    have hP2:=hP.drew
    have hB2:=Lib.hid (on_below HB.out (on_below hbP (Below.refl _ _).drew))
    clear s0 s1 s2 s3 s4 s5 r0 r1 r2 r3 r4 r5 r6 r7 r8 r9 hbb hA hP hr0 hvo
    generalize w1.alloc (.cells #[.int .i64 kd,.int .i64 bd,.int .i64 pc,.int .i64 wn,.int .i64 sg,.slice av recs.length cv,.int .i64 er,.int .i64 rd,.int .i64 is,.int .i64 tl] 256)=w2 at *
    obtain ⟨-,q0,-,q1,-,q2,-,q3,-,q4,-,q5,-,q6,-,q7,-,q8,-,q9,-⟩:=hP2.ten
    by_cases h1 : 1<is
    · rw [decide_eq_true h1,Bool.true_or] at ho
      subst ho
      have HOV1:=HOV true (decide_eq_true h1)
      clear HOV HMK HAD hkl hA2 hP2
      refine wp_region_any (by kernel_rfl) ?_
      change wpAny _ _ _ _ _ _ _ (World.drew _)
      refine wpAny_ready (rs:=[0]) (by kernel_rfl) (by simp) ?_
      refine AllReady.cons rfl (fun K hK=>?_) AllReady.nil
      go_simp
      refine hK _ _ ?_
      clear hK K
      refine wpAny_ready (rs:=[1]) (by kernel_rfl) (by simp) ?_
      refine AllReady.cons rfl (fun K hK=>?_) AllReady.nil
      go_simp
      go_wp2_with (first|(go_at_call 253;(with_reducible refine (HOV1 _).out.mono ?_);rintro e3 w3 ⟨rfl,hb3⟩)|fail)
      refine wpAny_ready (rs:=[2]) (by kernel_rfl) (by simp) ?_
      refine AllReady.cons rfl (fun K hK=>?_) AllReady.nil
      go_simp
      refine hK _ _ ?_
      clear hK K
      refine wpAny_take (i:=3) (v:=undef) rfl (by kernel_rfl) (by kernel_rfl) (by kernel_rfl) (fun _ _ _ h=>h) (Or.inr ⟨by kernel_rfl,rfl⟩) ?_
      refine wpAny_take (i:=4) (v:=undef) rfl (by kernel_rfl) (by kernel_rfl) (by kernel_rfl) (fun _ _ _ h=>h) (Or.inr ⟨by kernel_rfl,rfl⟩) ?_
      refine wpAny_take (i:=5) (v:=undef) rfl (by kernel_rfl) (by kernel_rfl) (by kernel_rfl) (fun _ _ _ h=>h) (Or.inr ⟨by kernel_rfl,rfl⟩) ?_
      refine wpAny_take (i:=6) (v:=undef) rfl (by kernel_rfl) (by kernel_rfl) (by kernel_rfl) (fun _ _ _ h=>h) (Or.inr ⟨by kernel_rfl,rfl⟩) ?_
      refine wpAny_take (i:=7) (v:=undef) rfl (by kernel_rfl) (by kernel_rfl) (by kernel_rfl) (fun _ _ _ h=>h) (Or.inr ⟨by kernel_rfl,rfl⟩) ?_
      refine wpAny_take (i:=8) (v:=undef) rfl (by kernel_rfl) (by kernel_rfl) (by kernel_rfl) (fun _ _ _ h=>h) (Or.inr ⟨by kernel_rfl,rfl⟩) ?_
      refine wpAny_take (i:=9) (v:=undef) rfl (by kernel_rfl) (by kernel_rfl) (by kernel_rfl) (fun _ _ _ h=>h) (Or.inr ⟨by kernel_rfl,rfl⟩) ?_
      refine wpAny_take (i:=10) (v:=undef) rfl (by kernel_rfl) (by kernel_rfl) (by kernel_rfl) (fun _ _ _ h=>h) (Or.inr ⟨by kernel_rfl,rfl⟩) ?_
      refine wpAny_take (i:=11) (v:=undef) rfl (by kernel_rfl) (by kernel_rfl) (by kernel_rfl) (fun _ _ _ h=>h) (Or.inr ⟨by kernel_rfl,rfl⟩) ?_
      refine wpAny_ready (rs:=[12]) (by kernel_rfl) (by simp) ?_
      refine AllReady.cons rfl (fun K hK=>?_) AllReady.nil
      go_simp
      refine hK _ _ ?_
      clear hK K
      refine wpAny_ready (rs:=[13]) (by kernel_rfl) (by simp) ?_
      refine AllReady.cons rfl (fun K hK=>?_) AllReady.nil
      go_simp
      refine hK _ _ ?_
      clear hK K
      refine wpAny_done (by kernel_rfl) ?_ _
      go_wp2_with fail
      go_ret
      exact ⟨rfl,on_below hB2.out hb3⟩
    · have HOV1:=HOV false (decide_eq_false h1)
      rw [decide_eq_false h1,Bool.false_or] at ho
      clear HOV hkl h1
      have HF : ∀ wx,Below w2.drew.heap.size w2.drew wx→wx.cell? ⟨w1.heap.size,0,none⟩=some (.int .i64 kd)∧wx.cell? ⟨w1.heap.size,1,none⟩=some (.int .i64 bd)∧wx.cell? ⟨w1.heap.size,2,none⟩=some (.int .i64 pc)∧wx.cell? ⟨w1.heap.size,3,none⟩=some (.int .i64 wn)∧wx.cell? ⟨w1.heap.size,4,none⟩=some (.int .i64 sg)∧wx.cell? ⟨w1.heap.size,5,none⟩=some (.slice av recs.length cv)∧wx.cell? ⟨w1.heap.size,6,none⟩=some (.int .i64 er)∧wx.cell? ⟨w1.heap.size,7,none⟩=some (.int .i64 rd)∧wx.cell? ⟨w1.heap.size,8,none⟩=some (.int .i64 is)∧wx.cell? ⟨w1.heap.size,9,none⟩=some (.int .i64 tl)∧wx.cell? ⟨w.heap.size,2,none⟩=some (.int .i64 s.drift)∧wx.cell? ⟨w.heap.size,5,none⟩=some (.int .i64 s.now):=fun wx hx=>by
        obtain ⟨-,t0,-,t1,-,t2,-,t3,-,t4,-,t5,-,t6,-,t7,-,t8,-,t9,-⟩:=(hP2.on hx).ten
        obtain ⟨-,s0,-,s1,-,s2,-,s3,-,s4,-,s5,-⟩:=(hA2.on hx).cells6
        exact ⟨t0,t1,t2,t3,t4,t5,t6,t7,t8,t9,s2,s5⟩
      have HMK1:=fun wx (hx : Below w2.drew.heap.size w2.drew wx)=>HMK wx (hvo2.on hx)
      clear HMK hvo2 hA2 hP2
      go_region_held3 (fun wx=>wx.cell? ⟨w1.heap.size,0,none⟩=some (.int .i64 kd)∧wx.cell? ⟨w1.heap.size,1,none⟩=some (.int .i64 bd)∧wx.cell? ⟨w1.heap.size,2,none⟩=some (.int .i64 pc)∧wx.cell? ⟨w1.heap.size,3,none⟩=some (.int .i64 wn)∧wx.cell? ⟨w1.heap.size,4,none⟩=some (.int .i64 sg)∧wx.cell? ⟨w1.heap.size,5,none⟩=some (.slice av recs.length cv)∧wx.cell? ⟨w1.heap.size,6,none⟩=some (.int .i64 er)∧wx.cell? ⟨w1.heap.size,7,none⟩=some (.int .i64 rd)∧wx.cell? ⟨w1.heap.size,8,none⟩=some (.int .i64 is)∧wx.cell? ⟨w1.heap.size,9,none⟩=some (.int .i64 tl)∧wx.cell? ⟨w.heap.size,2,none⟩=some (.int .i64 s.drift)∧wx.cell? ⟨w.heap.size,5,none⟩=some (.int .i64 s.now))
        (first|(with_reducible exact HF _ (Below.refl _ _))|(with_reducible exact HF _ hb3)|(with_reducible exact HF _ hb34)|fail)
        (first|(go_at_call 253;(with_reducible refine (HOV1 _).out.mono ?_);rintro e3 w3 ⟨rfl,hb3⟩)|(go_at_call 254;(with_reducible refine (HMK1 _ hb3).out.mono ?_);rintro e4 w4 ⟨rfl,hb4⟩;have hb34:=on_below hb3 hb4)|(go_at_call 77;(with_reducible refine (HAD _).out.mono ?_);rintro e5 w5 ⟨rfl,rfl⟩)|fail)
      all_goals (go_wp2_with fail;go_ret)
      all_goals exact ⟨rfl,on_below hB2.out hb34⟩
  · have hro : s.refused i=true:=by unfold St.refused;rw [decide_eq_true h0,Bool.true_or,Bool.true_or]
    rw [hro] at ho
    subst ho
    rw [← hlen] at h0
    clear hr hok hlen hro hl hn hA
    by_cases h1 : i<0
    · clear h0
      go_enter Tryz.func226,Tryz.ntmps226
      go_wp2
      go_ret
      exact ⟨rfl,HB.out⟩
    · have h1' : 0≤i:=by omega
      have h2 : (n : Int)≤i:=by omega
      clear h0 h1
      go_enter Tryz.func226,Tryz.ntmps226
      go_wp2
      go_ret
      exact ⟨rfl,HB.out⟩
end Go.Proofs.YtmimfkhkilijcaaGreatDoor
