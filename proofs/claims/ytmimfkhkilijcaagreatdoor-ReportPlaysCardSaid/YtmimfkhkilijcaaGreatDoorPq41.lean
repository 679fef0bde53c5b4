/- KConfC; RepMore; RepCh; RepReads; RepParse: what is reached of them. -/
import Derived.Test.YtmimfkhkilijcaaGreatDoorPq37
import Derived.Test.YtmimfkhkilijcaaGreatDoorPq09
import Derived.Deep.RegionHeld3
import Derived.Test.YtmimfkhkilijcaaGreatDoorPq06
import Derived.Test.YtmimfkhkilijcaaGreatDoorPq38
import Derived.Test.YtmimfkhkilijcaaGreatDoorPq40
import Derived.Test.YtmimfkhkilijcaaGreatDoorPq39
import Derived.Deep.DeepCutAuto
import Derived.Test.YtmimfkhkilijcaaGreatDoorPq30
set_option linter.unusedVariables false
set_option linter.unusedSimpArgs false
set_option maxRecDepth 100000
set_option maxHeartbeats 8000000
namespace Go.Proofs.YtmimfkhkilijcaaGreatDoor
open Go.ChangeShapes Go.WideShapes Go.ChangeAt Go.RowKit
open PWord
open Go.Lib (itoa)
theorem info_str : (Tryz.prog.info? 9).map (fun i=>(i.zero,i.size,i.bytes))=some (some (.string ByteArray.empty),1,16):=by kernel_rfl
end Go.Proofs.YtmimfkhkilijcaaGreatDoor
namespace Go.Proofs.YtmimfkhkilijcaaGreatDoor
open Go.ChangeShapes Go.WideShapes Go.ChangeAt Go.RowKit
open PWord PSign PHex PQuote
theorem sv_logs (ls : List (List UInt8)) (l : List UInt8) : sv ((ls++[l]).map bstr)=sv (ls.map bstr)++[.string (bstr l)]:=by
  rw [List.map_append]
  unfold sv
  rw [List.map_append]
  rfl
theorem rd_logC (U : List UInt8→Option (List UInt8)) (hU : UOK U) (r : Rdr) (x : List UInt8) (hx : x.length≤4096) (hsz : r.size≤200000) (B g : Nat) (w : World) (he : EnvE w) (h : RdrC B w g r) (hB : B≤w.heap.size) (o : Option Rdr) (ho : rdLog U r x=o) :
    Calls Tryz.prog 88 #[.pointer (some ⟨g,0,none⟩),.string (bstr x)] w (RdPost B g r o w):=by
  obtain ⟨v1,v2,v3,O⟩:=h
  obtain ⟨⟨⟨rs,rt,rdd⟩,ls,cs⟩,hd⟩:=r
  simp only at O
  unfold Rdr.size at hsz
  simp only at hsz
  obtain ⟨a1,k1',rfl⟩:=O.s1.shape
  obtain ⟨a2,k2',rfl⟩:=O.s2.shape
  obtain ⟨a3,k3',rfl⟩:=O.s3.shape
  obtain ⟨hg,c0,c1,c2,c3,c4,c5⟩:=O.cells
  unfold rdLog at ho
  cases hp : Lib.hasPrefix x tLog with
  | false =>
    rw [hp,if_neg (fun e=>by cases e.1)] at ho
    obtain rfl : none=o:=ho
    have HC : ∀ w,Hid (Calls Tryz.prog 135 #[.string (bstr x),.string ⟨#[108,111,103,32]⟩] w fun e w'=>e = .returned (.tuple #[.string (bstr x),.bool false])∧w=w'):=fun w=>cut_no x tLog hp w
    go_enter Tryz.func88,Tryz.ntmps88
    go_wp2_with (first|(go_at_call 135;(with_reducible refine (HC _).out.mono ?_);rintro e w2 ⟨rfl,rfl⟩)|fail)
    go_ret
    exact ⟨rfl,⟨_,_,_,O⟩,Below.refl _ _⟩
  | true =>
    rw [hp] at ho
    have hpl:=pre_log hp
    have HC : ∀ w,Hid (Calls Tryz.prog 135 #[.string (bstr x),.string ⟨#[108,111,103,32]⟩] w fun e w'=>e = .returned (.tuple #[.string (bstr (x.drop 4)),.bool true])∧w=w'):=fun w=>cut_yes x tLog (x.drop 4) hpl.symm w
    by_cases hc : cs=[]
    · subst hc
      rw [if_pos ⟨rfl,rfl⟩] at ho
      obtain ⟨y,hy⟩ : ∃ y,x.drop 4=y:=⟨_,rfl⟩
      have hyl : y.length≤4096:=by rw [← hy,List.length_drop];omega
      rw [hy] at ho HC
      have HQ:=fun z hz=>Lib.hid (q_unq U hU (bstr y) w he.qu (by rw [tx_size];exact hyl) z hz)
      clear hpl hy hp hx
      cases hu : U y with
      | none =>
        rw [hu] at ho
        obtain rfl : none=o:=ho
        have HQ2 : Hid (Calls Tryz.prog 127 #[.string (bstr y)] w fun e w'=>e = .returned (.tuple #[.string (bstr []),.bool false])∧Below w.heap.size w w'):=HQ none hu
        clear HQ hu
        go_enter Tryz.func88,Tryz.ntmps88
        go_wp2_with (first|(go_at_call 135;(with_reducible refine (HC _).out.mono ?_);rintro e w2 ⟨rfl,rfl⟩)|(go_at_call 127;(with_reducible refine HQ2.out.mono ?_);rintro e w3 ⟨rfl,hb3⟩)|fail)
        go_ret
        exact ⟨rfl,⟨_,_,_,O.on hb3⟩,hb3.mono hB⟩
      | some l =>
        rw [hu] at ho
        obtain rfl : some (⟨⟨⟨rs,rt,rdd⟩,ls++[l],[]⟩,hd⟩ : Rdr)=o:=ho
        have HQ2 : Hid (Calls Tryz.prog 127 #[.string (bstr y)] w fun e w'=>e = .returned (.tuple #[.string (bstr l),.bool true])∧Below w.heap.size w w'):=HQ (some l) hu
        clear HQ hu
        obtain ⟨i0,hi,hz0,hz1,hz2⟩:=info_parts info_str
        have hm1 : ls.length+1≤maxLen:=by unfold maxLen;omega
        obtain ⟨lb,hlb⟩ : ∃ lb,bstr l=lb:=⟨_,rfl⟩
        rw [hlb] at HQ2
        have HLB:=Lib.hid hlb
        clear hlb
        go_enter Tryz.func88,Tryz.ntmps88
        go_wp2_with (first|(go_at_call 135;(with_reducible refine (HC _).out.mono ?_);rintro e w2 ⟨rfl,rfl⟩)|(go_at_call 127;(with_reducible refine HQ2.out.mono ?_);rintro e w3 ⟨rfl,hb3⟩;have hO:=O.on hb3;obtain ⟨hg3,d0,d1,d2,d3,d4,d5⟩:=hO.cells;have hB3:=Nat.le_trans hB hb3.size)|(at_builtin;refine wpList_append_sl _ rfl (.tmp 36) (.tmp 38) 25 25 rfl 9 i0 _ 16 Tryz.underlying25 hi hz0 hz1 hz2 rfl rfl (hO.s2.alloc _) _ 1 [.string lb] rfl (src_oneN Tryz.underlying25 _ (.string lb) _ _ rfl rfl) hm1 (by omega) (by simp;omega) ?_;intro v7 w7 k1 k2 k3;obtain ⟨ay,ky,rfl⟩:=k1.shape;have hM:=Own3.push2 hO hB3 ((Below.refl w3.heap.size w3).alloc (Nat.le_refl _) _) k1 k2 k3;have hA7:=hM.2.2;have y0:=(hA7.2 3 (by simp)).1;have y1:=(hA7.2 3 (by simp)).2;have y2:=hA7.1)|fail)
        go_ret
        exact ⟨rfl,⟨_,_,_,by
          show Own3 B _ g _ _ _ rt rdd hd _ (ls++[l]).length _ _ (sv ((ls++[l]).map bstr)) _
          rw [sv_logs,HLB.out,List.length_append]
          exact hM.1⟩,((hb3.mono hB).alloc hB3 _).trans hM.2.1⟩
    · rw [if_neg (fun e=>hc e.2)] at ho
      obtain rfl : none=o:=ho
      have hcl : (0 : Int)<(cs.length : Int):=by have:=List.length_pos_iff.2 hc;omega
      clear hpl
      go_enter Tryz.func88,Tryz.ntmps88
      go_wp2_with (first|(go_at_call 135;(with_reducible refine (HC _).out.mono ?_);rintro e w2 ⟨rfl,rfl⟩)|fail)
      go_ret
      exact ⟨rfl,⟨_,_,_,O⟩,Below.refl _ _⟩
theorem src_chD {P : Program} {tx e' : TypeId} (hk : P.underlying tx=some (.slice e')) (w : World) (b : Bool) (n : Int) (e : TypeId) (N : Nat) (hN : w.heap.size=N) : Src P 2 tx (.slice (some ⟨N,0,none⟩) 1 1) 1 [.bool b,.int .i64 n] (w.alloc (.cells #[.bool b,.int .i64 n] e)).drew:=by
  subst hN
  refine Src.ofSlice _ hk ⟨w.heap.size,0,none⟩ 1 1 [.bool b,.int .i64 n] rfl (fun j u hx=>?_) (fun u hx=>?_)
  · have ha:=(At.alloc w [.bool b,.int .i64 n] e).drew
    obtain ⟨hj,rfl⟩:=List.getElem?_eq_some_iff.1 hx
    rw [Addr.add_lit,Nat.zero_add]
    exact (ha.2 j hj).1
  · simp at hx
    rcases hx with rfl|rfl <;> rfl
theorem rd_chC (r : Rdr) (x : List UInt8) (hx : x.length≤1000000) (hsz : r.size≤200000) (B g : Nat) (w : World) (he : EnvW w) (h : RdrC B w g r) (hB : B≤w.heap.size) (o : Option Rdr) (ho : rdCh r x=o) :
    Calls Tryz.prog 89 #[.pointer (some ⟨g,0,none⟩),.string (bstr x)] w (RdPost B g r o w):=by
  obtain ⟨v1,v2,v3,O⟩:=h
  obtain ⟨⟨⟨rs,rt,rdd⟩,ls,cs⟩,hd⟩:=r
  simp only at O
  unfold Rdr.size at hsz
  simp only at hsz
  obtain ⟨a1,k1',rfl⟩:=O.s1.shape
  obtain ⟨a2,k2',rfl⟩:=O.s2.shape
  obtain ⟨a3,k3',rfl⟩:=O.s3.shape
  have HQ:=ch_read (bstr x) w he (by rw [tx_size];exact hx)
  rw [show (bstr x).data.toList=x from rfl] at HQ
  unfold rdCh at ho
  cases hu : PWord.read x with
  | none =>
    rw [hu] at ho HQ
    obtain rfl : none=o:=ho
    have HQ2 : Hid (Calls Tryz.prog 136 #[.string (bstr x)] w fun e w'=>e = .returned (.tuple #[.agg #[.bool false,.int .i64 0],.bool false])∧Below w.heap.size w w'):=HQ
    clear HQ hu hx
    go_enter Tryz.func89,Tryz.ntmps89
    go_wp2_with (first|(go_at_call 136;(with_reducible refine HQ2.out.mono ?_);rintro e w3 ⟨rfl,hb3⟩)|fail)
    go_ret
    exact ⟨rfl,⟨_,_,_,(O.on hb3).on ((Below.refl _ _).alloc (Nat.le_refl _) _)⟩,(hb3.mono hB).alloc (Nat.le_trans hB hb3.size) _⟩
  | some c =>
    obtain ⟨ct,cn⟩:=c
    rw [hu] at ho HQ
    obtain rfl : some (⟨⟨⟨rs,rt,rdd⟩,ls,cs++[(ct,cn)]⟩,hd⟩ : Rdr)=o:=ho
    have HQ2 : Hid (Calls Tryz.prog 136 #[.string (bstr x)] w fun e w'=>e = .returned (.tuple #[.agg #[.bool ct,.int .i64 cn],.bool true])∧Below w.heap.size w w'):=HQ
    clear HQ hu hx
    obtain ⟨i0,hi,hz0,hz1,hz2⟩:=info_parts info_chC
    have hm1 : cs.length+1≤maxLen:=by unfold maxLen;omega
    go_enter Tryz.func89,Tryz.ntmps89
    go_wp2_with (first|(go_at_call 136;(with_reducible refine HQ2.out.mono ?_);rintro e w2 ⟨rfl,hb2⟩)|fail)
    obtain ⟨w3,hw3⟩ : ∃ w3,w2.alloc (.cells #[.bool ct,.int .i64 cn] 50)=w3:=⟨_,rfl⟩
    have hba : Below w2.heap.size w2 (w2.alloc (.cells #[.bool ct,.int .i64 cn] 50)):=(Below.refl _ _).alloc (Nat.le_refl _) _
    have hbx:=(At.alloc w2 [.bool ct,.int .i64 cn] 50).two
    rw [hw3] at hba hbx ⊢
    obtain ⟨hgb,e0,-,e1,-⟩:=hbx
    have hO3:=(O.on hb2).on hba
    have hc3:=on_below hb2 hba
    have hB3:=Nat.le_trans hB hc3.size
    obtain ⟨hg3,d0,d1,d2,d3,d4,d5⟩:=hO3.cells
    have hS3:=fun wx (hx : Below w3.heap.size w3 wx)=>hO3.s3.onW hx
    clear hw3
    go_region_law (first|(refine step_append_own25 rfl (.tmp 19) (.tmp 21) 26 26 rfl 50 i0 _ 16 Tryz.underlying26 hi hz0 hz1 hz2 rfl (.slice a3 cs.length k3') (.slice (some ⟨w3.heap.size,0,none⟩) 1 1) 1 [.bool ct,.int .i64 cn] (by simp [Act.eval,Act.put]) (by simp [Act.eval,Act.put]) (hS3 _ (((Below.refl _ _).alloc (Nat.le_refl _) _).drew)) (src_chD Tryz.underlying26 w3 ct cn 50 _ rfl) hm1 (by omega) (by simp;omega) ?_;intro ay ky w7 k1 k2 k3;have hM:=Own3.push3 hO3 hB3 (((Below.refl w3.heap.size w3).alloc (Nat.le_refl _) (.cells #[.bool ct,.int .i64 cn] 50)).drew) k1 k2 k3;have hA7:=hM.2.2;have y0:=(hA7.2 4 (by simp)).1;have y1:=(hA7.2 4 (by simp)).2;have y2:=hA7.1)|fail)
    all_goals go_wp2
    all_goals go_ret
    all_goals exact ⟨rfl,⟨_,_,_,by
      show Own3 B _ g _ _ _ rt rdd hd _ _ (cs++[(ct,cn)]).length _ _ ((cs++[(ct,cn)]).flatMap chc)
      rw [List.flatMap_append,List.length_append]
      exact hM.1⟩,((hc3.mono hB).alloc hB3 _).drew.trans hM.2.1⟩
theorem rd_reads (U : List UInt8→Option (List UInt8)) (hU : UOK U) (r : Rdr) (x : List UInt8) (hx : x.length≤4096) (hhl : r.head.length≤4096) (hsz : r.size≤200000) (hhd : HdOk r) (h0 : r.head=[]→r=noRdr) (w0 : World) (he : EnvE w0) (hnm : Names w0) (g : Nat) (w : World) (hb : Below w0.heap.size w0 w) (h : RdrC w0.heap.size w g r) (o : Option Rdr) (ho : rd U r x=o) :
    Calls Tryz.prog 42 #[.pointer (some ⟨g,0,none⟩),.string (bstr x)] w (RdPost w0.heap.size g r o w):=by
  have hB:=hb.size
  have hew:=he.on hb
  have hnw:=hnm.on hb
  by_cases hh : r.head=[]
  · obtain rfl:=h0 hh
    have ho2 : rdHead x=o:=by rw [← ho];rfl
    have HH:=Lib.hid (rd_headC x (by omega) w0.heap.size g w hew.wd hnw h hB o ho2)
    obtain ⟨v1,v2,v3,O⟩:=h
    obtain ⟨hg,c0,c1,c2,c3,c4,c5⟩:=O.cells
    clear ho ho2 hh h0 hhd
    go_enter Tryz.func42,Tryz.ntmps42
    go_wp2_with (first|(go_at_call 86;(with_reducible refine HH.out.mono ?_);intro e w2 h2;obtain ⟨rfl,hR,hb2⟩:=h2)|fail)
    go_ret
    exact ⟨rfl,hR,hb2⟩
  · obtain ⟨td,htd⟩:=hhd hh
    obtain ⟨t,d⟩:=td
    unfold rd at ho
    rw [if_neg hh] at ho
    unfold rdMore at ho
    have HR:=fun z hz=>Lib.hid (rd_ruleC r x (by omega) (by omega) hsz t d htd w0.heap.size g w hew.wd hnw h hB z hz)
    have HL:=fun z hz wx (h1 : Below w0.heap.size w0 wx) (h2 : RdrC w0.heap.size wx g r)=>Lib.hid (rd_logC U hU r x hx hsz w0.heap.size g wx (he.on h1) h2 h1.size z hz)
    have HC:=fun z hz wx (h1 : Below w0.heap.size w0 wx) (h2 : RdrC w0.heap.size wx g r)=>Lib.hid (rd_chC r x (by omega) hsz w0.heap.size g wx (he.on h1).wd h2 h1.size z hz)
    obtain ⟨v1,v2,v3,O⟩:=h
    obtain ⟨hg,c0,c1,c2,c3,c4,c5⟩:=O.cells
    have heq : (r.head == [])=false:=by simpa using hh
    cases h1 : rdRule r x with
    | some r' =>
      rw [h1] at ho
      obtain rfl : some r'=o:=ho
      have HR2:=HR _ h1
      clear HR HL HC h1 htd hh h0
      go_enter Tryz.func42,Tryz.ntmps42
      go_wp2_with (first|(go_at_call 87;(with_reducible refine HR2.out.mono ?_);intro e w2 h2;obtain ⟨rfl,hR,hb2⟩:=h2)|fail)
      go_ret
      exact ⟨rfl,hR,hb2⟩
    | none =>
      rw [h1] at ho
      have HR2:=HR _ h1
      clear HR
      cases h2 : rdLog U r x with
      | some r' =>
        rw [h2] at ho
        obtain rfl : some r'=o:=ho
        have HL2:=HL _ h2
        clear HL HC h1 h2 htd hh h0
        go_enter Tryz.func42,Tryz.ntmps42
        go_wp2_with (first|(go_at_call 87;(with_reducible refine HR2.out.mono ?_);intro e w2 h2;obtain ⟨rfl,hR,hb2⟩:=h2;have HL3:=HL2 w2 (hb.trans hb2) hR)|(go_at_call 88;(with_reducible refine HL3.out.mono ?_);intro e w3 h3;obtain ⟨rfl,hR3,hb3⟩:=h3)|fail)
        go_ret
        exact ⟨rfl,hR3,hb2.trans hb3⟩
      | none =>
        rw [h2] at ho
        have HL2:=HL _ h2
        have HC2:=HC _ ho
        clear HL HC h1 h2 htd hh h0 ho
        cases o with
        | none =>
          go_enter Tryz.func42,Tryz.ntmps42
          go_wp2_with (first|(go_at_call 87;(with_reducible refine HR2.out.mono ?_);intro e w2 h2;obtain ⟨rfl,hR,hb2⟩:=h2;have HL3:=HL2 w2 (hb.trans hb2) hR)|(go_at_call 88;(with_reducible refine HL3.out.mono ?_);intro e w3 h3;obtain ⟨rfl,hR3,hb3⟩:=h3;have HC3:=HC2 w3 ((hb.trans hb2).trans hb3) hR3)|(go_at_call 89;(with_reducible refine HC3.out.mono ?_);intro e w4 h4;obtain ⟨rfl,hR4,hb4⟩:=h4)|fail)
          go_ret
          exact ⟨rfl,hR4,(hb2.trans hb3).trans hb4⟩
        | some r' =>
          go_enter Tryz.func42,Tryz.ntmps42
          go_wp2_with (first|(go_at_call 87;(with_reducible refine HR2.out.mono ?_);intro e w2 h2;obtain ⟨rfl,hR,hb2⟩:=h2;have HL3:=HL2 w2 (hb.trans hb2) hR)|(go_at_call 88;(with_reducible refine HL3.out.mono ?_);intro e w3 h3;obtain ⟨rfl,hR3,hb3⟩:=h3;have HC3:=HC2 w3 ((hb.trans hb2).trans hb3) hR3)|(go_at_call 89;(with_reducible refine HC3.out.mono ?_);intro e w4 h4;obtain ⟨rfl,hR4,hb4⟩:=h4)|fail)
          go_ret
          exact ⟨rfl,hR4,(hb2.trans hb3).trans hb4⟩
theorem cuts_free (c : UInt8) : ∀ (k : Nat) (l : List UInt8),l.count c≤k→∀ x∈cuts c k l,c∉x:=by
  intro k
  induction k with
  | zero =>
    intro l h x hx
    have hl : c∉l:=List.count_eq_zero.1 (by omega)
    rw [cuts_none c 0 l hl] at hx
    rw [List.mem_singleton.1 hx];exact hl
  | succ k ih =>
    intro l h x hx
    by_cases hc : c∈l
    · obtain ⟨a,b,rfl,ha⟩:=part_at c l hc
      rw [cuts_some c k a b ha] at hx
      rcases List.mem_cons.1 hx with rfl|hx
      · exact ha
      · refine ih b ?_ x hx
        rw [List.count_append,List.count_cons_self] at h
        omega
    · rw [cuts_none c _ l hc] at hx
      rw [List.mem_singleton.1 hx];exact hc
theorem lines_10 (t : List UInt8) : ∀ l∈lines t,(10 : UInt8)∉l:=cuts_free 10 _ t (Nat.le_refl _)
theorem glue_nil {L : List (List UInt8)} (hL : L≠[]) (h : glue 10 L=[]) : L=[[]]:=by
  match L,hL,h with
  | [x],_,h=>rw [show x=[] from h]
  | x::y::r,_,h=>rw [glue_cons] at h;simp at h
def ScrPost (P : Scr×Nat) (w : World) (e : Ending) (w' : World) : Prop :=
  ∃ a n c b m c2 q nq c3,e = .returned (.tuple #[.agg #[.slice a n c,.int .i64 P.1.cfg.timeout,.int .i64 P.1.cfg.drift,.slice b m c2,.slice q nq c3],.int .i64 (P.2 : Int)])∧CaseC w' a n c P.1.cfg.timeout P.1.cfg.drift b m c2 q nq c3 P.1.cfg.rules (P.1.logs.map bstr) P.1.chs∧Below w.heap.size w w'
theorem ScrPost.none {k : Nat} {w w' : World} {e : Ending} (he : e = .returned (.tuple #[.agg #[.slice none 0 0,.int .i64 0,.int .i64 0,.slice none 0 0,.slice none 0 0],.int .i64 (k : Int)])) (hb : Below w.heap.size w w') : ScrPost (noScr,k) w e w' :=
  ⟨_,_,_,_,_,_,_,_,_,he,⟨⟨fun i hi=>(Nat.not_lt_zero _ hi).elim⟩,rfl,Nat.le_refl _,Nat.zero_le _,fun r hr=>absurd hr List.not_mem_nil,zero64,zero64,⟨fun i hi=>(Nat.not_lt_zero _ hi).elim⟩,rfl,Nat.le_refl _,Nat.zero_le _,⟨fun i hi=>(Nat.not_lt_zero _ hi).elim⟩,rfl,Nat.le_refl _,Nat.zero_le _,fun r hr=>absurd hr List.not_mem_nil,fun r hr=>absurd hr List.not_mem_nil⟩,hb⟩
theorem sl_cap3 {B : Nat} {w : World} {size : Nat} {a : Option Addr} {n m c : Nat} {xs : List Value} (h : Sl B w size (.slice a n c) m xs) : n=m∧m≤c∧c≤maxLen:=by
  rcases h.2 with ⟨h1,h2⟩|⟨g,off,cap,h1,h2,h3,h4,h5,_⟩
  · cases h1;exact ⟨h2.symm,by omega,by unfold maxLen;omega⟩
  · cases h1;exact ⟨rfl,h4,h5⟩
theorem Own3.case {B : Nat} {w : World} {g : Nat} {a : Option Addr} {n c : Nat} {b : Option Addr} {m c2 : Nat} {q : Option Addr} {nq c3 : Nat} {s : Scr} {hd : List UInt8} (o : Own3 B w g (.slice a n c) (.slice b m c2) (.slice q nq c3) s.cfg.timeout s.cfg.drift hd s.cfg.rules.length s.logs.length s.chs.length (rlv s.cfg.rules) (sv (s.logs.map bstr)) (s.chs.flatMap chc)) (hs : s.Ok) : CaseC w a n c s.cfg.timeout s.cfg.drift b m c2 q nq c3 s.cfg.rules (s.logs.map bstr) s.chs:=by
  have h1:=o.s1
  rw [rlv_flat] at h1
  obtain ⟨a',k',e1,r1⟩:=rowg_of_sl (f:=Rul.cells) h1 rfl (fun _=>rfl)
  obtain ⟨n2,a2',k2',e2,h5,r2⟩:=rows_of_sl o.s2
  obtain ⟨a3',k3',e3,r3⟩:=rowg_of_sl (f:=chc) o.s3 rfl (fun _=>rfl)
  obtain ⟨p1,p2,p3⟩:=sl_cap3 o.s1
  obtain ⟨p4,p5,p6⟩:=sl_cap3 o.s2
  obtain ⟨p7,p8,p9⟩:=sl_cap3 o.s3
  cases e1;cases e2;cases e3
  exact ⟨r1,rfl,p2,p3,hs.fits.rules,hs.fits.timeout,hs.fits.drift,r2,rfl,h5,p6,r3,rfl,p8,p9,hs.chs,fun x hx=>by
    obtain ⟨l,hl,rfl⟩:=List.mem_map.1 hx
    rw [tx_size]
    have:=hs.logs l hl
    unfold maxLen;omega⟩
theorem Own3.aside {B : Nat} {w : World} {g : Nat} {v1 v2 v3 : Value} {t d : Int} {h : List UInt8} {n1 n2 n3 : Nat} {x1 x2 x3 : List Value} (o : Own3 B w g v1 v2 v3 t d h n1 n2 n3 x1 x2 x3) {p : Addr} (hp : p.block<B) (u : Value) : Own3 B (w.setCell p u) g v1 v2 v3 t d h n1 n2 n3 x1 x2 x3 :=
  ⟨o.blk.upd ((Upd.refl (fun k=>k=p.block) w).setCell (fun _=>rfl) u) (by have:=o.lo;omega),o.lo,o.s1.set_other hp u,o.s2.set_other hp u,o.s3.set_other hp u,o.f1,o.f2,o.f3,o.a12,o.a13,o.a23⟩
theorem res_below {w wr : World} {g : Nat} (hb : Below w.heap.size w wr) (hg : w.heap.size≤g) (x0 x1 x2 x3 x4 : Value) : Below w.heap.size w (((((wr.setCell ⟨g,0,none⟩ x0).setCell ⟨g,1,none⟩ x1).setCell ⟨g,2,none⟩ x2).setCell ⟨g,3,none⟩ x3).setCell ⟨g,4,none⟩ x4) :=
  hb.upd (((((((Upd.refl (fun k=>k=g) wr).setCell (p:=⟨g,0,none⟩) (fun _=>rfl) x0).setCell (p:=⟨g,1,none⟩) (fun _=>rfl) x1).setCell (p:=⟨g,2,none⟩) (fun _=>rfl) x2).setCell (p:=⟨g,3,none⟩) (fun _=>rfl) x3).setCell (p:=⟨g,4,none⟩) (fun _=>rfl) x4)) hb.size (fun k _ e=>by rw [e];exact hg)
structure PGo (U : List UInt8→Option (List UInt8)) (P : Scr×Nat) (L : List (List UInt8)) (r : Rdr) (k : Nat) : Prop where
  ne : L≠[]
  ln : ∀ l∈L,(10 : UInt8)∉l∧l.length≤4096
  go : goS U r k L=P
  ok : r.s.Ok
  h0 : r.head=[]→r=noRdr
  hd : HdOk r
  sz : r.size+1≤k
  hl : r.head.length≤4096
theorem PGo.next {U : List UInt8→Option (List UInt8)} (hU : UOK U) {P : Scr×Nat} {x y : List UInt8} {rest : List (List UInt8)} {r r' : Rdr} {k : Nat} (h : PGo U P (x::y::rest) r k) (hr : rd U r x=some r') : PGo U P (y::rest) r' (k+1):=by
  obtain ⟨g1,g2,g3⟩:=rd_ok hU h.ok (fun e=>by rw [h.h0 e]) hr
  refine ⟨by simp,fun l hl=>h.ln l (by simp only [List.mem_cons] at hl ⊢;exact .inr hl),?_,g1,fun e=>absurd e g2,hdOk_rd h.hd hr,by have:=rd_size hr;have:=h.sz;omega,?_⟩
  · rw [← h.go,goS_two,hr]
  · unfold rd at hr
    split at hr
    · unfold rdHead at hr
      split at hr
      · cases hr
      · cases hr;exact (h.ln x (by simp)).2
    · have hk : r'.head=r.head:=by
        unfold rdMore at hr
        split at hr
        · next h1 =>
          cases hr
          unfold rdRule at h1
          split at h1
          · split at h1
            · cases h1
            · cases h1;rfl
          · cases h1
        · split at hr
          · next h1 =>
            cases hr
            unfold rdLog at h1
            split at h1
            · split at h1
              · cases h1
              · cases h1;rfl
            · cases h1
          · unfold rdCh at hr
            split at hr
            · cases hr
            · cases hr;rfl
      rw [hk];exact h.hl
theorem re_parse (U : List UInt8→Option (List UInt8)) (hU : UOK U) (t : List UInt8) (ht : t.length≤100000) (hl : ∀ l∈lines t,l.length≤4096) (w : World) (he : EnvE w) (hnm : Names w) (P : Scr×Nat) (hP : parseS U t=P) :
    Calls Tryz.prog 12 #[.string (bstr t)] w (ScrPost P w):=by
  have hb0 : Below w.heap.size w (w.alloc (.cells #[.slice none 0 0,.int .i64 0,.int .i64 0,.slice none 0 0,.slice none 0 0] 33)):=(Below.refl _ _).alloc (Nat.le_refl _) _
  have hA0:=At.alloc w [.slice none 0 0,.int .i64 0,.int .i64 0,.slice none 0 0,.slice none 0 0] 33
  obtain ⟨w0,hw0⟩ : ∃ w0,w.alloc (.cells #[.slice none 0 0,.int .i64 0,.int .i64 0,.slice none 0 0,.slice none 0 0] 33)=w0:=⟨_,rfl⟩
  rw [hw0] at hb0 hA0
  have hgw : w.heap.size<w0.heap.size:=hA0.1
  have hB1:=At.alloc w0 [.slice none 0 0,.int .i64 0,.int .i64 0,.slice none 0 0,.slice none 0 0,.string (bstr [])] 90
  have hb1 : Below w0.heap.size w0 (w0.alloc (.cells #[.slice none 0 0,.int .i64 0,.int .i64 0,.slice none 0 0,.slice none 0 0,.string (bstr [])] 90)):=(Below.refl _ _).alloc (Nat.le_refl _) _
  have hR1 : RdrC w0.heap.size (w0.alloc (.cells #[.slice none 0 0,.int .i64 0,.int .i64 0,.slice none 0 0,.slice none 0 0,.string (bstr [])] 90)) w0.heap.size noRdr :=
    ⟨_,_,_,⟨hB1,Nat.le_refl _,Sl.nil _ _ _,Sl.nil _ _ _,Sl.nil _ _ _,fun k h=>(by cases h),fun k h=>(by cases h),fun k h=>(by cases h),fun k h=>(by cases h),fun k h=>(by cases h),fun k h=>(by cases h)⟩⟩
  have HG : Hid (PGo U P (lines t) noRdr 1):=⟨lines_ne t,fun l h=>⟨lines_10 t l h,hl l h⟩,hP,noScr_ok,fun _=>rfl,fun h=>absurd rfl h,Nat.le_refl _,Nat.zero_le _⟩
  have HEE:=Lib.hid (he.on hb0)
  have HNM:=Lib.hid (hnm.on hb0)
  have HGL:=Lib.hid (glue_cuts 10 (t.count 10) t)
  have HLL : Hid (lines t=cuts 10 (t.count 10) t):=rfl
  have HUU:=Lib.hid hU
  clear hl hP he hnm hU
  go_enter Tryz.func12,Tryz.ntmps12
  go_wp2
  go_loopw [0,5] (fun tx i wr=>∃ (L : List (List UInt8)) (r : Rdr) (k : Nat),tx = .string (bstr (glue 10 L))∧i = .int .i64 k∧k+(glue 10 L).length≤100001∧Hid (PGo U P L r k)∧RdrC w0.heap.size wr w0.heap.size r∧Below w0.heap.size w0 wr) (fun tx _ _=>strLen tx)
  case atStart=>exact ⟨lines t,noRdr,1,by rw [HLL.out,HGL.out],rfl,by rw [HLL.out,HGL.out];omega,HG,hR1,hb1⟩
  case round =>
    clear HG hR1 hb1 hB1 HGL HLL
    obtain ⟨L,r,k,rfl,rfl,hkl,HG,hR,hb⟩:=hrel
    have hgs:=HG.out
    have hlen : (glue 10 L).length≤100000:=by have:=hgs.sz;omega
    have hRes:=hA0.below hb hgw
    by_cases hA : k≠1∧glue 10 L=[]
    · obtain ⟨hk1,hg0⟩:=hA
      have hL1:=glue_nil hgs.ne hg0
      subst hL1
      have hP : (r.s,0)=P:=by
        rw [← hgs.go]
        show _=(if k≠1∧([] : List UInt8)=[] then (r.s,0) else (noScr,k))
        rw [if_pos ⟨hk1,rfl⟩]
      subst hP
      have hkI : ((k : Int) == 1)=false:=by simp;omega
      have hok:=hgs.ok
      obtain ⟨v1,v2,v3,O⟩:=hR
      obtain ⟨a1,k1',rfl⟩:=O.s1.shape
      obtain ⟨a2,k2',rfl⟩:=O.s2.shape
      obtain ⟨a3,k3',rfl⟩:=O.s3.shape
      obtain ⟨hg,c0,c1,c2,c3,c4,c5⟩:=O.cells
      obtain ⟨hgr,q0,y0,q1,y1,q2,y2,q3,y3,q4,y4⟩:=hRes.five
      obtain ⟨p0,p1,p2,p3,p4⟩:=hRes.put5
      have hC:=(((((O.aside (p:=⟨w.heap.size,0,none⟩) hgw (.slice a1 r.s.cfg.rules.length k1')).aside (p:=⟨w.heap.size,1,none⟩) hgw (.int .i64 r.s.cfg.timeout)).aside (p:=⟨w.heap.size,2,none⟩) hgw (.int .i64 r.s.cfg.drift)).aside (p:=⟨w.heap.size,3,none⟩) hgw (.slice a2 r.s.logs.length k2')).aside (p:=⟨w.heap.size,4,none⟩) hgw (.slice a3 r.s.chs.length k3')).case hok
      have hbb:=res_below (on_below hb0 hb) (Nat.le_refl _) (.slice a1 r.s.cfg.rules.length k1') (.int .i64 r.s.cfg.timeout) (.int .i64 r.s.cfg.drift) (.slice a2 r.s.logs.length k2') (.slice a3 r.s.chs.length k3')
      clear hgs HG hok O
      go_wp2
      exact bodyPost_ret (v:=.tuple #[.agg #[.slice a1 r.s.cfg.rules.length k1',.int .i64 r.s.cfg.timeout,.int .i64 r.s.cfg.drift,.slice a2 r.s.logs.length k2',.slice a3 r.s.chs.length k3'],.int .i64 0]) (by simp [results,Tryz.results12,go_sem,p0,p1,p2,p3,p4,hgr]) rfl ⟨_,_,_,_,_,_,_,_,_,rfl,hC,hbb⟩
    · have hgd : ((k : Int) == 1)=true∨(((k : Int) == 1)=false∧(glue 10 L == [])=false):=by
        by_cases hk : k=1
        · exact .inl (by rw [hk];rfl)
        · refine .inr ⟨by simp;omega,?_⟩
          cases hg : glue 10 L with
          | nil=>exact absurd ⟨hk,hg⟩ hA
          | cons u v=>rfl
      match hLe : L,hgs.ne with
      | [x],_ =>
        have hP : (noScr,k)=P:=by
          rw [← hgs.go]
          show _=(if k≠1∧x=[] then (r.s,0) else (noScr,k))
          rw [if_neg (show ¬ (k≠1∧x=[]) from hA)]
        subst hP
        have hcut:=Lib.hid (str_cut (bstr x) 10 wr (by rw [tx_size];have : x.length≤100000:=hlen;omega))
        rw [show (bstr x).data.toList=x from rfl,cut_none 10 x (hgs.ln x (by simp)).1] at hcut
        have hgl : glue 10 [x]=x:=rfl
        rw [hgl] at hgd ⊢
        have HRS:=Lib.hid hRes
        clear hgs HG hA hLe hgl hlen hkl hRes
        rcases hgd with hgd|⟨hgd,hgx⟩
        all_goals
          go_wp2_with (first|(go_at_call 41;(with_reducible refine hcut.out.mono ?_);rintro e w2 ⟨rfl,nd,rfl⟩;have hbn : Below wr.heap.size wr (wr.drewN nd):=⟨rfl,rfl,rfl,Nat.le_refl _,fun _ _=>rfl⟩;have hR2:=HRS.out.drewN nd;obtain ⟨hgr,q0,y0,q1,y1,q2,y2,q3,y3,q4,y4⟩:=hR2.five;obtain ⟨p0,p1,p2,p3,p4⟩:=hR2.put5)|fail)
          exact bodyPost_ret (v:=.tuple #[.agg #[.slice none 0 0,.int .i64 0,.int .i64 0,.slice none 0 0,.slice none 0 0],.int .i64 (k : Int)]) (by simp [results,Tryz.results12,go_sem,p0,p1,p2,p3,p4,hgr]) rfl (ScrPost.none rfl (res_below (on_below (on_below hb0 hb) hbn) (Nat.le_refl _) _ _ _ _ _))
      | x::y::rest,_ =>
        obtain ⟨hx10,hx4⟩:=hgs.ln x (by simp)
        have hgl : glue 10 (x::y::rest)=x++10::glue 10 (y::rest):=glue_cons 10 x y rest
        have hcut:=Lib.hid (str_cut (bstr (glue 10 (x::y::rest))) 10 wr (by rw [tx_size];omega))
        rw [show (bstr (glue 10 (x::y::rest))).data.toList=glue 10 (x::y::rest) from rfl] at hcut
        have hcs : Lib.cut (glue 10 (x::y::rest)) [10]=(x,glue 10 (y::rest),true):=by rw [hgl];exact cut_some 10 x _ hx10
        rw [hcs] at hcut
        have hsm : (glue 10 (y::rest)).length+1+x.length=(glue 10 (x::y::rest)).length:=by rw [hgl,List.length_append,List.length_cons];omega
        have HRD:=fun o (ho : rd U r x=o) wx (h1 : Below w0.heap.size w0 wx) (h2 : RdrC w0.heap.size wx w0.heap.size r)=>Lib.hid (rd_reads U HUU.out r x hx4 hgs.hl (by have:=hgs.sz;omega) hgs.hd hgs.h0 w0 HEE.out HNM.out w0.heap.size wx h1 h2 o ho)
        have HNX:=fun r' (h : rd U r x=some r')=>hgs.next HUU.out h
        have HGO:=Lib.hid hgs.go
        generalize hT : glue 10 (x::y::rest)=TX at *
        have HSM:=Lib.hid hsm
        clear hgl hcs HG hLe hA hx10 hT hgs hRes
        cases hrd : rd U r x with
        | none =>
          have hP : (noScr,k)=P:=by rw [← HGO.out,goS_two,hrd]
          subst hP
          have HR3:=HRD none hrd
          clear HRD HNX HGO hrd hsm
          rcases hgd with hgd|⟨hgd,hgx⟩
          all_goals
            go_wp2_with (first|(go_at_call 41;(with_reducible refine hcut.out.mono ?_);rintro e w2 ⟨rfl,nd,rfl⟩;have hbn : Below wr.heap.size wr (wr.drewN nd):=⟨rfl,rfl,rfl,Nat.le_refl _,fun _ _=>rfl⟩;have HR4:=HR3 _ (on_below hb hbn) (hR.on hbn))|(go_at_call 42;(with_reducible refine HR4.out.mono ?_);intro e w3 h3;obtain ⟨rfl,hR3,hb3⟩:=h3;have hb4:=(on_below hb hbn).trans hb3;have hR2:=hA0.below hb4 hgw;obtain ⟨hgr,q0,y0,q1,y1,q2,y2,q3,y3,q4,y4⟩:=hR2.five;obtain ⟨p0,p1,p2,p3,p4⟩:=hR2.put5)|fail)
            exact bodyPost_ret (v:=.tuple #[.agg #[.slice none 0 0,.int .i64 0,.int .i64 0,.slice none 0 0,.slice none 0 0],.int .i64 (k : Int)]) (by simp [results,Tryz.results12,go_sem,p0,p1,p2,p3,p4,hgr]) rfl (ScrPost.none rfl (res_below (on_below hb0 hb4) (Nat.le_refl _) _ _ _ _ _))
        | some r' =>
          have HR3:=HRD _ hrd
          have HN3:=Lib.hid (HNX _ hrd)
          clear HRD HNX HGO hrd hsm
          rcases hgd with hgd|⟨hgd,hgx⟩
          all_goals
            go_wp2_with (first|(go_at_call 41;(with_reducible refine hcut.out.mono ?_);rintro e w2 ⟨rfl,nd,rfl⟩;have hbn : Below wr.heap.size wr (wr.drewN nd):=⟨rfl,rfl,rfl,Nat.le_refl _,fun _ _=>rfl⟩;have HR4:=HR3 _ (on_below hb hbn) (hR.on hbn))|(go_at_call 42;(with_reducible refine HR4.out.mono ?_);intro e w3 h3;obtain ⟨rfl,hR3,hb3⟩:=h3;have hb4:=(on_below hb hbn).trans hb3)|fail)
            go_roundw
          all_goals first
            | exact ⟨y::rest,r',k+1,rfl,by go_num,by have:=HSM.out;omega,HN3,hR3,hb4⟩
            | (have:=HSM.out;have h8:=tx_size (glue 10 (y::rest));have h9:=tx_size TX;simp [strLen];omega)
end Go.Proofs.YtmimfkhkilijcaaGreatDoor
