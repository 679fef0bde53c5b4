/- RepRun; Speaks26; RepTold; RepPrint; WReportBack: what is reached of them. -/
import Derived.Test.YtmimfkhkilijcaaGreatDoorWq37
import Derived.Test.YtmimfkhkilijcaaGreatDoorWq41
import Derived.Test.YtmimfkhkilijcaaGreatDoorWq14
import Derived.Test.YtmimfkhkilijcaaGreatDoorWq36
import Derived.Test.YtmimfkhkilijcaaGreatDoorWq35
import Derived.Test.YtmimfkhkilijcaaGreatDoorWq06
import Derived.Test.YtmimfkhkilijcaaGreatDoorWq13
import Derived.BigQuiet
set_option linter.unusedVariables false
set_option linter.unusedSimpArgs false
set_option maxRecDepth 100000
set_option maxHeartbeats 8000000
namespace Go.Proofs.YtmimfkhkilijcaaGreatDoor
open Go.ChangeShapes Go.WideShapes Go.ChangeAt Go.RowKit
open PSign PHex PQuote
open Go.Lib (itoa)
abbrev tLine : List UInt8:=[108,105,110,101]
theorem line2 (x0 : Int) (h0 : in64 x0) (w : World) (he : EnvW w) (N : Nat) (hN : w.heap.size=N) :
    Calls Tryz.prog 47 #[.string ⟨#[108,105,110,101]⟩,.slice (some ⟨N,0,none⟩) 1 1] (w.alloc (.cells #[.int .i64 x0] 3)) fun e w'=>e = .returned (.string (bstr (lineT tLine [x0])))∧Below w.heap.size w w':=by
  subst hN
  have hb : Below w.heap.size w (w.alloc (.cells (iv [x0]).toArray 3)):=(Below.refl _ _).alloc (Nat.le_refl _) _
  have hr:=rowi_made w [x0] 3 (by unfold maxLen;simp) (fun x hx=>by rw [List.mem_singleton.1 hx];exact h0)
  refine (re_line tLine [x0] (some ⟨w.heap.size,0,none⟩) 1 1 _ (he.on hb) hr rfl (by omega) (by decide)).mono ?_
  rintro e w' ⟨rfl,h⟩
  exact ⟨rfl,on_below hb h⟩
theorem glue_le (c : UInt8) : ∀ (L : List (List UInt8)) (l : List UInt8),l∈L→l.length≤(PWord.glue c L).length
  | [],l,h=>by cases h
  | [x],l,h=>by rw [List.mem_singleton.1 h];exact Nat.le_refl _
  | x::y::r,l,h=>by
    rw [PWord.glue_cons,List.length_append,List.length_cons]
    rcases List.mem_cons.1 h with rfl|h
    · omega
    · have:=glue_le c (y::r) l h
      omega
theorem lines_le (t : List UInt8) : ∀ l∈lines t,l.length≤t.length:=fun l h=>by
  have:=glue_le 10 _ l h
  unfold lines at this
  rw [PWord.glue_cuts] at this
  exact this
theorem goS_le {U : List UInt8→Option (List UInt8)} : ∀ (L : List (List UInt8)) (r : Rdr) (n : Nat),(goS U r n L).2≤n+L.length
  | [],r,n=>by show n≤_;omega
  | [x],r,n=>by
    show (if n≠1∧x=[] then (r.s,0) else (noScr,n)).2≤_
    split
    · exact Nat.zero_le _
    · exact Nat.le_add_right _ _
  | x::y::rest,r,n=>by
    rw [goS_two]
    split
    · exact Nat.le_add_right _ _
    · next r' _ =>
      have:=goS_le (U:=U) (y::rest) r' (n+1)
      simp only [List.length_cons] at this ⊢
      omega
theorem cuts_len (c : UInt8) : ∀ (k : Nat) (l : List UInt8),(PWord.cuts c k l).length≤k+1:=by
  intro k
  induction k with
  | zero=>intro l;exact Nat.le_refl _
  | succ k ih =>
    intro l
    by_cases hc : c∈l
    · obtain ⟨a,b,rfl,ha⟩:=PWord.part_at c l hc
      rw [PWord.cuts_some c k a b ha,List.length_cons]
      have:=ih b
      omega
    · rw [PWord.cuts_none c _ l hc];simp
theorem lines_len (t : List UInt8) : (lines t).length≤t.length+1:=by
  have h1:=cuts_len 10 (t.count 10) t
  have h2:=List.count_le_length (a:=(10 : UInt8)) (l:=t)
  unfold lines
  omega
theorem re_run_bad (U : List UInt8→Option (List UInt8)) (hU : UOK U) (t : List UInt8) (ht : t.length≤100000) (hl : ∀ l∈lines t,l.length≤4096) (w : World) (he : EnvE w) (hnm : Names w) (k : Nat) (hk : k≠0) (hP : parseS U t=(noScr,k)) :
    Calls Tryz.prog 16 #[.string (bstr t)] w fun e w'=>e = .returned (.string (bstr (lineT tLine [(k : Int)])))∧Below w.heap.size w w':=by
  have HP : Hid (Calls Tryz.prog 12 #[.string (bstr t)] w fun e w'=>∃ a n c b m c2 q nq c3,e = .returned (.tuple #[.agg #[.slice a n c,.int .i64 0,.int .i64 0,.slice b m c2,.slice q nq c3],.int .i64 (k : Int)])∧Below w.heap.size w w') :=
    (re_parse U hU t ht hl w he hnm _ hP).mono fun e w' ⟨a,n,c,b,m,c2,q,nq,c3,h1,h2,h3⟩=>⟨a,n,c,b,m,c2,q,nq,c3,h1,h3⟩
  have hkl : k≤100002:=by
    have h1:=goS_le (U:=U) (lines t) noRdr 1
    have h2:=lines_len t
    unfold parseS at hP
    rw [hP] at h1
    simp only at h1
    omega
  have HL:=fun wx (hx : EnvW wx) N hN=>Lib.hid (line2 (k : Int) (by unfold in64;omega) wx hx N hN)
  have hk0 : ((k : Int) != 0)=true:=by simp;exact hk
  clear hl hP
  go_enter Tryz.func16,Tryz.ntmps16
  go_wp2_with (first|(go_at_call 12;(with_reducible refine HP.out.mono ?_);intro e w2 h2;obtain ⟨a,n,c,b,m,c2,q,nq,c3,rfl,hb2⟩:=h2;have hba:=hb2.alloc hb2.size (.cells #[.slice a n c,.int .i64 0,.int .i64 0,.slice b m c2,.slice q nq c3] 33);have HL2:=HL _ (he.on hba).wd (w2.heap.size+1) (World.size_alloc _ _))|(go_at_call 47;(with_reducible refine HL2.out.mono ?_);rintro e w3 ⟨rfl,hb3⟩)|fail)
  go_ret
  exact ⟨rfl,on_below hba hb3⟩
theorem re_run_ok (U : List UInt8→Option (List UInt8)) (hU : UOK U) (t : List UInt8) (ht : t.length≤100000) (hl : ∀ l∈lines t,l.length≤4096) (w : World) (he : EnvE w) (hnm : Names w) (s : Scr) (hP : parseS U t=(s,0)) (h1 : s.logs.length≤8) (h2 : s.chs.length≤120) (h3 : s.cfg.rules.length≤5000) (h4 : ∀ l∈s.logs,l.length≤400) (T : List UInt8) (hT : playT s.cfg.timeout s.cfg.drift s.cfg.rules s.logs s.chs=T) :
    Calls Tryz.prog 16 #[.string (bstr t)] w fun e w'=>e = .returned (.string (bstr T))∧Below w.heap.size w w':=by
  have HP : Hid (Calls Tryz.prog 12 #[.string (bstr t)] w fun e w'=>∃ a n c b m c2 q nq c3,e = .returned (.tuple #[.agg #[.slice a n c,.int .i64 s.cfg.timeout,.int .i64 s.cfg.drift,.slice b m c2,.slice q nq c3],.int .i64 0])∧CaseC w' a n c s.cfg.timeout s.cfg.drift b m c2 q nq c3 s.cfg.rules (s.logs.map bstr) s.chs∧Below w.heap.size w w') :=
    (re_parse U hU t ht hl w he hnm _ hP).mono fun e w' ⟨a,n,c,b,m,c2,q,nq,c3,h1,h2,h3⟩=>⟨a,n,c,b,m,c2,q,nq,c3,h1,h2,h3⟩
  have hlm : (s.logs.map bstr).map (fun x=>x.data.toList)=s.logs:=by
    rw [List.map_map]
    exact (List.map_congr_left (g:=id) (fun x _=>rfl)).trans (List.map_id _)
  have HPL:=fun wx (hx : EnvE wx) a n c b m c2 q nq c3 (hC : CaseC wx a n c s.cfg.timeout s.cfg.drift b m c2 q nq c3 s.cfg.rules (s.logs.map bstr) s.chs)=>Lib.hid (re_play wx hx hC ⟨by rw [hC.hm,List.length_map];exact h1,by rw [hC.hnq];exact h2,by rw [hC.hn];exact h3,fun x hx=>by
    obtain ⟨l,hl,rfl⟩:=List.mem_map.1 hx
    rw [tx_size]
    exact h4 l hl⟩ T (by rw [hlm];exact hT))
  clear hl hP h1 h2 h3 h4 hT hlm
  generalize s.cfg.timeout=ti at *
  generalize s.cfg.drift=dr at *
  go_enter Tryz.func16,Tryz.ntmps16
  go_wp2_with (first|(go_at_call 12;(with_reducible refine HP.out.mono ?_);intro e w2 h2;obtain ⟨a,n,c,b,m,c2,q,nq,c3,rfl,hC,hb2⟩:=h2;have hba:=hb2.alloc hb2.size (.cells #[.slice a n c,.int .i64 ti,.int .i64 dr,.slice b m c2,.slice q nq c3] 33);have HL2:=HPL _ (he.on hba) a n c b m c2 q nq c3 (hC.on ((Below.refl _ _).alloc (Nat.le_refl _) _)))|(go_at_call 24;(with_reducible refine HL2.out.mono ?_);rintro e w3 ⟨rfl,hb3⟩)|fail)
  go_ret
  exact ⟨rfl,on_below hba hb3⟩
theorem itoa_1 : itoa 1=[49]:=itoa_one 1 (by omega)
theorem headOf_x : PWord.headOf [120]=none:=by
  cases h : PWord.headOf [120] with
  | none=>rfl
  | some td =>
    obtain ⟨t,d⟩:=td
    have h2:=(PWord.headOf_some h).1
    have h3 : [120]=[115,111,117,114,99,101]++32::PWord.glue 32 ([t,d].map itoa):=h2
    simp at h3
theorem x_parse (U : List UInt8→Option (List UInt8)) : parseS U [120,10]=(noScr,1):=by
  have h1 : lines [120,10]=[[120],[]]:=by
    have:=PWord.cuts_ended 10 [[120]] 1 (by simp) (by simp)
    exact this
  unfold parseS
  rw [h1]
  refine goS_none (by simp) ?_
  unfold rd
  rw [if_pos rfl]
  unfold rdHead
  rw [headOf_x]
end Go.Proofs.YtmimfkhkilijcaaGreatDoor
namespace Go.Proofs.YtmimfkhkilijcaaGreatDoor
open Go.ChangeShapes Go.WideShapes Go.ChangeAt Go.RowKit
open PWord PSign PHex PQuote
def toldB (rs : List Rul) : Bool:=rs.all only && decide (rs.length<100)
open Go.Lib (itoa)
theorem logLine_len {l : List UInt8} (h : l.length≤400) : (logLine l).length≤4006:=by
  have:=PEv.quote_big l
  unfold logLine
  rw [List.length_append]
  show 4+_≤_
  omega
theorem logsT_len : ∀ (ls : List (List UInt8)),(∀ l∈ls,l.length≤400)→(logsT ls).length≤ls.length*4007
  | [],_=>by simp [logsT]
  | l::ls,h=>by
    have h1:=logsT_len ls (fun x hx=>h x (by simp [hx]))
    have h2:=logLine_len (h l (by simp))
    have : logsT (l::ls)=(logLine l++[10])++logsT ls:=rfl
    rw [this]
    simp only [List.length_append,List.length_cons,List.length_nil]
    omega
theorem cline_len {t : Bool} {n : Int} (h : in64 n) : (cline t n).length≤26:=by
  have:=itoa_len h
  unfold cline
  rw [List.length_append,List.length_cons]
  cases t <;> simp [cname] <;> omega
theorem chsT_len : ∀ (cs : List (Bool×Int)),(∀ c∈cs,in64 c.2)→(chsT cs).length≤cs.length*27
  | [],_=>by simp [chsT]
  | c::cs,h=>by
    have h1:=chsT_len cs (fun x hx=>h x (by simp [hx]))
    have h2:=cline_len (t:=c.1) (h c (by simp))
    have : chsT (c::cs)=(cline c.1 c.2++[10])++chsT cs:=rfl
    rw [this]
    simp only [List.length_append,List.length_cons,List.length_nil]
    omega
theorem print_len (c : Cfg) (hf : c.Fits) : (print c).length≤(c.rules.length+1)*67:=by
  have:=ptext_len c hf c.rules.length (Nat.le_refl _)
  rwa [ptext_all] at this
theorem take_bytes (ls : List ByteArray) (k : Nat) (hk : k<ls.length) : (ls.map fun s=>s.data.toList).take (k+1)=(ls.map fun s=>s.data.toList).take k++[ls[k].data.toList]:=by
  rw [List.take_succ_eq_append_getElem (by rw [List.length_map];exact hk),List.getElem_map]
theorem logs_next (ls : List ByteArray) (k : Nat) (hk : k<ls.length) : logsT ((ls.map fun s=>s.data.toList).take (k+1))=logsT ((ls.map fun s=>s.data.toList).take k)++(logLine ls[k].data.toList++[10]):=by
  rw [take_bytes ls k hk,logsT_snoc]
theorem chs_next (cs : List (Bool×Int)) (k : Nat) (hk : k<cs.length) : chsT (cs.take (k+1))=chsT (cs.take k)++(cline cs[k].1 cs[k].2++[10]):=by
  rw [List.take_succ_eq_append_getElem hk,chsT_snoc]
theorem re_print {a : Option Addr} {n c : Nat} {t d : Int} {b : Option Addr} {m c2 : Nat} {q : Option Addr} {nq c3 : Nat} {rs : List Rul} {ls : List ByteArray} {cs : List (Bool×Int)} (w : World) (he : EnvE w) (hnm : Names w) (hC : CaseC w a n c t d b m c2 q nq c3 rs ls cs) (hS : SmallC n m nq ls) (hn : n≤1000) (T : List UInt8) (hT : printS ⟨⟨rs,t,d⟩,ls.map (fun s=>s.data.toList),cs⟩=T) :
    Calls Tryz.prog 11 #[.agg #[.slice a n c,.int .i64 t,.int .i64 d,.slice b m c2,.slice q nq c3]] w fun e w'=>e = .returned (.string (bstr T))∧Below w.heap.size w w':=by
  obtain ⟨hm8,hnq,-,h400⟩:=hS
  have hbx : Below w.heap.size w (w.alloc (.cells #[.slice a n c,.int .i64 t,.int .i64 d,.slice b m c2,.slice q nq c3] 33)):=(Below.refl _ _).alloc (Nat.le_refl _) _
  have hA0:=At.alloc w [.slice a n c,.int .i64 t,.int .i64 d,.slice b m c2,.slice q nq c3] 33
  obtain ⟨w0,hw0⟩ : ∃ w0,w.alloc (.cells #[.slice a n c,.int .i64 t,.int .i64 d,.slice b m c2,.slice q nq c3] 33)=w0:=⟨_,rfl⟩
  rw [hw0] at hbx hA0
  have hgw : w.heap.size<w0.heap.size:=hA0.1
  have he0:=he.on hbx
  have hn0:=hnm.on hbx
  have hC0:=hC.on hbx
  have hf : (⟨rs,t,d⟩ : Cfg).Fits:=⟨hC.hfit,hC.ht,hC.hd⟩
  have hpl:=print_len ⟨rs,t,d⟩ hf
  simp only at hpl
  rw [← hC.hn] at hpl
  have hlog : ∀ l∈ls.map (fun s=>s.data.toList),l.length≤400:=fun l hl=>by
    obtain ⟨s,hs,rfl⟩:=List.mem_map.1 hl
    exact h400 s hs
  have HLL:=Lib.hid (fun k=>logsT_len ((ls.map fun s=>s.data.toList).take k) (fun l hl=>hlog l (List.mem_of_mem_take hl)))
  have HLA:=Lib.hid (logsT_len (ls.map fun s=>s.data.toList) hlog)
  have HCL:=Lib.hid (fun k=>chsT_len (cs.take k) (fun l hl=>hC.hci l (List.mem_of_mem_take hl)))
  have hml : (ls.map fun s=>s.data.toList).length=m:=by rw [List.length_map];exact hC.hm.symm
  rw [hml] at HLA
  have HML:=Lib.hid hml
  unfold printS at hT
  simp only at hT
  have hbz:=b_zero w0
  have hwb : Below w0.heap.size w0 (w0.alloc (.cells #[.pointer none,.slice none 0 0] 81)):=(Below.refl _ _).alloc (Nat.le_refl _) _
  have HP:=Lib.hid (cf_print ⟨rs,t,d⟩ hf a n c (w0.alloc (.cells #[.pointer none,.slice none 0 0] 81)) (he0.on hwb).wd (hn0.on hwb) (hC0.on hwb).hru hC.hn hn)
  obtain ⟨T1,hT1⟩ : ∃ T1,print ⟨rs,t,d⟩=T1:=⟨_,rfl⟩
  rw [hT1] at HP hT hpl
  have HW1:=Lib.hid (fun w' h hB=>b_write w0.heap.size w0.heap.size [] (bstr T1) w' h (by rw [tx_size];simp only [List.length_nil];omega) hB)
  have HT:=Lib.hid hT
  have HBZ:=Lib.hid hbz
  have HWB:=Lib.hid hwb
  obtain ⟨hg,y0,-,y1,-,y2,-,y3,-,y4,-⟩:=hA0.five
  clear hT hT1 hbz hlog hf he hnm hC hml
  go_enter Tryz.func11,Tryz.ntmps11
  go_wp2_with (first|(go_at_call 37;(with_reducible refine HP.out.mono ?_);rintro e w1 ⟨rfl,hb1⟩;have hB1:=bld_on HBZ.out hb1;have hc1:=on_below HWB.out hb1)|(go_at_call 36;(with_reducible refine (HW1.out _ hB1 hc1.size).mono ?_);rintro e w2 ⟨rfl,hB2,hq2,-⟩;have hc2:=hc1.trans hq2;obtain ⟨-,x0,-,x1,-,x2,-,x3,-,x4,-⟩:=(hA0.below hc2 hgw).five)|fail)
  clear hw0 y0 y1 y2 y3 y4
  have hBL : Bld w0.heap.size w0.heap.size (T1++logsT ((ls.map fun s=>s.data.toList).take 0)) w2:=by
    rw [List.take_zero]
    show Bld _ _ (T1++[]) w2
    rw [List.append_nil]
    exact hB2
  clear HP HW1 hB1 hc1 hb1 hB2 hq2 HBZ HWB
  go_loopw [15] (fun i wr=>∃ k : Nat,k≤m∧i = .int .i64 k∧Bld w0.heap.size w0.heap.size (T1++logsT ((ls.map fun s=>s.data.toList).take k)) wr∧Below w0.heap.size w0 wr) (fun i _=>m - (intOf i).toNat)
  case atStart=>exact ⟨0,Nat.zero_le _,rfl,hBL,hc2⟩
  case round =>
    clear hBL hc2 x0 x1 x2 x3 x4
    obtain ⟨k,hk,rfl,hbl,hb⟩:=hrel
    have hwB:=hb.size
    have her:=he0.on hb
    have hll:=HLL.out k
    rw [List.length_take] at hll
    by_cases hlt : k<m
    · have hk1 : k<ls.length:=by rw [← hC0.hm];exact hlt
      have hrow:=(hC0.hlo).below hb
      obtain ⟨b2,o2,rfl,-,-⟩:=hrow.at_ k hk1
      obtain ⟨hbl2,q0⟩:=hrow.cell k hk1
      have hsz:=h400 _ (List.getElem_mem hk1)
      have hnx:=logs_next ls k hk1
      generalize ls[k]=s at *
      have hsl : s.data.toList.length=s.size:=by simp
      have hlln:=logLine_len (l:=s.data.toList) (by omega)
      have HQ:=Lib.hid (q_quote s wr (by omega) her.qu)
      obtain ⟨X,hX⟩ : ∃ X,T1++logsT ((ls.map fun s=>s.data.toList).take k)=X:=⟨_,rfl⟩
      have hXl : X.length≤200000:=by rw [← hX,List.length_append];omega
      have HNX : Hid (T1++logsT ((ls.map fun s=>s.data.toList).take (k+1))=X++(logLine s.data.toList++[10])):=by
        refine Lib.hid ?_
        rw [hnx,← hX,List.append_assoc]
      rw [hX] at hbl
      have hl4 : (logLine s.data.toList).length=4+(quote s.data.toList).length:=by unfold logLine;rw [List.length_append];rfl
      have h1:=fun w=>tx_run w [108,111,103,32] (quote s.data.toList) (by simp only [List.length_cons,List.length_nil];omega)
      have h2:=fun w=>tx_run w (logLine s.data.toList) [10] (by simp only [List.length_cons,List.length_nil];omega)
      have e1 : [108,111,103,32]++quote s.data.toList=logLine s.data.toList:=rfl
      rw [e1] at h1
      obtain ⟨u1,hu1⟩ : ∃ u,bstr (logLine s.data.toList)=u:=⟨_,rfl⟩
      obtain ⟨u2,hu2⟩ : ∃ u,bstr (logLine s.data.toList++[10])=u:=⟨_,rfl⟩
      have HW:=Lib.hid (fun w' h hB=>b_write w0.heap.size w0.heap.size X (bstr (logLine s.data.toList++[10])) w' h (by rw [tx_size];simp only [List.length_append,List.length_cons,List.length_nil];omega) hB)
      rw [hu1] at h1 h2
      rw [hu2] at h2 HW
      have HU2:=Lib.hid hu2
      clear hu1 hu2 hX hnx e1 hrow
      generalize bstr (quote s.data.toList)=u0 at *
      go_wp2_with (first|(go_at_call 38;(with_reducible refine HQ.out.mono ?_);rintro e w3 ⟨rfl,hb3⟩;have hB3:=bld_on hbl hb3;have hc3:=on_below hb hb3)|(go_at_call 36;(with_reducible refine (HW.out _ hB3 hc3.size).mono ?_);rintro e w4 ⟨rfl,hB4,hq4,-⟩)|fail)
      go_roundw
      case rel=>exact ⟨k+1,by omega,by go_num,by rw [HNX.out];rw [← HU2.out] at hB4;exact hB4,hc3.trans hq4⟩
      case measure=>simp [intOf];omega
    · obtain rfl : k=m:=by omega
      rw [List.take_of_length_le (by rw [HML.out];exact Nat.le_refl _)] at hbl
      obtain ⟨X0,hX0⟩ : ∃ X,T1++logsT (ls.map fun s=>s.data.toList)=X:=⟨_,rfl⟩
      have hX0l : X0.length≤150000:=by rw [← hX0,List.length_append];have:=HLA.out;omega
      have hT2:=HT.out
      rw [hX0] at hbl hT2
      obtain ⟨-,x0,-,x1,-,x2,-,x3,-,x4,-⟩:=(hA0.below hb hgw).five
      have hBL : Bld w0.heap.size w0.heap.size (X0++chsT (cs.take 0)) wr:=by
        rw [List.take_zero]
        show Bld _ _ (X0++[]) wr
        rw [List.append_nil]
        exact hbl
      have HT2:=Lib.hid hT2
      clear hX0 hT2 hbl HT hll HLL HLA
      go_wp2
      go_loopw [28] (fun i wx=>∃ j : Nat,j≤nq∧i = .int .i64 j∧Bld w0.heap.size w0.heap.size (X0++chsT (cs.take j)) wx∧Below w0.heap.size w0 wx) (fun i _=>nq - (intOf i).toNat)
      case atStart=>exact ⟨0,Nat.zero_le _,rfl,hBL,hb⟩
      case round =>
        clear hBL hb hwB her x0 x1 x2 x3 x4
        obtain ⟨j,hj,rfl,hbl,hb⟩:=hrel
        have hwB:=hb.size
        have her:=he0.on hb
        have hcl:=HCL.out j
        rw [List.length_take] at hcl
        by_cases hjl : j<nq
        · have hj1 : j<cs.length:=by rw [← hC0.hnq];exact hjl
          have hrow:=(hC0.hch).below hb
          obtain ⟨b2,o2,rfl,-,-⟩:=hrow.at_ j hj1
          obtain ⟨hbl2,r0,r1⟩:=RowC.cells hrow j hj1
          have hin:=hC0.hci _ (List.getElem_mem hj1)
          have hnx:=chs_next cs j hj1
          generalize cs[j]=x at *
          obtain ⟨ct,cn⟩:=x
          simp only at r0 r1 hin hnx
          have hcln:=cline_len (t:=ct) hin
          have hba : Below wr.heap.size wr (wr.alloc (.cells #[.bool ct,.int .i64 cn] 50)):=(Below.refl _ _).alloc (Nat.le_refl _) _
          have hbB:=hb.trans (hba.mono hwB)
          have HQ:=Lib.hid (ch_line ct cn hin (wr.alloc (.cells #[.bool ct,.int .i64 cn] 50)) (her.on hba).wd)
          have hblA:=bld_on hbl hba
          obtain ⟨X,hX⟩ : ∃ X,X0++chsT (cs.take j)=X:=⟨_,rfl⟩
          have hXl : X.length≤200000:=by rw [← hX,List.length_append];omega
          have HNX : Hid (X0++chsT (cs.take (j+1))=X++(cline ct cn++[10])):=by
            refine Lib.hid ?_
            rw [hnx,← hX,List.append_assoc]
          rw [hX] at hblA
          have h2:=fun w=>tx_run w (cline ct cn) [10] (by simp only [List.length_cons,List.length_nil];omega)
          obtain ⟨u2,hu2⟩ : ∃ u,bstr (cline ct cn++[10])=u:=⟨_,rfl⟩
          have HW:=Lib.hid (fun w' h hB=>b_write w0.heap.size w0.heap.size X (bstr (cline ct cn++[10])) w' h (by rw [tx_size];simp only [List.length_append,List.length_cons,List.length_nil];omega) hB)
          rw [hu2] at h2 HW
          have HU2:=Lib.hid hu2
          clear hu2 hX hnx hrow hbl hba
          generalize bstr (cline ct cn)=u0 at *
          go_wp2_with (first|(go_at_call 39;(with_reducible refine HQ.out.mono ?_);rintro e w3 ⟨rfl,hb3⟩;have hB3:=bld_on hblA hb3;have hc3:=on_below hbB hb3)|(go_at_call 36;(with_reducible refine (HW.out _ hB3 hc3.size).mono ?_);rintro e w4 ⟨rfl,hB4,hq4,-⟩)|fail)
          go_roundw
          case rel=>exact ⟨j+1,by omega,by go_num,by rw [HNX.out];rw [← HU2.out] at hB4;exact hB4,hc3.trans hq4⟩
          case measure=>simp [intOf];omega
        · obtain rfl : j=nq:=by omega
          rw [List.take_of_length_le (by rw [← hC0.hnq];exact Nat.le_refl _),HT2.out] at hbl
          have HS:=Lib.hid (b_text w0.heap.size w0.heap.size T wr hbl hwB)
          go_wp2_with (go_at_call 40;(with_reducible refine HS.out.mono ?_);rintro e w6 ⟨rfl,hb6⟩)
          go_ret
          exact ⟨rfl,on_below hbx (hb.trans hb6)⟩
end Go.Proofs.YtmimfkhkilijcaaGreatDoor
namespace Go.Proofs.YtmimfkhkilijcaaGreatDoor
open Go.ChangeShapes Go.WideShapes Go.ChangeAt Go.RowKit
open PWord PSign PHex PQuote
theorem rline_small26 {r : Rul} (hf : r.Fits) {l : List UInt8} (h : rline r=some l) : l.length≤66:=by
  obtain ⟨f0,f1,f2,f3,f4⟩:=hf
  unfold rline at h
  split at h
  · cases h;have:=lineOf_len tBounded [r.bound] (by decide) (by simpa using f1);simp at this;unfold PWord.line0;omega
  · split at h
    · cases h;have:=lineOf_len tMarked [r.sign] (by decide) (by simpa using f4);simp at this;unfold PWord.line1;omega
    · split at h
      · cases h;have:=lineOf_len tPercent [r.pct,r.win] (by decide) (by simpa using ⟨f2,f3⟩);simp at this;unfold PWord.line2;omega
      · cases h
theorem slines_small {s : Scr} (hs : s.Ok) (h4 : ∀ l∈s.logs,l.length≤400) : ∀ l∈slines s,l.length≤4096:=by
  intro l hl
  unfold slines at hl
  rcases List.mem_append.1 hl with hl|hl
  · rcases List.mem_append.1 hl with hl|hl
    · rcases List.mem_cons.1 hl with rfl|hl
      · have:=hline_len _ _ hs.fits.timeout hs.fits.drift
        omega
      · obtain ⟨r,hr,rfl⟩:=List.mem_map.1 hl
        cases h : rline r with
        | none=>simp
        | some x =>
          have:=rline_small26 (hs.fits.rules r hr) h
          simp only [Option.getD_some]
          omega
    · obtain ⟨x,hx,rfl⟩:=List.mem_map.1 hl
      have:=logLine_len (h4 x hx)
      omega
  · obtain ⟨x,hx,rfl⟩:=List.mem_map.1 hl
    have:=cline_len (t:=x.1) (hs.chs x hx)
    omega
theorem lines_small {s : Scr} (hs : s.Ok) (h4 : ∀ l∈s.logs,l.length≤400) : ∀ l∈lines (printS s),l.length≤4096:=by
  intro l hl
  rw [lines_printS s hs.only] at hl
  rcases List.mem_append.1 hl with hl|hl
  · exact slines_small hs h4 l hl
  · rw [List.mem_singleton.1 hl];exact Nat.zero_le _
theorem told_of {rs : List Rul} (h : toldB rs=true) : (∀ r∈rs,only r=true)∧rs.length<100:=by
  unfold toldB at h
  rw [Bool.and_eq_true,decide_eq_true_iff,List.all_eq_true] at h
  exact h
structure Tld (rs : List Rul) (t d : Int) (ls : List (List UInt8)) (cs : List (Bool×Int)) : Prop where
  ok : Scr.Ok ⟨⟨rs,t,d⟩,ls,cs⟩
  ln : (printS ⟨⟨rs,t,d⟩,ls,cs⟩).length≤100000
  sm : ∀ l∈lines (printS ⟨⟨rs,t,d⟩,ls,cs⟩),l.length≤4096
theorem Tld.of {w : World} {a : Option Addr} {n c : Nat} {t d : Int} {b : Option Addr} {m c2 : Nat} {q : Option Addr} {nq c3 : Nat} {rs : List Rul} {ls : List ByteArray} {cs : List (Bool×Int)} (hC : CaseC w a n c t d b m c2 q nq c3 rs ls cs) (hS : SmallC n m nq ls) (ht : toldB rs=true) : Tld rs t d (ls.map fun s=>s.data.toList) cs:=by
  obtain ⟨hm8,hnq,-,h400⟩:=hS
  obtain ⟨ho,hl⟩:=told_of ht
  have hlog : ∀ l∈ls.map (fun s=>s.data.toList),l.length≤400:=fun l hl=>by
    obtain ⟨s,hs,rfl⟩:=List.mem_map.1 hl
    exact h400 s hs
  have hok : Scr.Ok ⟨⟨rs,t,d⟩,ls.map fun s=>s.data.toList,cs⟩:=⟨⟨hC.hfit,hC.ht,hC.hd⟩,ho,fun l hl=>Nat.le_trans (hlog l hl) (by omega),hC.hci⟩
  refine ⟨hok,?_,lines_small hok hlog⟩
  unfold printS
  have h1:=print_len ⟨rs,t,d⟩ hok.fits
  have h2:=logsT_len _ hlog
  have h3:=chsT_len cs hC.hci
  simp only at h1
  rw [List.length_map,← hC.hm] at h2
  rw [← hC.hnq] at h3
  simp only [List.length_append]
  omega
end Go.Proofs.YtmimfkhkilijcaaGreatDoor
