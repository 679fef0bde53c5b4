/- Case25; Lines26; WWholeJudged: what is reached of them. -/
import Derived.Test.YtmimfkhkilijcaaGreatDoorWq38
import Derived.Test.YtmimfkhkilijcaaGreatDoorWq35
import Derived.Test.YtmimfkhkilijcaaGreatDoorWq34
import Derived.Test.YtmimfkhkilijcaaGreatDoorWq40
import Derived.Test.YtmimfkhkilijcaaGreatDoorWq41
import Derived.Test.YtmimfkhkilijcaaGreatDoorWq10
import Derived.Test.YtmimfkhkilijcaaGreatDoorWq42
import Derived.Test.YtmimfkhkilijcaaGreatDoorWq47
import Derived.Test.YtmimfkhkilijcaaGreatDoorWq48
set_option linter.unusedVariables false
set_option linter.unusedSimpArgs false
set_option maxRecDepth 100000
set_option maxHeartbeats 8000000
namespace Go.Proofs.YtmimfkhkilijcaaGreatDoor
open Go.ChangeShapes Go.WideShapes Go.ChangeAt Go.RowKit
open PHist PRing PSat PClamp PBound PFrame PVar PCrc PSign PTree PEv
structure Good25 (rs : List Rul) (t d : Int) (ls : List ByteArray) : Prop where
  hn : (ls.map fun s=>s.data.toList).length=rs.length
  h8 : rs.length≤8
  ok : (St.new t d rs (ls.map fun s=>s.data.toList)).Ok
  chk : ∀ r∈rs,rcheck r=0
  fine : ∀ cs : List (Bool×Int),∀ e∈St.newE t rs (ls.map fun s=>s.data.toList)++(St.new t d rs (ls.map fun s=>s.data.toList)).runE cs,Fine e
theorem good25 {w : World} {a : Option Addr} {n c : Nat} {t d : Int} {b : Option Addr} {m c2 : Nat} {q : Option Addr} {nq c3 : Nat} {rs : List Rul} {ls : List ByteArray} {cs : List (Bool×Int)} (hC : CaseC w a n c t d b m c2 q nq c3 rs ls cs) (hS : SmallC n m nq ls) (hz : nerr rs t d m=0) : Good25 rs t d ls:=by
  obtain ⟨hc0,hmn⟩:=nerr_zero hz
  have ht1:=ccheck_t hc0
  have hm:=hC.hm
  have h8:=hS.1
  have hlen : (ls.map fun s=>s.data.toList).length=rs.length:=by rw [List.length_map];omega
  have hr8 : rs.length≤8:=by omega
  have hck : ∀ r∈rs,rcheck r=0∧r.Fits:=fun r hr=>⟨ccheck_ok hc0 r hr,hC.hfit r hr⟩
  have hl : ∀ l∈(ls.map fun s=>s.data.toList),l.length≤400:=fun l hl=>by
    obtain ⟨s,hs',rfl⟩:=List.mem_map.1 hl
    exact hS.2.2.2 s hs'
  have hok : (St.new t d rs (ls.map fun s=>s.data.toList)).Ok:=new_ok hlen (by omega) hck hl ⟨ht1.2.1,hC.ht.2⟩ ⟨ht1.2.2,hC.hd.2⟩
  refine ⟨hlen,hr8,hok,fun r hr=>(hck r hr).1,fun cs e he=>?_⟩
  rcases List.mem_append.1 he with he|he
  · exact fine_new hlen hr8 hck hl ⟨ht1.2.1,hC.ht.2⟩ e he
  · exact fine_run cs hok e he
end Go.Proofs.YtmimfkhkilijcaaGreatDoor
namespace Go.Proofs.YtmimfkhkilijcaaGreatDoor
open Go.ChangeShapes Go.WideShapes Go.ChangeAt Go.RowKit
open PWord PQuote PSign PEv PHist PTree
open Go.Lib (itoa)
def partLn (s : St) (i : Nat) : List UInt8:=lineOf tPart [(i : Int),(pat s.ps i).is,((pat s.ps i).read : Int),(pat s.ps i).mark]
def endLn (s : St) (L : List Ev) : List UInt8:=lineOf tEnd [s.now,s.clock,(lates L : Int)]
def tailLn (s : St) (L : List Ev) (n : Nat) : List (List UInt8):=(List.range n).map (partLn s)++[endLn s L]
def outLn (s : St) (L : List Ev) (n : Nat) : List (List UInt8):=L.map eline++tailLn s L n
theorem outLn_len (s : St) (L : List Ev) (n : Nat) : (outLn s L n).length=L.length+(n+1):=by simp [outLn,tailLn]
theorem partsT_ln (s : St) : ∀ n,partsT s n=(((List.range n).map (partLn s)).map (· ++ [10])).flatten
  | 0=>rfl
  | n+1=>by
    rw [List.range_succ,List.map_append,List.map_append,List.flatten_append,← partsT_ln s n]
    show partsT s n++lineT tPart _=partsT s n++_
    simp [lineT,partLn]
theorem outT_ln (s : St) (L : List Ev) (n : Nat) : outT s L n=((outLn s L n).map (· ++ [10])).flatten:=by
  have h1 : etexts L=((L.map eline).map (· ++ [10])).flatten:=by
    unfold etexts
    rw [List.flatMap_def,List.map_map]
    rfl
  unfold outT outLn tailLn
  rw [partsT_ln,h1]
  simp [lineT,endLn]
theorem tail_is {s : St} {L : List Ev} {n : Nat} {x : List UInt8} (h : x∈tailLn s L n) : (∃ i,i<n∧x=partLn s i)∨x=endLn s L:=by
  rcases List.mem_append.1 h with h|h
  · obtain ⟨i,hi,rfl⟩:=List.mem_map.1 h
    exact .inl ⟨i,List.mem_range.1 hi,rfl⟩
  · exact .inr (List.mem_singleton.1 h)
theorem outLn_10 (s : St) (L : List Ev) (n : Nat) : ∀ x∈outLn s L n,(10 : UInt8)∉x:=by
  intro x hx
  rcases List.mem_append.1 hx with h|h
  · obtain ⟨v,_,rfl⟩:=List.mem_map.1 h
    exact eline_10 v
  · rcases tail_is h with ⟨i,_,rfl⟩|rfl
    · exact lineOf_10 _ _ (by decide)
    · exact lineOf_10 _ _ (by decide)
theorem outLn_ev (s : St) (L : List Ev) (n j : Nat) (h : j<L.length) (h2 : j<(outLn s L n).length) : (outLn s L n)[j]=eline L[j] :=
  (List.getElem_of_eq (show outLn s L n=L.map eline++tailLn s L n from rfl) h2).trans (by rw [List.getElem_append_left (by rw [List.length_map];exact h),List.getElem_map])
theorem outLn_tail (s : St) (L : List Ev) (n j : Nat) (h : L.length≤j) (h2 : j<(outLn s L n).length) : (outLn s L n)[j]∈tailLn s L n:=by
  have e:=List.getElem_of_eq (show outLn s L n=L.map eline++tailLn s L n from rfl) h2
  rw [e,List.getElem_append_right (by rw [List.length_map];exact h)]
  exact List.getElem_mem _
theorem out_cut (s : St) (L : List Ev) (n : Nat) : cuts 10 ((outT s L n).count 10) (outT s L n)=outLn s L n++[[]]:=by
  rw [outT_ln,count_ended 10 _ (outLn_10 s L n)]
  exact cuts_ended 10 _ _ (outLn_10 s L n) (Nat.le_refl _)
theorem out_head (s : St) (L : List Ev) (n : Nat) : ∀ x∈outLn s L n,∃ a b r,x=a::b::r∧¬ (a=101∧b=114):=by
  intro x hx
  rcases List.mem_append.1 hx with h|h
  · obtain ⟨v,_,rfl⟩:=List.mem_map.1 h
    cases v with
    | el late p k t y =>
      rw [eline_el]
      cases late
      · exact ⟨101,108,_,rfl,by decide⟩
      · exact ⟨108,97,_,rfl,by decide⟩
    | mark m=>rw [eline_mark];exact ⟨109,97,_,rfl,by decide⟩
    | fault p e=>rw [eline_fault];exact ⟨102,97,_,rfl,by decide⟩
  · rcases tail_is h with ⟨i,_,rfl⟩|rfl
    · exact ⟨112,97,_,rfl,by decide⟩
    · exact ⟨101,110,_,rfl,by decide⟩
theorem out_no_error (s : St) (L : List Ev) (n : Nat) : Lib.hasPrefix (outT s L n) [101,114,114,111,114,32]=false:=by
  have h0 : outLn s L n≠[]:=by intro h;have:=congrArg List.length h;rw [outLn_len] at this;simp at this
  obtain ⟨x,r,hx⟩:=List.exists_cons_of_ne_nil h0
  obtain ⟨a,b,q,rfl,hn⟩:=out_head s L n x (by rw [hx];simp)
  rw [outT_ln,hx]
  show List.isPrefixOf _ _=false
  simp only [List.map_cons,List.flatten_cons,List.cons_append,List.isPrefixOf]
  by_cases h1 : a=101
  · have h2 : b≠114:=fun h=>hn ⟨h1,h⟩
    rw [show ((114 : UInt8) == b)=false from beq_false_of_ne (fun h=>h2 h.symm)]
    simp
  · rw [show ((101 : UInt8) == a)=false from beq_false_of_ne (fun h=>h1 h.symm)]
    simp
theorem out_end (s : St) (L : List Ev) (n : Nat) (la : Nat) (hl : lates L=la) : Lib.hasSuffix (outT s L n) ([32]++itoa (la : Int)++[10])=true:=by
  subst hl
  unfold Lib.hasSuffix
  rw [List.isSuffixOf_iff_suffix]
  refine ⟨etexts L++partsT s n++(tEnd++32::(itoa s.now++32::itoa s.clock)),?_⟩
  unfold outT lineT
  simp [lineOf,glue]
theorem err_head (z : Int) : Lib.hasPrefix (lineT tError [z]) [101,114,114,111,114,32]=true:=by
  unfold Lib.hasPrefix
  rw [List.isPrefixOf_iff_prefix]
  exact ⟨itoa z++[10],rfl⟩
theorem err_one (z : Int) : Lib.countByte (lineT tError [z]) 10=1:=by
  unfold Lib.countByte lineT
  rw [List.count_append,List.count_eq_zero.2 (lineOf_10 _ _ (by decide))]
  rfl
theorem tail_len {s : St} {L : List Ev} {n : Nat} (h : s.Ok) (hn : n≤s.ps.length) (hl : L.length≤100000) : ∀ x∈tailLn s L n,∃ name ns,x=lineOf name ns∧(name=tPart∨name=tEnd)∧ns≠[]∧ns.length≤4∧∀ m∈ns,in64 m:=by
  intro x hx
  have h8:=h.n
  rcases tail_is hx with ⟨i,hi,rfl⟩|rfl
  · obtain ⟨f1,f2,f3⟩:=pt_fits h (show i<s.ps.length by omega)
    refine ⟨_,_,rfl,.inl rfl,by simp,by simp,fun m hm=>?_⟩
    simp only [List.mem_cons,List.not_mem_nil,or_false] at hm
    rcases hm with rfl|rfl|rfl|rfl
    · unfold in64;omega
    · exact f1
    · exact f2
    · exact f3
  · have:=lates_le L
    refine ⟨_,_,rfl,.inr rfl,by simp,by simp,fun m hm=>?_⟩
    simp only [List.mem_cons,List.not_mem_nil,or_false] at hm
    rcases hm with rfl|rfl|rfl
    · exact h.nw
    · exact h.ck
    · unfold in64;omega
theorem read_no (name : List UInt8) (ns : List Int) (hn : name=tPart∨name=tEnd) (h0 : ns≠[]) (h4 : ns.length≤4) (hb : ∀ m∈ns,in64 m) (w : World) (he : EnvE w) :
    Calls Tryz.prog 29 #[.string (bstr (lineOf name ns))] w fun e w'=>e = .returned (.tuple #[.nilIface,.bool false])∧Below w.heap.size w w':=by
  have hl:=lineOf_len name ns (by rcases hn with rfl|rfl <;> decide) hb
  have hz : (bstr (lineOf name ns)).size≤4096:=by
    rw [bstr_len]
    have : (ns.length+1)*22≤5*22:=Nat.mul_le_mul_right 22 (by omega)
    omega
  refine (ev_read none (fun x h=>by cases h) (bstr (lineOf name ns)) w he (by omega) (hq_small none _ hz)).mono ?_
  rintro e w' ⟨U,hR,rfl,hb2,_⟩
  obtain ⟨m,r,rfl⟩:=List.exists_cons_of_ne_nil h0
  have hc : Lib.cut (bstr (lineOf name (m::r))).data.toList [32]=(name,glue 32 ((m::r).map itoa),true):=by
    show Lib.cut (lineOf name (m::r)) [32]=_
    rw [lineOf_cons]
    exact cut_some 32 _ _ (by rcases hn with rfl|rfl <;> decide)
  have hr : eread U (bstr (lineOf name (m::r))).data.toList=none:=by
    rcases hn with rfl|rfl
    · exact eread_other U hc (by decide) (by decide) (by decide) (by decide)
    · exact eread_other U hc (by decide) (by decide) (by decide) (by decide)
  exact ⟨by rw [hr];rfl,hb2⟩
structure RowT (w : World) (a : Option Addr) (l : List (List UInt8)) : Prop where
  at_ : ∀ (i : Nat) (h : i<l.length),∃ b off,a=some ⟨b,off,none⟩∧b<w.heap.size∧w.cell? ⟨b,off+i,none⟩=some (.string (bstr l[i]))
theorem RowT.on {w w' : World} {a : Option Addr} {l : List (List UInt8)} (h : RowT w a l) (hb : Below w.heap.size w w') : RowT w' a l :=
  ⟨fun i hi=>by
    obtain ⟨b,off,h1,h2,h3⟩:=h.at_ i hi
    exact ⟨b,off,h1,Nat.lt_of_lt_of_le h2 hb.size,by rw [hb.cell (p:=⟨b,off+i,none⟩) h2];exact h3⟩⟩
def SplitJ (K : Nat) (l : List (List UInt8)) (w : World) (e : Ending) (w' : World) : Prop :=
  ∃ g c,e = .returned (.slice (some ⟨g,0,none⟩) K c)∧K≤c∧c≤5000000∧RowT w' (some ⟨g,0,none⟩) l∧Below w.heap.size w w'
theorem split_j (T : List UInt8) (l : List (List UInt8)) (K : Nat) (w : World) (he : EnvW w) (hs : T.length≤2000000) (hL : cuts 10 (T.count 10) T=l++[[]]) (hK : l.length+1=K) :
    Calls Tryz.prog 15 #[.string (bstr T),.string ⟨#[10]⟩] w (SplitJ K l w):=by
  obtain ⟨m,hm⟩:=he.max
  have hsz : (bstr T).size=T.length:=bstr_len T
  have hcb : Lib.countB (bstr T) ⟨#[10]⟩=T.count 10:=Lib.count_one 10 T
  have hlen:=Lib.splitB_all ⟨#[10]⟩ (by decide) 0 _ (bstr T) rfl
  have hle:=Lib.countB_le ⟨#[10]⟩ (by decide) _ (bstr T) (Nat.le_refl _)
  refine (Tryz.strings_Split (bstr T) ⟨#[10]⟩ m w (by omega) hm (by decide)).mono ?_
  rintro e w' ⟨rfl,rfl⟩
  have hws : (Lib.splitB ⟨#[10]⟩ 0 (Lib.countB (bstr T) ⟨#[10]⟩) (bstr T)).map (·.data.toList)=l++[[]]:=by
    rw [Lib.splitB_data,hcb]
    exact hL
  have hKc : Lib.countB (bstr T) ⟨#[10]⟩+1=K:=by
    have:=congrArg List.length hws
    rw [List.length_map,hlen,List.length_append,List.length_singleton] at this
    omega
  have hr : RowS (w.alloc (.cells ((Lib.splitB ⟨#[10]⟩ 0 (Lib.countB (bstr T) ⟨#[10]⟩) (bstr T)).map Value.string).toArray 9)) (some ⟨w.heap.size,0,none⟩) (Lib.splitB ⟨#[10]⟩ 0 (Lib.countB (bstr T) ⟨#[10]⟩) (bstr T)):=by
    rw [← Lib.cellsOf_full]
    exact rows_cells w _ _ _
  rw [hKc]
  refine ⟨w.heap.size,K,rfl,Nat.le_refl _,by omega,⟨fun i hi=>?_⟩,(Below.refl _ _).alloc (Nat.le_refl _) _⟩
  generalize Lib.splitB ⟨#[10]⟩ 0 (Lib.countB (bstr T) ⟨#[10]⟩) (bstr T)=ws at *
  have hi1 : i<ws.length:=by
    have:=congrArg List.length hws
    rw [List.length_map,List.length_append] at this
    omega
  obtain ⟨b,off,k1,k2,k3⟩:=hr.at_ i hi1
  refine ⟨b,off,k1,k2,?_⟩
  have e1 : ws[i].data.toList=l[i]:=by
    have h1 : (ws.map (·.data.toList))[i]? = some l[i]:=by rw [hws,List.getElem?_append_left hi,List.getElem?_eq_getElem hi]
    rw [List.getElem?_map,List.getElem?_eq_getElem hi1] at h1
    exact Option.some.inj h1
  rw [k3,← e1]
end Go.Proofs.YtmimfkhkilijcaaGreatDoor
namespace Go.Proofs.YtmimfkhkilijcaaGreatDoor
open Go.ChangeShapes Go.WideShapes Go.ChangeAt Go.RowKit
open PHist PRing PSat PClamp PBound PFrame PVar PCrc PSign PTree PEv
open Go.Lib (itoa)
theorem info_evJ : (Tryz.prog.info? 71).map (fun i=>(i.zero,i.size,i.bytes))=some (some .nilIface,1,16):=by kernel_rfl
theorem evv_heldJ (v : Ev) : ∃ t x,evv v = .iface t x:=by cases v <;> exact ⟨_,_,rfl⟩
theorem walk_WholeJudged (w : World) (he : EnvE w) (hnm : Names w) (c0 : Array Value) (d0 : (((List (Int×Int×Int×Int×Int×Unit))×Int×Int×Unit)×(List ByteArray)×(List (Bool×Int×Unit))×Unit)) (w0 : Rd w (.pair (.pair (.sl (.pair (.int .i64) (.pair (.int .i64) (.pair (.int .i64) (.pair (.int .i64) (.pair (.int .i64) .unit)))))) (.pair (.int .i64) (.pair (.int .i64) .unit))) (.pair (.sl .str) (.pair (.sl (.pair .bool (.pair (.int .i64) .unit))) .unit))) c0.toList d0) :
    Calls Tryz.prog 7 #[.agg c0] w fun e w'=>e = .returned (.bool true)∧Below w.heap.size w w':=by
  obtain ⟨a,n,c,t,dr,b,m,c2,q,nq,c3,rs,ls,cs,rfl,hC⟩:=Rd.case w0
  clear w0
  have hbx : Below w.heap.size w (w.alloc (.cells #[.slice a n c,.int .i64 t,.int .i64 dr,.slice b m c2,.slice q nq c3] 28)):=(Below.refl _ _).alloc (Nat.le_refl _) _
  have hA0:=At.alloc w [.slice a n c,.int .i64 t,.int .i64 dr,.slice b m c2,.slice q nq c3] 28
  have hC0:=hC.on hbx
  have he0:=he.on hbx
  have hn0:=hnm.on hbx
  have hsz : w.heap.size<(w.alloc (.cells #[.slice a n c,.int .i64 t,.int .i64 dr,.slice b m c2,.slice q nq c3] 28)).heap.size:=hA0.1
  clear hC he hnm
  go_enter Tryz.func7,Tryz.ntmps7
  go_wp2_with fail
  generalize w.alloc (.cells #[.slice a n c,.int .i64 t,.int .i64 dr,.slice b m c2,.slice q nq c3] 28)=w0 at *
  have HNN:=Lib.hid (none12 w0)
  obtain ⟨U,hU⟩:=unq_ex
  have HRX:=fun wx (hx : Below w0.heap.size w0 wx)=>Lib.hid (re_run_bad U hU [120,10] (by decide) (fun l hl=>Nat.le_trans (lines_le _ l hl) (by decide)) wx (he0.on hx) (hn0.on hx) 1 (by omega) (x_parse U))
  rw [show lineT tLine [((1 : Nat) : Int)]=[108,105,110,101,32]++itoa 1++[10] from rfl,itoa_1] at HRX
  have HSM:=fun wx (hx : Below w0.heap.size w0 wx)=>Lib.hid (law_small a n c t dr b m c2 q nq c3 ls wx (hC0.on hx).hlo hC0.hm (fun s hs=>hC0.hsl s hs))
  have HA:=fun wx (hx : Below w0.heap.size w0 wx)=>At.five (hA0.below hx hsz)
  go_wp2_with (first|(go_at_call 25;(with_reducible refine HNN.out.mono ?_);rintro e w1 ⟨rfl,hb1⟩;have HR1:=HRX w1 hb1)|(go_at_call 16;(with_reducible refine HR1.out.mono ?_);rintro e w1b ⟨rfl,hb1b⟩;have hb1c:=on_below hb1 hb1b;obtain ⟨-,x0,-,x1,-,x2,-,x3,-,x4,-⟩:=HA _ hb1c;have HS1:=HSM _ hb1c)|fail)
  go_at_call 9
  refine HS1.out.mono ?_
  intro e w2 hS
  obtain ⟨z,rfl,hz,hb2'⟩:=hS
  have hb2:=on_below hb1c hb2'
  obtain ⟨-,y0,-,y1,-,y2,-,y3,-,y4,-⟩:=HA _ hb2
  clear HNN HRX HR1 HS1 HSM x0 x1 x2 x3 x4
  rcases hz with rfl|⟨rfl,hSm⟩
  · go_wp2
    go_ret
    exact ⟨rfl,on_below hbx hb2⟩
  by_cases h50 : 50<(n : Int)
  · go_wp2
    go_ret
    exact ⟨rfl,on_below hbx hb2⟩
  go_wp2
  clear y0 y1 y2 y3 y4
  have HSMH:=Lib.hid hSm
  have HN:=Lib.hid hC0.hn
  have hru2:=hC0.hru.below hb2
  go_loopw [32] (fun i wr=>∃ k : Nat,k≤n∧i = .int .i64 k∧Hid ((rs.take k).all PWord.only=true)∧Below w2.heap.size w2 wr) (fun i _=>n - (intOf i).toNat)
  case atStart=>exact ⟨0,Nat.zero_le _,rfl,(by rw [List.take_zero];rfl : (rs.take 0).all PWord.only=true),Below.refl _ _⟩
  case round =>
    obtain ⟨k,hk,rfl,HK,hb⟩:=hrel
    have hwB:=hb.size
    by_cases hlt : k<n
    ·
      have hk1 : k<rs.length:=by rw [← HN.out];exact hlt
      have hrow:=hru2.below hb
      obtain ⟨b1,o1,rfl,-,-⟩:=hrow.at_ k hk1
      obtain ⟨hbl1,p0,p1,p2,p3,p4⟩:=RowU.cells hrow k hk1
      have hall : (rs.take (k+1)).all PWord.only=PWord.only rs[k]:=by
        rw [List.take_succ_eq_append_getElem hk1,List.all_append,HK.out]
        simp
      have HON:=fun z (hz : PWord.only (rs[k]'hk1)=z) wx=>Lib.hid (ref_only (rs[k]'hk1) z hz wx)
      have HALL:=Lib.hid hall
      clear hrow hall HK
      generalize rs[k]=r at *
      obtain ⟨rk,rb,rp,rn,rsg⟩:=r
      simp only at p0 p1 p2 p3 p4
      have hba:=(Below.refl wr.heap.size wr).alloc (Nat.le_refl _) (.cells #[.int .i64 rk,.int .i64 rb,.int .i64 rp,.int .i64 rn,.int .i64 rsg] 59)
      have hbB:=hb.trans (hba.mono hwB)
      cases hon : PWord.only ⟨rk,rb,rp,rn,rsg⟩ with
      | true =>
        have HT:=Lib.hid (HALL.out.trans hon)
        have HO2 : ∀ wx,Hid (Calls Tryz.prog 26 #[.agg #[.int .i64 rk,.int .i64 rb,.int .i64 rp,.int .i64 rn,.int .i64 rsg]] wx fun e w'=>e = .returned (.bool true)∧Below wx.heap.size wx w'):=HON true hon
        clear HON hon HALL hk1
        go_wp2_with (first|(go_at_call 26;(with_reducible refine (HO2 _).out.mono ?_);rintro e w3 ⟨rfl,hb3⟩)|fail)
        go_roundw
        case rel=>exact ⟨k+1,by omega,by go_num,HT,on_below hbB hb3⟩
        case measure=>simp [intOf];omega
      | false =>
        have HO2 : ∀ wx,Hid (Calls Tryz.prog 26 #[.agg #[.int .i64 rk,.int .i64 rb,.int .i64 rp,.int .i64 rn,.int .i64 rsg]] wx fun e w'=>e = .returned (.bool false)∧Below wx.heap.size wx w'):=HON false hon
        clear HON hon HALL hk1
        go_wp2_with (first|(go_at_call 26;(with_reducible refine (HO2 _).out.mono ?_);rintro e w3 ⟨rfl,hb3⟩)|fail)
        go_ret
        exact ⟨rfl,on_below hbx (on_below hb2 (on_below hbB hb3))⟩
    · obtain rfl : k=n:=by omega
      have hall : rs.all PWord.only=true:=by
        have:=HK.out
        rwa [List.take_of_length_le (by rw [HN.out];exact Nat.le_refl _)] at this
      have htb : toldB rs=true:=by
        unfold toldB
        rw [hall,Bool.true_and,decide_eq_true_eq,← HN.out]
        omega
      have hSm:=HSMH.out
      have hbR:=on_below hb2 hb
      have hTL:=Tld.of hC0 hSm htb
      have hps:=parseS_print hU _ hTL.ok
      obtain ⟨PT,hPT⟩ : ∃ PT,printS ⟨⟨rs,t,dr⟩,ls.map (fun s=>s.data.toList),cs⟩=PT:=⟨_,rfl⟩
      have hln:=hTL.ln
      have hsm:=hTL.sm
      rw [hPT] at hps hln hsm
      obtain ⟨T,hT⟩ : ∃ T,playT t dr rs (ls.map fun s=>s.data.toList) cs=T:=⟨_,rfl⟩
      have HPR:=Lib.hid (re_print wr (he0.on hbR) (hn0.on hbR) (hC0.on hbR) hSm (by omega) PT hPT)
      have HRN:=fun wx (hx : Below w0.heap.size w0 wx)=>Lib.hid (re_run_ok U hU PT hln hsm wx (he0.on hx) (hn0.on hx) _ hps (by show (ls.map _).length≤8;rw [List.length_map,← hC0.hm];exact hSm.1) (by show cs.length≤120;rw [← hC0.hnq];exact hSm.2.1) (by show rs.length≤5000;rw [← hC0.hn];exact hSm.2.2.1) (fun l hl=>by
        obtain ⟨s,hs,rfl⟩:=List.mem_map.1 hl
        exact hSm.2.2.2 s hs) T hT)
      obtain ⟨-,y0,-,y1,-,y2,-,y3,-,y4,-⟩:=HA _ hbR
      have HTT:=Lib.hid hT
      clear hall htb hTL hps hPT hln hsm hT HK HN HSMH hru2
      by_cases hz : nerr rs t dr m=0
      · have hG:=good25 hC0 hSm hz
        have hE:=newE_len t rs (ls.map fun s=>s.data.toList)
        have hE2:=runE_len cs (St.new t dr rs (ls.map fun s=>s.data.toList))
        have hgood:=good_all t dr rs (ls.map fun s=>s.data.toList) cs
        have hkept:=kept_true hG.hn hG.ok cs
        have hdrift:=drift_true hG.hn hG.ok hG.chk cs
        have hfine:=hG.fine cs
        have hsr:=hG.ok.run cs
        have HNM : Hid (k=m):=Lib.hid (by have h:=hG.hn;rw [List.length_map,← hC0.hm,← hC0.hn] at h;exact h.symm)
        have hpl : ((St.new t dr rs (ls.map fun s=>s.data.toList)).run cs).ps.length=k:=by rw [run_len,new_len hG.hn,hC0.hn]
        have hTT:=HTT.out
        unfold playT at hTT
        rw [show (ls.map fun s=>s.data.toList).length=m by rw [List.length_map];exact hC0.hm.symm,if_pos hz,← hC0.hn] at hTT
        generalize hL : St.newE t rs (ls.map fun s=>s.data.toList)++(St.new t dr rs (ls.map fun s=>s.data.toList)).runE cs=L at *
        have hlen : L.length≤369:=by
          rw [← hL,List.length_append]
          have:=hG.h8
          have:=hSm.2.1
          have:=hC0.hnq
          omega
        generalize (St.new t dr rs (ls.map fun s=>s.data.toList)).run cs=s at *
        have hmx:=etexts_max L hfine
        have hn8:=hsr.n
        have hpp:=partsT_len hsr k (by rw [hpl];exact Nat.le_refl _)
        have hlt9:=lates_le L
        have hTl : T.length≤2000000:=by
          rw [← hTT]
          unfold outT
          have hll:=lineT_len (name:=tEnd) (ns:=[s.now,s.clock,(lates L : Int)]) (by decide) (fun x hx=>by
            simp only [List.mem_cons,List.not_mem_nil,or_false] at hx
            rcases hx with rfl|rfl|rfl
            · exact hsr.nw
            · exact hsr.ck
            · unfold in64;omega)
          simp only [List.length_cons,List.length_nil] at hll
          rw [List.length_append,List.length_append]
          omega
        have hno:=out_no_error s L k
        have hcut:=out_cut s L k
        have hend:=out_end s L k (lates L) rfl
        rw [hTT] at hno hcut hend
        have HHP : ∀ wx,Hid (Calls Tryz.prog 27 #[.string (bstr T),.string ⟨#[101,114,114,111,114,32]⟩] wx fun e w'=>e = .returned (.bool false)∧w'=wx):=fun wx=>by
          have h:=Tryz.strings_HasPrefix (bstr T) ⟨#[101,114,114,111,114,32]⟩ wx
          rw [show Lib.hasPrefix (bstr T).data.toList (⟨#[101,114,114,111,114,32]⟩ : ByteArray).data.toList=false from hno] at h
          exact h
        obtain ⟨N,hN⟩ : ∃ N,L.length=N:=⟨_,rfl⟩
        have HSP:=fun wx (hx : Below w0.heap.size w0 wx)=>Lib.hid (split_j T (outLn s L k) (N+k+2) wx (he0.on hx).wd hTl hcut (by rw [outLn_len,hN];omega))
        clear hmx hn8 hpp hno hcut
        go_wp2_with (first|(go_at_call 11;(with_reducible refine HPR.out.mono ?_);rintro e w3 ⟨rfl,hb3'⟩;have hb3:=on_below hbR hb3';have HR3:=HRN w3 hb3)|(go_at_call 16;(with_reducible refine HR3.out.mono ?_);rintro e w4 ⟨rfl,hb4'⟩;have hb4:=on_below hb3 hb4')|(go_at_call 27;(with_reducible refine (HHP _).out.mono ?_);rintro e w5 ⟨rfl,rfl⟩;have HS5:=HSP _ hb4)|(go_at_call 15;(with_reducible refine HS5.out.mono ?_);intro e w6 h6;obtain ⟨g6,c6,rfl,hc6,hc6m,hR6,hb6'⟩:=h6;have hb6:=on_below hb4 hb6';have hPT6:=part_to (P:=Tryz.prog) (a:=some ⟨g6,0,none⟩) (n:=N+k+2) (c:=c6) (m:=1) (t:=25) (e:=9) (by unfold maxLen;omega) Tryz.underlying25 (by intro w;kernel_rfl) (N+k+1) (N+k+1) rfl (by omega))|fail)
        obtain ⟨j0,hj0,hz0,hz1,hz2⟩:=info_parts info_evJ
        have HFN:=Lib.hid hfine
        have HNN:=Lib.hid hN
        have HTLn:=Lib.hid (tail_len hsr (n:=k) (by rw [hpl];exact Nat.le_refl _) (show L.length≤100000 by omega))
        have hN9 : N≤369:=by rw [← hN];exact hlen
        have hk9 : k≤8:=by have:=HNM.out;have:=hSm.1;omega
        clear hfine hN hsr hpl hPT6 y0 y1 y2 y3 y4 HPR HRN HR3 HS5 HHP HSP
        rw [show N+k+2 - 1=N+k+1 by omega]
        go_loopw [7,56] (fun v i wr=>∃ j : Nat,j≤N+k+1∧i = .int .i64 j∧Sl w6.heap.size wr 1 v (L.take j).length ((L.take j).map evv)∧Below w6.heap.size w6 wr) (fun _ i _=>N+k+1 - (intOf i).toNat)
        case atStart=>exact ⟨0,Nat.zero_le _,rfl,Sl.nil _ _ _,Below.refl _ _⟩
        case round =>
          obtain ⟨j,hj,rfl,hsl,hb7⟩:=hrel
          by_cases hlt : j<N+k+1
          ·
            have hj1 : j<(outLn s L k).length:=by rw [outLn_len,HNN.out];omega
            obtain ⟨bb,oo,hg,hbb,q0⟩:=(hR6.on hb7).at_ j hj1
            cases hg
            rw [Nat.zero_add] at q0
            have heX:=(he0.on hb6).on hb7
            obtain ⟨av,cv,rfl⟩:=hsl.shape
            by_cases hjN : j<N
            · have hjL : j<L.length:=by rw [HNN.out];exact hjN
              have hel:=outLn_ev s L k j hjL hj1
              rw [hel] at q0
              have hf:=HFN.out _ (List.getElem_mem hjL)
              have HRD:=fun wx he=>Lib.hid (ev_read_line L[j] hf.1 (Nat.le_trans hf.2 (by omega)) wx he)
              have htk : L.take (j+1)=L.take j++[L[j]]:=List.take_succ_eq_append_getElem hjL
              obtain ⟨tt,xx,hxx⟩:=evv_heldJ L[j]
              rw [hxx] at HRD
              have HTK : Hid ((L.take (j+1)).length=j+1∧(L.take (j+1)).map evv=(L.take j).map evv++[.iface tt xx]):=Lib.hid ⟨by rw [List.length_take];omega,by rw [htk,List.map_append,List.map_cons,List.map_nil,hxx]⟩
              have hll : (L.take j).length=j:=by rw [List.length_take];omega
              rw [hll] at hsl ⊢
              clear htk hel hf hxx hll hj1
              generalize bstr (eline L[j])=SX at *
              have hm1 : j+1≤maxLen:=by unfold maxLen;omega
              go_wp2_with (first|(go_at_call 29;(with_reducible refine (HRD _ heX).out.mono ?_);rintro e w8 ⟨rfl,hb8⟩;have hs8:=(hsl.onW hb8).alloc (.cells #[.iface tt xx] 71);have hB8:=on_below hb7 hb8;have hw8:=hB8.size)|(at_builtin;refine wpList_append_sl _ rfl (.tmp 66) (.tmp 68) 69 69 rfl 71 j0 _ 16 Tryz.underlying69 hj0 hz0 hz1 hz2 rfl rfl hs8 _ 1 [.iface tt xx] rfl (src_oneN Tryz.underlying69 _ (.iface tt xx) _ _ (by simp) rfl) hm1 (by omega) (by simp;omega) ?_;intro v1 w9 k1 k2 k3)|fail)
              go_roundw
              case rel=>exact ⟨j+1,hlt,by go_num,by rw [HTK.out.1,HTK.out.2];exact k1,(hB8.alloc hw8 _).upd k2 (by simp;omega) (fun i _ hi=>by have:=(hsl.lt i hi).1;omega)⟩
              case measure=>simp [intOf];omega
            · obtain ⟨name,ns,hx,hn1,hn2,hn3,hn4⟩:=HTLn.out _ (outLn_tail s L k j (by rw [HNN.out];omega) hj1)
              rw [hx] at q0
              have HRD:=fun wx he=>Lib.hid (read_no name ns hn1 hn2 hn3 hn4 wx he)
              have heq : L.take (j+1)=L.take j:=by rw [List.take_of_length_le (by rw [HNN.out];omega),List.take_of_length_le (by rw [HNN.out];omega)]
              have HTK : Hid ((L.take (j+1)).length=(L.take j).length∧(L.take (j+1)).map evv=(L.take j).map evv):=Lib.hid ⟨by rw [heq],by rw [heq]⟩
              clear hx hn1 hn2 hn3 hn4 hj1 heq
              generalize bstr (PWord.lineOf name ns)=SX at *
              generalize (L.take j).length=lj at *
              generalize (L.take j).map evv=vj at *
              go_wp2_with (first|(go_at_call 29;(with_reducible refine (HRD _ heX).out.mono ?_);rintro e w8 ⟨rfl,hb8⟩;have hs8:=hsl.onW hb8;have hB8:=on_below hb7 hb8)|fail)
              go_roundw
              case rel=>exact ⟨j+1,hlt,by go_num,by rw [HTK.out.1,HTK.out.2];exact hs8,hB8⟩
              case measure=>simp [intOf];omega
          · obtain rfl : j=N+k+1:=by omega
            rw [List.take_of_length_le (by rw [HNN.out];omega)] at hsl
            obtain ⟨-,ae,ce,rfl,hE⟩:=rowe_of_sl hsl
            rw [HNN.out]
            have hB7:=on_below hb6 hb7
            have hkm:=HNM.out
            subst hkm
            have h8:=hSm.1
            have h5:=hSm.2.2.1
            have hH4:=Lib.hid (fun s hs=>Nat.le_trans (hSm.2.2.2 s hs) (by omega) : ∀ s∈ls,s.size≤100000)
            have HRI:=fun wx (hr : RowE wx ae L)=>Lib.hid (ju_rises ae N ce L wx hr HNN.out.symm (by omega) true hgood.rises)
            have HTG:=fun wx (hr : RowE wx ae L)=>Lib.hid (ju_tagged ae N ce L wx hr HNN.out.symm (by omega) true hgood.tagged)
            have HKP:=fun wx (hx : Below w0.heap.size w0 wx) (hr : RowE wx ae L)=>Lib.hid (ju_kept ae N ce L b k c2 ls wx hr HNN.out.symm (by omega) (hC0.hlo.below hx) hC0.hm (by omega) hH4.out true hkept)
            have HDR:=fun wx (hx : Below w0.heap.size w0 wx) (hr : RowE wx ae L)=>Lib.hid (ju_drifted rs t dr a k c wx (hC0.hru.below hx) hC0.hn (by omega) hC0.hfit hC0.hd ae N ce L hr HNN.out.symm (by omega) (fun e he=>(HFN.out e he).1) true hdrift)
            obtain ⟨la,hla⟩ : ∃ la,lates L=la:=⟨_,rfl⟩
            have HLA:=fun wx (hr : RowE wx ae L)=>Lib.hid (ju_lates ae N ce L wx hr HNN.out.symm (by omega) la hla)
            have hlaN : la≤N:=by rw [← hla,← HNN.out];exact hlt9
            have hin : in64 (la : Int):=by unfold in64;omega
            have HNU:=fun wx=>Lib.hid (ref_num (la : Int) hin wx)
            have hil:=PWord.itoa_len hin
            have h1:=fun w=>tx_run w [32] (itoa (la : Int)) (by simp only [List.length_cons,List.length_nil];omega)
            have h2:=fun w=>tx_run w ([32]++itoa (la : Int)) [10] (by simp only [List.length_append,List.length_cons,List.length_nil];omega)
            rw [hla] at hend
            have HSF : ∀ wx,Hid (Calls Tryz.prog 34 #[.string (bstr T),.string (bstr ([32]++itoa (la : Int)++[10]))] wx fun e w'=>e = .returned (.bool true)∧w'=wx):=fun wx=>by
              have h:=Tryz.strings_HasSuffix (bstr T) (bstr ([32]++itoa (la : Int)++[10])) wx (by rw [bstr_len];omega)
              rw [show Lib.hasSuffix (bstr T).data.toList (bstr ([32]++itoa (la : Int)++[10])).data.toList=true from hend] at h
              exact h
            have HBX:=Lib.hid hbx
            clear hla hend hil hin hgood hkept hdrift hlt9 hbx
            generalize bstr ([32]++itoa (la : Int)++[10])=U3 at *
            generalize bstr ([32]++itoa (la : Int))=U2 at *
            generalize bstr (itoa (la : Int))=U1 at *
            generalize bstr T=TX at *
            obtain ⟨-,y0,-,y1,-,y2,-,y3,-,y4,-⟩:=HA _ hB7
            go_wp2_with (first|(go_at_call 30;(with_reducible refine (HRI _ hE).out.mono ?_);rintro e u4 ⟨rfl,hb4'⟩;have hB4:=on_below hB7 hb4';have hE4:=hE.on hb4')|(go_at_call 31;(with_reducible refine (HTG _ hE4).out.mono ?_);rintro e u5 ⟨rfl,hb5'⟩;have hB5:=on_below hB4 hb5';have hE5:=hE4.on hb5';obtain ⟨-,r0,-,r1,-,r2,-,r3,-,r4,-⟩:=HA _ hB5)|(go_at_call 32;(with_reducible refine (HKP _ hB5 hE5).out.mono ?_);rintro e u6 ⟨rfl,hb6'⟩;have hB6:=on_below hB5 hb6';have hE6:=hE5.on hb6';obtain ⟨-,p0,-,p1,-,p2,-,p3,-,p4,-⟩:=HA _ hB6)|(go_at_call 33;(with_reducible refine (HDR _ hB6 hE6).out.mono ?_);rintro e u7 ⟨rfl,hb7'⟩;have hC7:=on_below hB6 hb7';have hE7:=hE6.on hb7')|(go_at_call 35;(with_reducible refine (HLA _ hE7).out.mono ?_);rintro e u8 ⟨rfl,hb8'⟩;have hC8:=on_below hC7 hb8')|(go_at_call 17;(with_reducible refine (HNU _).out.mono ?_);rintro e u9 ⟨rfl,hb9'⟩;have hC9:=on_below hC8 hb9')|(go_at_call 34;(with_reducible refine (HSF _).out.mono ?_);rintro e u10 ⟨rfl,rfl⟩)|fail)
            go_ret
            exact ⟨rfl,on_below HBX.out hC9⟩
      · have hTT:=HTT.out
        unfold playT at hTT
        rw [show (ls.map fun s=>s.data.toList).length=m by rw [List.length_map];exact hC0.hm.symm,if_neg hz] at hTT
        obtain ⟨z,hzz⟩ : ∃ z,nerr rs t dr m=z:=⟨_,rfl⟩
        rw [hzz] at hTT
        have hh:=err_head z
        have ho:=err_one z
        rw [hTT] at hh ho
        have HHP : ∀ wx,Hid (Calls Tryz.prog 27 #[.string (bstr T),.string ⟨#[101,114,114,111,114,32]⟩] wx fun e w'=>e = .returned (.bool true)∧w'=wx):=fun wx=>by
          have h:=Tryz.strings_HasPrefix (bstr T) ⟨#[101,114,114,111,114,32]⟩ wx
          rw [show Lib.hasPrefix (bstr T).data.toList (⟨#[101,114,114,111,114,32]⟩ : ByteArray).data.toList=true from hh] at h
          exact h
        have HCO : ∀ wx,Hid (Calls Tryz.prog 28 #[.string (bstr T),.string ⟨#[10]⟩] wx fun e w'=>e = .returned (.int .i64 1)∧w'=wx):=fun wx=>by
          have h:=Tryz.strings_Count_one (bstr T) 10 wx
          rw [show Lib.countByte (bstr T).data.toList 10=1 from ho] at h
          exact h
        clear hTT hzz hz hh ho HTT
        generalize bstr T=TX at *
        generalize bstr PT=TP at *
        go_wp2_with (first|(go_at_call 11;(with_reducible refine HPR.out.mono ?_);rintro e w3 ⟨rfl,hb3'⟩;have hb3:=on_below hbR hb3';have HR3:=HRN w3 hb3)|(go_at_call 16;(with_reducible refine HR3.out.mono ?_);rintro e w4 ⟨rfl,hb4'⟩;have hb4:=on_below hb3 hb4')|(go_at_call 27;(with_reducible refine (HHP _).out.mono ?_);rintro e w5 ⟨rfl,rfl⟩)|(go_at_call 28;(with_reducible refine (HCO _).out.mono ?_);rintro e w6 ⟨rfl,rfl⟩)|fail)
        go_ret
        exact ⟨rfl,on_below hbx hb4⟩
end Go.Proofs.YtmimfkhkilijcaaGreatDoor
