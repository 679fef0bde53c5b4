/- KEvB: what is reached of them. -/
import Derived.Test.YtmimfkhkilijcaaGreatDoorPq39
import Derived.Test.YtmimfkhkilijcaaGreatDoorPq06
import Derived.Defers
import Derived.Recover
import Derived.Test.YtmimfkhkilijcaaGreatDoorPq10
import Derived.Test.YtmimfkhkilijcaaGreatDoorPq33
set_option linter.unusedVariables false
set_option linter.unusedSimpArgs false
set_option maxRecDepth 100000
set_option maxHeartbeats 8000000
namespace Go.Proofs.YtmimfkhkilijcaaGreatDoor
open Go.ChangeShapes Go.WideShapes Go.ChangeAt Go.RowKit
open PWord PQuote PSign PEv
open Go.Lib (itoa)
theorem info_strE : (Tryz.prog.info? 9).map (fun i=>(i.zero,i.size,i.bytes))=some (some (.string ByteArray.empty),1,16):=by kernel_rfl
def wordsE (name : List UInt8) (ns : List Int) : List ByteArray:=bstr name::ns.map fun n=>bstr (itoa n)
theorem wordsE_len (name : List UInt8) (ns : List Int) : (wordsE name ns).length=ns.length+1:=by simp [wordsE]
theorem wordsE_snoc (name : List UInt8) (ns : List Int) (n : Int) : wordsE name (ns++[n])=wordsE name ns++[bstr (itoa n)]:=by simp [wordsE]
theorem wordsE_glue (name : List UInt8) (ns : List Int) : glue 32 ((wordsE name ns).map (·.data.toList))=lineOf name ns:=by
  simp only [wordsE,List.map_cons,List.map_map]
  rfl
theorem ev_line (name : List UInt8) (ns : List Int) (a : Option Addr) (n c : Nat) (w : World) (he : EnvW w) (hr : RowI w .i64 a ns) (hn : n=ns.length) (hl : n≤3) (hna : name.length≤21) :
    Calls Tryz.prog 297 #[.string (bstr name),.slice a n c] w fun e w'=>e = .returned (.string (bstr (lineOf name ns)))∧Below w.heap.size w w':=by
  have hb64 : ∀ x∈ns,in64 x:=fun x hx=>bounds_i64 (hr.wf x hx)
  have hll:=lineOf_len name ns hna hb64
  have hwg:=wordsE_glue name ns
  have HLL : Hid ((lineOf name ns).length≤1000):=Lib.hid (by rw [← hn] at hll;omega)
  have HB:=Lib.hid hb64
  have HN:=Lib.hid hn
  have HWG:=Lib.hid hwg
  clear hll hb64 hn hwg
  obtain ⟨i0,hi,hz0,hz1,hz2⟩:=info_parts info_strE
  have hs0:=Sl.made (B:=w.heap.size) w #[.string (bstr name)] 9 1 1 1 (Nat.le_refl _) (Nat.le_refl _) (by decide) (by simp)
  have hb0 : Below w.heap.size w (w.alloc (.cells #[.string (bstr name)] 9)):=(Below.refl _ _).alloc (Nat.le_refl _) _
  generalize lineOf name ns=L at *
  go_enter Tryz.func297,Tryz.ntmps297
  go_wp2
  go_loopw [5,12] (fun v i wr=>∃ (k : Nat) (av : Option Addr) (cv : Nat),i = .int .i64 k∧k≤n∧v = .slice av (k+1) cv∧Sl w.heap.size wr 1 (.slice av (k+1) cv) (k+1) (sv (wordsE name (ns.take k)))∧Below w.heap.size w wr) (fun _ i _=>n - (intOf i).toNat)
  case atStart=>exact ⟨0,_,_,rfl,Nat.zero_le _,rfl,hs0,hb0⟩
  case round =>
    clear hs0 hb0
    obtain ⟨k,av,cv,rfl,hk,rfl,hsl,hb⟩:=hrel
    have hri:=hr.below hb
    by_cases hlt : k<n
    · have hk1 : k<ns.length:=by rw [← HN.out];exact hlt
      obtain ⟨b,off,rfl,hbl,q0⟩:=hri.at_ k hk1
      have HT : Hid (ns.take (k+1)=ns.take k++[ns[k]]):=List.take_succ_eq_append_getElem hk1
      have hx:=HB.out _ (List.getElem_mem hk1)
      have HI:=Lib.hid (li_itoa _ hx wr (he.on hb))
      clear hri
      generalize hxk : ns[k]=x at *
      clear hxk hk1 hx
      have hm1 : k+1+1≤maxLen:=by unfold maxLen;omega
      have hwB:=hb.size
      go_wp2_with (first|(go_at_call 84;refine HI.out.mono ?_;rintro e w2 ⟨rfl,hb2⟩;have hs2:=(hsl.onW hb2).alloc (.cells #[.string (bstr (itoa x))] 9);have hw2 : w.heap.size≤w2.heap.size:=Nat.le_trans hwB hb2.size)|(at_builtin;refine wpList_append_sl _ rfl (.tmp 16) (.tmp 19) 25 25 rfl 9 i0 _ 16 Tryz.underlying25 hi hz0 hz1 hz2 rfl rfl hs2 _ 1 [.string (bstr (itoa x))] rfl (src_oneN Tryz.underlying25 _ (.string (bstr (itoa x))) _ _ (by simp) rfl) hm1 (by omega) (by simp;omega) ?_;intro v1 w3 k1 k2 k3;obtain ⟨av1,cv1,rfl⟩:=k1.shape))
      go_roundw
      case rel=>exact ⟨k+1,_,_,by go_num,by omega,rfl,(by rw [HT.out,wordsE_snoc,sv_snoc];exact k1),((on_below hb hb2).alloc (by omega) _).upd k2 (by simp;omega) (fun i _ hi=>by have:=(hsl.lt i hi).1;omega)⟩
      case measure=>simp [intOf];omega
    · obtain rfl : k=n:=by omega
      rw [List.take_of_length_le (by rw [← HN.out];exact Nat.le_refl _)] at hsl
      obtain ⟨hln,a2,c2,hv,hc2,hrow⟩:=rows_of_sl hsl
      have hwl:=wordsE_len name ns
      rw [← HN.out] at hwl
      rw [hwl] at hc2
      have hv2 : Value.slice av (k+1) cv = .slice a2 (k+1) c2:=by rw [hv,hwl]
      cases hv2
      obtain ⟨g,off,rfl,hgl⟩:=hrow.lt (by rw [hwl];omega)
      have hj:=li_join g off cv _ wr hrow (by omega) (by omega) (by omega) (by rw [HWG.out];have:=HLL.out;omega)
      rw [hwl,HWG.out] at hj
      have HJ:=Lib.hid hj
      clear hj hv hwl hln
      go_wp2_with (go_at_call 18;refine HJ.out.mono ?_;rintro e w4 ⟨rfl,hb4⟩)
      go_ret
      exact ⟨rfl,on_below hb hb4⟩
theorem rowi_new (w : World) (l : List Int) (e : TypeId) (hl : l.length≤maxLen) (hb : ∀ x∈l,-9223372036854775808≤x∧x≤9223372036854775807) : RowI (w.alloc (.cells (iv l).toArray e)) .i64 (some ⟨w.heap.size,0,none⟩) l:=by
  have h:=At.alloc w (iv l) e
  refine ⟨hl,fun i hi=>⟨_,0,rfl,h.1,?_⟩,fun x hx=>by have:=hb x hx;simp [Lit.wf,IntKind.min,IntKind.max,IntKind.bits,IntKind.signed];omega⟩
  have:=(h.2 i (by rw [iv_len];exact hi)).1
  rw [Nat.zero_add,this]
  simp [iv]
theorem in_two {p n : Int} (hp : in64 p) (hn : in64 n) : ∀ x∈[p,n],-9223372036854775808≤x∧x≤9223372036854775807:=by
  intro x hx
  simp only [List.mem_cons,List.not_mem_nil,or_false] at hx
  rcases hx with rfl|rfl
  · exact hp
  · exact hn
theorem in_three {p k n : Int} (hp : in64 p) (hk : in64 k) (hn : in64 n) : ∀ x∈[p,k,n],-9223372036854775808≤x∧x≤9223372036854775807:=by
  intro x hx
  simp only [List.mem_cons,List.not_mem_nil,or_false] at hx
  rcases hx with rfl|rfl|rfl
  · exact hp
  · exact hk
  · exact hn
theorem mark_line (n : Int) (hn : in64 n) (w : World) (he : EnvW w) :
    Calls Tryz.prog 296 #[.agg #[.int .i64 n]] w fun e w'=>e = .returned (.string (bstr (eline (.mark n))))∧Below w.heap.size w w':=by
  have hr : RowI ((w.alloc (.cells #[.int .i64 n] 125)).alloc (.cells #[.int .i64 n] 3)) .i64 (some ⟨w.heap.size+1,0,none⟩) [n]:=by
    have h:=rowi_new (w.alloc (.cells #[.int .i64 n] 125)) [n] 3 (by unfold maxLen;simp) (by intro x hx;rw [List.mem_singleton] at hx;subst hx;exact hn)
    rw [World.size_alloc] at h
    exact h
  have hb1 : Below w.heap.size w ((w.alloc (.cells #[.int .i64 n] 125)).alloc (.cells #[.int .i64 n] 3)):=((Below.refl _ _).alloc (Nat.le_refl _) _).alloc (by simp) _
  have HL:=Lib.hid (ev_line tMark [n] (some ⟨w.heap.size+1,0,none⟩) 1 1 _ (he.on hb1) hr rfl (by decide) (by decide))
  have HB:=Lib.hid hb1
  clear hr hb1
  go_enter Tryz.func296,Tryz.ntmps296
  go_wp2_with (go_at_call 297;refine HL.out.mono ?_;rintro e w2 ⟨rfl,hb2⟩)
  go_ret
  exact ⟨rfl,on_below HB.out hb2⟩
theorem fault_line (p n : Int) (hp : in64 p) (hn : in64 n) (w : World) (he : EnvW w) :
    Calls Tryz.prog 298 #[.agg #[.int .i64 p,.int .i64 n]] w fun e w'=>e = .returned (.string (bstr (eline (.fault p n))))∧Below w.heap.size w w':=by
  have hr : RowI ((w.alloc (.cells #[.int .i64 p,.int .i64 n] 127)).alloc (.cells #[.int .i64 p,.int .i64 n] 3)) .i64 (some ⟨w.heap.size+1,0,none⟩) [p,n]:=by
    have h:=rowi_new (w.alloc (.cells #[.int .i64 p,.int .i64 n] 127)) [p,n] 3 (by unfold maxLen;simp) (in_two hp hn)
    rw [World.size_alloc] at h
    exact h
  have hb1 : Below w.heap.size w ((w.alloc (.cells #[.int .i64 p,.int .i64 n] 127)).alloc (.cells #[.int .i64 p,.int .i64 n] 3)):=((Below.refl _ _).alloc (Nat.le_refl _) _).alloc (by simp) _
  have HL:=Lib.hid (ev_line tFault [p,n] (some ⟨w.heap.size+1,0,none⟩) 2 2 _ (he.on hb1) hr rfl (by decide) (by decide))
  have HB:=Lib.hid hb1
  clear hr hb1
  go_enter Tryz.func298,Tryz.ntmps298
  go_wp2_with (go_at_call 297;refine HL.out.mono ?_;rintro e w2 ⟨rfl,hb2⟩)
  go_ret
  exact ⟨rfl,on_below HB.out hb2⟩
theorem el_line (late : Bool) (p k t : Int) (x : List UInt8) (hp : in64 p) (hk : in64 k) (ht : in64 t) (hx : x.length≤4096) (w : World) (he : EnvE w) :
    Calls Tryz.prog 299 #[.agg #[.int .i64 p,.int .i64 k,.int .i64 t,.string (bstr x),.bool late]] w fun e w'=>e = .returned (.string (bstr (eline (.el late p k t x))))∧Below w.heap.size w w':=by
  have hel : eline (.el late p k t x)=lineOf (elName late) [p,k,t]++[32]++quote x:=by simp [eline]
  have hll:=lineOf_len (elName late) [p,k,t] (by cases late <;> decide) (in_three hp hk ht)
  have hlq:=quote_big x
  simp only [List.length_cons,List.length_nil] at hll
  obtain ⟨t1,ht1,hc1⟩:=tx_lets (lineOf (elName late) [p,k,t]) [32] (by simp only [List.length_cons,List.length_nil];omega)
  obtain ⟨t2,ht2,hc2⟩:=tx_lets (lineOf (elName late) [p,k,t]++[32]) (quote x) (by simp only [List.length_append,List.length_cons,List.length_nil];omega)
  rw [ht1] at hc2
  rw [hel,ht2]
  have hA:=At.alloc w [.int .i64 p,.int .i64 k,.int .i64 t,.string (bstr x),.bool late] 130
  have hb0 : Below w.heap.size w (w.alloc (.cells #[.int .i64 p,.int .i64 k,.int .i64 t,.string (bstr x),.bool late] 130)):=(Below.refl _ _).alloc (Nat.le_refl _) _
  have HQ:=fun w' h=>Lib.hid (q_quote (bstr x) w' (by rw [bstr_len];omega) h)
  rw [show (bstr x).data.toList=x from rfl] at HQ
  have HL:=fun w' h G hr=>Lib.hid (ev_line (elName late) [p,k,t] (some ⟨G,0,none⟩) 3 3 w' h hr rfl (by decide) (by cases late <;> decide))
  have HR : ∀ w' : World,Hid (RowI (w'.alloc (.cells #[.int .i64 p,.int .i64 k,.int .i64 t] 3)) .i64 (some ⟨w'.heap.size,0,none⟩) [p,k,t]):=fun w'=>rowi_new w' [p,k,t] 3 (by unfold maxLen;simp) (in_three hp hk ht)
  have he1:=he.on hb0
  obtain ⟨hg,c0,z0,c1,z1,c2,z2,c3,z3,c4,z4⟩:=hA.five
  clear hA ht1 ht2 hel hll hlq hx hp hk ht z0 z1 z2 z3 z4
  generalize lineOf (elName late) [p,k,t]=L at *
  generalize quote x=Q at *
  cases late with
  | false =>
    rw [show bstr (elName false)=(⟨#[101,108,101,109,101,110,116]⟩ : ByteArray) from rfl] at HL
    go_enter Tryz.func299,Tryz.ntmps299
    go_wp2
    generalize w.alloc (.cells #[.int .i64 p,.int .i64 k,.int .i64 t,.string (bstr x),.bool false] 130)=w1 at *
    generalize hNN : w.heap.size=N at *
    have HNN:=Lib.hid hNN
    clear hNN
    have hM : Below w1.heap.size w1 (w1.alloc (.cells #[.int .i64 p,.int .i64 k,.int .i64 t] 3)).drew:=((Below.refl _ _).alloc (Nat.le_refl _) _).drew
    have b0:=cell_kept hM c0
    have b1:=cell_kept hM c1
    have b2:=cell_kept hM c2
    have b3:=cell_kept hM c3
    have hr0 : RowI (w1.alloc (.cells #[.int .i64 p,.int .i64 k,.int .i64 t] 3)).drew .i64 (some ⟨w1.heap.size,0,none⟩) [p,k,t]:=(HR w1).out.below (Below.refl _ _).drew
    have he2:=he1.on hM
    go_cut [2] (fun v wx=>v = .string t2∧Below w1.heap.size w1 wx)
    case first =>
      go_region_held3 (fun wx=>wx.cell? ⟨N,0,none⟩=some (.int .i64 p)∧wx.cell? ⟨N,1,none⟩=some (.int .i64 k)∧wx.cell? ⟨N,2,none⟩=some (.int .i64 t)∧wx.cell? ⟨N,3,none⟩=some (.string (bstr x))) (first|exact ⟨c0,c1,c2,c3⟩|exact ⟨b0,b1,b2,b3⟩|exact ⟨d0,d1,d2,d3⟩|exact ⟨f0,f1,f2,f3⟩|fail) (first|(go_at_call 297;(with_reducible refine (HL _ he2.wd _ hr0).out.mono ?_);rintro e wp ⟨rfl,hbp⟩;have d0:=cell_kept hbp b0;have d1:=cell_kept hbp b1;have d2:=cell_kept hbp b2;have d3:=cell_kept hbp b3;have he3:=he2.on hbp)|(go_at_call 38;(with_reducible refine (HQ _ he3.qu).out.mono ?_);rintro e wq ⟨rfl,hbq⟩;have f0:=cell_kept hbq d0;have f1:=cell_kept hbq d1;have f2:=cell_kept hbq d2;have f3:=cell_kept hbq d3))
      all_goals (go_wp2_with fail;go_meet;exact ⟨rfl,on_below (on_below hM hbp) hbq⟩)
    case rest =>
      obtain ⟨rfl,hb2⟩:=hcut
      go_wp2
      go_ret
      exact ⟨rfl,by rw [HNN.out];exact hb0.trans (hb2.mono (by have:=hb0.size;have:=HNN.out;omega))⟩
  | true =>
    rw [show bstr (elName true)=(⟨#[108,97,116,101]⟩ : ByteArray) from rfl] at HL
    go_enter Tryz.func299,Tryz.ntmps299
    go_wp2
    generalize w.alloc (.cells #[.int .i64 p,.int .i64 k,.int .i64 t,.string (bstr x),.bool true] 130)=w1 at *
    generalize hNN : w.heap.size=N at *
    have HNN:=Lib.hid hNN
    clear hNN
    have hM : Below w1.heap.size w1 (w1.alloc (.cells #[.int .i64 p,.int .i64 k,.int .i64 t] 3)).drew:=((Below.refl _ _).alloc (Nat.le_refl _) _).drew
    have b0:=cell_kept hM c0
    have b1:=cell_kept hM c1
    have b2:=cell_kept hM c2
    have b3:=cell_kept hM c3
    have hr0 : RowI (w1.alloc (.cells #[.int .i64 p,.int .i64 k,.int .i64 t] 3)).drew .i64 (some ⟨w1.heap.size,0,none⟩) [p,k,t]:=(HR w1).out.below (Below.refl _ _).drew
    have he2:=he1.on hM
    go_cut [2] (fun v wx=>v = .string t2∧Below w1.heap.size w1 wx)
    case first =>
      go_region_held3 (fun wx=>wx.cell? ⟨N,0,none⟩=some (.int .i64 p)∧wx.cell? ⟨N,1,none⟩=some (.int .i64 k)∧wx.cell? ⟨N,2,none⟩=some (.int .i64 t)∧wx.cell? ⟨N,3,none⟩=some (.string (bstr x))) (first|exact ⟨c0,c1,c2,c3⟩|exact ⟨b0,b1,b2,b3⟩|exact ⟨d0,d1,d2,d3⟩|exact ⟨f0,f1,f2,f3⟩|fail) (first|(go_at_call 297;(with_reducible refine (HL _ he2.wd _ hr0).out.mono ?_);rintro e wp ⟨rfl,hbp⟩;have d0:=cell_kept hbp b0;have d1:=cell_kept hbp b1;have d2:=cell_kept hbp b2;have d3:=cell_kept hbp b3;have he3:=he2.on hbp)|(go_at_call 38;(with_reducible refine (HQ _ he3.qu).out.mono ?_);rintro e wq ⟨rfl,hbq⟩;have f0:=cell_kept hbq d0;have f1:=cell_kept hbq d1;have f2:=cell_kept hbq d2;have f3:=cell_kept hbq d3))
      all_goals (go_wp2_with fail;go_meet;exact ⟨rfl,on_below (on_below hM hbp) hbq⟩)
    case rest =>
      obtain ⟨rfl,hb2⟩:=hcut
      go_wp2
      go_ret
      exact ⟨rfl,by rw [HNN.out];exact hb0.trans (hb2.mono (by have:=hb0.size;have:=HNN.out;omega))⟩
theorem told_idle (w : World) : CallsD Tryz.prog 173 #[] .returning w fun e u' w'=>e = .returned (.tuple #[])∧u' = .returning∧w'=w:=by
  refine callsD_of_wpS Tryz.func173 rfl fun c₀ cs hu=>?_
  apply wpS_region
  simp [wpOpsS,go_sem,recoverD,hu,Tryz.ntmps173,bodyPostS,results,Tryz.results173]
  cases c₀
  simp_all
theorem ev_told (v : Ev) (hv : v.ok) (hx : (etext v).length≤4096) (w : World) (he : EnvE w) :
    Calls Tryz.prog 115 #[evv v] w fun e w'=>e = .returned (.string (bstr (eline v)))∧Below w.heap.size w w':=by
  cases v with
  | mark n =>
    have HM:=Lib.hid (mark_line n hv w he.wd)
    show Calls Tryz.prog 115 #[.iface 125 (.agg #[.int .i64 n])] w _
    go_enter_defers Tryz.func115,Tryz.ntmps115
    go_wp2_with (first|(go_at_call 296;refine HM.out.mono ?_;rintro e w1 ⟨rfl,hb1⟩)|(refine HM.out.mono ?_;rintro e w1 ⟨rfl,hb1⟩))
    refine leaves_cons (f:=173) (args:=#[]) (by simp) (by simp [go_sem]) ?_
    refine (told_idle _).mono ?_
    rintro e u' w'' ⟨rfl,rfl,rfl⟩
    exact ⟨_,results_tmp rfl _ _ _,rfl,hb1⟩
  | fault p n =>
    have HM:=Lib.hid (fault_line p n hv.1 hv.2 w he.wd)
    show Calls Tryz.prog 115 #[.iface 127 (.agg #[.int .i64 p,.int .i64 n])] w _
    go_enter_defers Tryz.func115,Tryz.ntmps115
    go_wp2_with (first|(go_at_call 298;refine HM.out.mono ?_;rintro e w1 ⟨rfl,hb1⟩)|(refine HM.out.mono ?_;rintro e w1 ⟨rfl,hb1⟩))
    refine leaves_cons (f:=173) (args:=#[]) (by simp) (by simp [go_sem]) ?_
    refine (told_idle _).mono ?_
    rintro e u' w'' ⟨rfl,rfl,rfl⟩
    exact ⟨_,results_tmp rfl _ _ _,rfl,hb1⟩
  | el late p k t x =>
    have HM:=Lib.hid (el_line late p k t x hv.1 hv.2.1 hv.2.2 hx w he)
    show Calls Tryz.prog 115 #[.iface 130 (.agg #[.int .i64 p,.int .i64 k,.int .i64 t,.string (bstr x),.bool late])] w _
    go_enter_defers Tryz.func115,Tryz.ntmps115
    go_wp2_with (first|(go_at_call 299;refine HM.out.mono ?_;rintro e w1 ⟨rfl,hb1⟩)|(refine HM.out.mono ?_;rintro e w1 ⟨rfl,hb1⟩))
    refine leaves_cons (f:=173) (args:=#[]) (by simp) (by simp [go_sem]) ?_
    refine (told_idle _).mono ?_
    rintro e u' w'' ⟨rfl,rfl,rfl⟩
    exact ⟨_,results_tmp rfl _ _ _,rfl,hb1⟩
def etexts (l : List Ev) : List UInt8:=l.flatMap fun v=>eline v++[10]
theorem etexts_snoc (l : List Ev) (v : Ev) : etexts (l++[v])=etexts l++eline v++[10]:=by simp [etexts]
theorem etexts_len (l : List Ev) (k : Nat) : (etexts (l.take k)).length≤(etexts l).length:=by
  have h : etexts l=etexts (l.take k)++etexts (l.drop k):=by
    unfold etexts
    rw [← List.flatMap_append,List.take_append_drop]
  rw [h,List.length_append]
  omega
theorem ev_text (a : Option Addr) (n c : Nat) (l : List Ev) (w : World) (he : EnvE w) (hr : RowE w a l) (hn : n=l.length) (hl : n≤100000) (hv : ∀ v∈l,v.ok∧(etext v).length≤4096) (hb : (etexts l).length≤1000000000) :
    Calls Tryz.prog 60 #[.slice a n c] w fun e w'=>e = .returned (.string (bstr (etexts l)))∧Below w.heap.size w w':=by
  have hz:=b_zero w
  have hb0 : Below w.heap.size w (w.alloc (.cells #[.pointer none,.slice none 0 0] 81)):=(Below.refl _ _).alloc (Nat.le_refl _) _
  have hbm:=bld_made w
  have HN:=Lib.hid hn
  have HV:=Lib.hid hv
  have HT:=Lib.hid (fun k=>etexts_len l k)
  clear hn hv
  have hnil : Bld w.heap.size w.heap.size (etexts (l.take 0)) (w.alloc (.cells #[.pointer none,.slice none 0 0] 81)):=hz
  clear hz
  go_enter Tryz.func60,Tryz.ntmps60
  go_wp2
  go_loopw [8] (fun i wr=>∃ k : Nat,i = .int .i64 k∧k≤n∧Bld w.heap.size w.heap.size (etexts (l.take k)) wr∧Below w.heap.size w wr∧w.heap.size<wr.heap.size) (fun i _=>n - (intOf i).toNat)
  case atStart=>exact ⟨0,rfl,Nat.zero_le _,hnil,hb0,by simp⟩
  case round =>
    clear hnil hb0 hbm
    obtain ⟨k,rfl,hk,hbl,hbw,hlt⟩:=hrel
    by_cases hkn : k<n
    · have hk1 : k<l.length:=by rw [← HN.out];exact hkn
      obtain ⟨b,off,rfl,hbs,q0⟩:=(hr.on hbw).at_ k hk1
      obtain ⟨hvo,hvx⟩:=HV.out _ (List.getElem_mem hk1)
      have hsn:=etexts_snoc (l.take k) l[k]
      rw [← List.take_succ_eq_append_getElem hk1] at hsn
      have hln:=HT.out (k+1)
      rw [hsn,List.length_append,List.length_append] at hln
      have HTO:=Lib.hid (ev_told l[k] hvo hvx wr (he.on hbw))
      have hw1:=fun w' (h : Bld w.heap.size w.heap.size (etexts (l.take k)) w') (hB : w.heap.size≤w'.heap.size)=>b_write w.heap.size w.heap.size (etexts (l.take k)) (bstr (eline l[k])) w' h (by rw [bstr_len];omega) hB
      rw [show (bstr (eline l[k])).data.toList=eline l[k] from rfl] at hw1
      have hw2:=fun w' (h : Bld w.heap.size w.heap.size (etexts (l.take k)++eline l[k]) w') (hB : w.heap.size≤w'.heap.size)=>b_write w.heap.size w.heap.size (etexts (l.take k)++eline l[k]) ⟨#[10]⟩ w' h (by rw [List.length_append];show _+1≤_;omega) hB
      rw [show (⟨#[10]⟩ : ByteArray).data.toList=[10] from rfl,← hsn] at hw2
      have HW1:=Lib.hid hw1
      have HW2:=Lib.hid hw2
      clear hw1 hw2 hsn hln hvo hvx
      generalize hE1 : etexts (l.take (k+1))=E1 at *
      have HE1:=Lib.hid hE1
      clear hE1
      generalize hEl : eline l[k]=T at *
      generalize l[k]=ev at *
      clear hEl
      generalize etexts (l.take k)=E0 at *
      clear hk1
      go_wp2_with (first|(go_at_call 115;(with_reducible refine HTO.out.mono ?_);rintro e w2 ⟨rfl,hb2⟩;have hbl2:=bld_on hbl hb2;have hbw2:=on_below hbw hb2;have hlt2:=Nat.lt_of_lt_of_le hlt hb2.size)|(go_at_call 36;first|((with_reducible refine (HW1.out _ hbl2 hbw2.size).mono ?_);rintro e w3 ⟨rfl,hon3⟩;have hbw3:=hbw2.trans hon3.2.1;have hB3:=hon3.1)|((with_reducible refine (HW2.out _ hB3 hbw3.size).mono ?_);rintro e w4 ⟨rfl,hon4⟩;have hbw4:=hbw3.trans hon4.2.1)))
      go_roundw
      case rel=>exact ⟨k+1,by go_num,hkn,by rw [HE1.out];exact hon4.1,hbw4,Nat.lt_of_lt_of_le hlt2 (Nat.le_trans hon3.2.1.size hon4.2.1.size)⟩
      case measure=>simp [intOf];omega
    · obtain rfl : k=n:=by omega
      rw [List.take_of_length_le (by rw [← HN.out];exact Nat.le_refl _)] at hbl
      go_wp2_with (go_at_call 40;refine (b_text _ _ _ _ hbl hbw.size).mono ?_;rintro e w5 ⟨rfl,hb5⟩)
      go_ret
      exact ⟨rfl,hbw.trans hb5⟩
theorem itoa_one (n : Nat) (hn : n<10) : itoa (n : Int)=[UInt8.ofNat (48+n)]:=by
  have h:=Go.Lib.itoa_nonneg n
  rw [Go.Lib.decDigits_one hn] at h
  exact h
def evof (kind part rk rt : Int) (x : List UInt8) (late : Bool) (at_ er : Int) : Ev :=
  if kind=1 then .mark at_ else if kind=2 then .fault part er else .el late part rk rt x
def kd : Ev→Nat
  | .el ..=>0
  | .mark _=>1
  | .fault ..=>2
abbrev DX : Type:=Int×Int×(Int×Int×ByteArray×Unit)×Bool×Int×Int×Unit
def xe (d : DX) : Ev:=evof d.1 d.2.1 d.2.2.1.1 d.2.2.1.2.1 d.2.2.1.2.2.1.data.toList d.2.2.2.1 d.2.2.2.2.1 d.2.2.2.2.2.1
end Go.Proofs.YtmimfkhkilijcaaGreatDoor
