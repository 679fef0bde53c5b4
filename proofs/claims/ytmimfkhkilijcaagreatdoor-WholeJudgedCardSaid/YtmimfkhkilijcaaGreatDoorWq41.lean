/- RepLine; KEvB; RepPlay: what is reached of them. -/
import Derived.Test.YtmimfkhkilijcaaGreatDoorWq11
import Derived.Test.YtmimfkhkilijcaaGreatDoorWq06
import Derived.Test.YtmimfkhkilijcaaGreatDoorWq13
import Derived.Defers
import Derived.Recover
import Derived.Test.YtmimfkhkilijcaaGreatDoorWq12
import Derived.Test.YtmimfkhkilijcaaGreatDoorWq35
import Derived.Test.YtmimfkhkilijcaaGreatDoorWq34
import Derived.Test.YtmimfkhkilijcaaGreatDoorWq38
import Derived.Test.YtmimfkhkilijcaaGreatDoorWq40
set_option linter.unusedVariables false
set_option linter.unusedSimpArgs false
set_option maxRecDepth 100000
set_option maxHeartbeats 8000000
namespace Go.Proofs.YtmimfkhkilijcaaGreatDoor
open Go.ChangeShapes Go.WideShapes Go.ChangeAt Go.RowKit
open PWord
open Go.Lib (itoa)
def nsT (ns : List Int) : List UInt8:=(ns.map fun n=>32::itoa n).flatten
theorem nsT_snoc (ns : List Int) (n : Int) : nsT (ns++[n])=nsT ns++(32::itoa n):=by simp [nsT]
theorem glue_nsT : ∀ (x : List UInt8) (ns : List Int),glue 32 (x::ns.map itoa)=x++nsT ns
  | x,[]=>by simp [glue,nsT]
  | x,n::ns=>by
    rw [List.map_cons,glue_cons,glue_nsT (itoa n) ns]
    simp [nsT]
theorem lineOf_nsT (name : List UInt8) (ns : List Int) : lineOf name ns=name++nsT ns:=glue_nsT name ns
theorem nsT_len : ∀ (ns : List Int),(∀ n∈ns,in64 n)→(nsT ns).length≤ns.length*22
  | [],_=>by simp [nsT]
  | n::ns,h=>by
    have h1:=nsT_len ns (fun m hm=>h m (by simp [hm]))
    have h2:=itoa_len (h n (by simp))
    have : nsT (n::ns)=(32::itoa n)++nsT ns:=rfl
    rw [this,List.length_append,List.length_cons,List.length_cons,Nat.succ_mul]
    omega
theorem re_line (name : List UInt8) (ns : List Int) (a : Option Addr) (n c : Nat) (w : World) (he : EnvW w) (hr : RowI w .i64 a ns) (hn : n=ns.length) (hl : n≤10) (hna : name.length≤21) :
    Calls Tryz.prog 47 #[.string (bstr name),.slice a n c] w fun e w'=>e = .returned (.string (bstr (lineOf name ns++[10])))∧Below w.heap.size w w':=by
  have hb64 : ∀ x∈ns,in64 x:=fun x hx=>bounds_i64 (hr.wf x hx)
  have HLL : Hid (∀ k,(nsT (ns.take k)).length≤220):=fun k=>by
    have h1:=nsT_len (ns.take k) (fun m hm=>hb64 m (List.mem_of_mem_take hm))
    have h2:=List.length_take_le k ns
    have h3 : (ns.take k).length≤ns.length:=by rw [List.length_take];omega
    have : (ns.take k).length*22≤10*22:=Nat.mul_le_mul_right 22 (by omega)
    omega
  have HB:=Lib.hid hb64
  have HN:=Lib.hid hn
  have hz:=b_zero w
  have hb0 : Below w.heap.size w (w.alloc (.cells #[.pointer none,.slice none 0 0] 81)):=(Below.refl _ _).alloc (Nat.le_refl _) _
  have HW0:=Lib.hid (fun w' (h : Bld w.heap.size w.heap.size [] w') (hB : w.heap.size≤w'.heap.size)=>b_write w.heap.size w.heap.size [] (bstr name) w' h (by rw [tx_size];simp only [List.length_nil];omega) hB)
  have HLN:=Lib.hid (lineOf_nsT name ns)
  clear hb64 hn
  go_enter Tryz.func47,Tryz.ntmps47
  go_wp2_with (go_at_call 36;(with_reducible refine (HW0.out _ hz hb0.size).mono ?_);rintro e w1 ⟨rfl,hon1⟩;have hbl1 : Bld w.heap.size w.heap.size (name++nsT (ns.take 0)) w1:=(by simpa [nsT] using hon1.1);have hbw1:=hb0.trans hon1.2.1)
  clear hz HW0
  go_loopw [12] (fun i wr=>∃ k : Nat,i = .int .i64 k∧k≤n∧Bld w.heap.size w.heap.size (name++nsT (ns.take k)) wr∧Below w.heap.size w wr) (fun i _=>n - (intOf i).toNat)
  case atStart=>exact ⟨0,rfl,Nat.zero_le _,hbl1,hbw1⟩
  case round =>
    clear hb0 hon1 hbl1 hbw1
    obtain ⟨k,rfl,hk,hbl,hb⟩:=hrel
    have hwB:=hb.size
    have hln:=HLL.out k
    by_cases hlt : k<n
    · have hk1 : k<ns.length:=by rw [← HN.out];exact hlt
      have hri:=hr.below hb
      obtain ⟨b,off,rfl,hbb,q0⟩:=hri.at_ k hk1
      have HT : Hid (name++nsT (ns.take (k+1))=name++nsT (ns.take k)++(32::itoa ns[k])):=by
        refine Lib.hid ?_
        rw [List.take_succ_eq_append_getElem hk1,nsT_snoc,List.append_assoc]
      have hx:=HB.out _ (List.getElem_mem hk1)
      have hil:=itoa_len hx
      have HI:=Lib.hid (li_itoa _ hx wr (he.on hb))
      clear hri
      generalize ns[k]=x at *
      clear hk1 hx
      have hcat:=fun w=>tx_run w [32] (itoa x) (by simp only [List.length_cons,List.length_nil];omega)
      obtain ⟨u,hu⟩ : ∃ u,bstr ([32]++itoa x)=u:=⟨_,rfl⟩
      have hwr:=fun w' (h : Bld w.heap.size w.heap.size (name++nsT (ns.take k)) w') (hB : w.heap.size≤w'.heap.size)=>b_write w.heap.size w.heap.size (name++nsT (ns.take k)) (bstr ([32]++itoa x)) w' h (by rw [tx_size,List.length_append];simp only [List.length_append,List.length_cons,List.length_nil];omega) hB
      rw [show (bstr ([32]++itoa x)).data.toList=32::itoa x from rfl,← HT.out] at hwr
      have HW:=Lib.hid hwr
      rw [hu] at hcat HW
      clear hwr hu HT
      generalize itoa x=ix at *
      go_wp2_with (first|(go_at_call 84;(with_reducible refine HI.out.mono ?_);rintro e w2 ⟨rfl,hb2⟩;have hbl2:=bld_on hbl hb2;have hbw2:=on_below hb hb2)|(go_at_call 36;(with_reducible refine (HW.out _ hbl2 hbw2.size).mono ?_);rintro e w3 ⟨rfl,hon3⟩))
      go_roundw
      case rel=>exact ⟨k+1,by go_num,hlt,hon3.1,hbw2.trans hon3.2.1⟩
      case measure=>simp [intOf];omega
    · obtain rfl : k=n:=by omega
      rw [List.take_of_length_le (by rw [← HN.out];exact Nat.le_refl _)] at hbl hln
      have HW:=Lib.hid (b_write w.heap.size w.heap.size (name++nsT ns) ⟨#[10]⟩ wr hbl (by rw [List.length_append];show _+1≤_;omega) hwB)
      rw [show (⟨#[10]⟩ : ByteArray).data.toList=[10] from rfl] at HW
      have HT:=fun w' h hB=>Lib.hid (b_text w.heap.size w.heap.size (name++nsT ns++[10]) w' h hB)
      go_wp2_with (first|(go_at_call 36;(with_reducible refine HW.out.mono ?_);rintro e w3 ⟨rfl,hon3⟩;have hb3:=hb.trans hon3.2.1;have hB3:=hon3.1)|(go_at_call 40;(with_reducible refine (HT _ hB3 hb3.size).out.mono ?_);rintro e w5 ⟨rfl,hb5⟩))
      go_ret
      exact ⟨by rw [HLN.out,List.append_assoc];rfl,hb3.trans hb5⟩
open PQuote PSign PEv
theorem info_strE : (Tryz.prog.info? 9).map (fun i=>(i.zero,i.size,i.bytes))=some (some (.string ByteArray.empty),1,16):=by kernel_rfl
def wordsE (name : List UInt8) (ns : List Int) : List ByteArray:=bstr name::ns.map fun n=>bstr (itoa n)
theorem wordsE_len (name : List UInt8) (ns : List Int) : (wordsE name ns).length=ns.length+1:=by simp [wordsE]
theorem wordsE_snoc (name : List UInt8) (ns : List Int) (n : Int) : wordsE name (ns++[n])=wordsE name ns++[bstr (itoa n)]:=by simp [wordsE]
theorem wordsE_glue (name : List UInt8) (ns : List Int) : glue 32 ((wordsE name ns).map (·.data.toList))=lineOf name ns:=by
  simp only [wordsE,List.map_cons,List.map_map]
  rfl
theorem ev_line (name : List UInt8) (ns : List Int) (a : Option Addr) (n c : Nat) (w : World) (he : EnvW w) (hr : RowI w .i64 a ns) (hn : n=ns.length) (hl : n≤3) (hna : name.length≤21) :
    Calls Tryz.prog 297 #[.string (bstr name),.slice a n c] w fun e w'=>e = .returned (.string (bstr (lineOf name ns)))∧Below w.heap.size w w':=by
  have hb64 : ∀ x∈ns,in64 x:=fun x hx=>bounds_i64 (hr.wf x hx)
  have hll:=lineOf_len name ns hna hb64
  have hwg:=wordsE_glue name ns
  have HLL : Hid ((lineOf name ns).length≤1000):=Lib.hid (by rw [← hn] at hll;omega)
  have HB:=Lib.hid hb64
  have HN:=Lib.hid hn
  have HWG:=Lib.hid hwg
  clear hll hb64 hn hwg
  obtain ⟨i0,hi,hz0,hz1,hz2⟩:=info_parts info_strE
  have hs0:=Sl.made (B:=w.heap.size) w #[.string (bstr name)] 9 1 1 1 (Nat.le_refl _) (Nat.le_refl _) (by decide) (by simp)
  have hb0 : Below w.heap.size w (w.alloc (.cells #[.string (bstr name)] 9)):=(Below.refl _ _).alloc (Nat.le_refl _) _
  generalize lineOf name ns=L at *
  go_enter Tryz.func297,Tryz.ntmps297
  go_wp2
  go_loopw [5,12] (fun v i wr=>∃ (k : Nat) (av : Option Addr) (cv : Nat),i = .int .i64 k∧k≤n∧v = .slice av (k+1) cv∧Sl w.heap.size wr 1 (.slice av (k+1) cv) (k+1) (sv (wordsE name (ns.take k)))∧Below w.heap.size w wr) (fun _ i _=>n - (intOf i).toNat)
  case atStart=>exact ⟨0,_,_,rfl,Nat.zero_le _,rfl,hs0,hb0⟩
  case round =>
    clear hs0 hb0
    obtain ⟨k,av,cv,rfl,hk,rfl,hsl,hb⟩:=hrel
    have hri:=hr.below hb
    by_cases hlt : k<n
    · have hk1 : k<ns.length:=by rw [← HN.out];exact hlt
      obtain ⟨b,off,rfl,hbl,q0⟩:=hri.at_ k hk1
      have HT : Hid (ns.take (k+1)=ns.take k++[ns[k]]):=List.take_succ_eq_append_getElem hk1
      have hx:=HB.out _ (List.getElem_mem hk1)
      have HI:=Lib.hid (li_itoa _ hx wr (he.on hb))
      clear hri
      generalize hxk : ns[k]=x at *
      clear hxk hk1 hx
      have hm1 : k+1+1≤maxLen:=by unfold maxLen;omega
      have hwB:=hb.size
      go_wp2_with (first|(go_at_call 84;refine HI.out.mono ?_;rintro e w2 ⟨rfl,hb2⟩;have hs2:=(hsl.onW hb2).alloc (.cells #[.string (bstr (itoa x))] 9);have hw2 : w.heap.size≤w2.heap.size:=Nat.le_trans hwB hb2.size)|(at_builtin;refine wpList_append_sl _ rfl (.tmp 16) (.tmp 19) 25 25 rfl 9 i0 _ 16 Tryz.underlying25 hi hz0 hz1 hz2 rfl rfl hs2 _ 1 [.string (bstr (itoa x))] rfl (src_oneN Tryz.underlying25 _ (.string (bstr (itoa x))) _ _ (by simp) rfl) hm1 (by omega) (by simp;omega) ?_;intro v1 w3 k1 k2 k3;obtain ⟨av1,cv1,rfl⟩:=k1.shape))
      go_roundw
      case rel=>exact ⟨k+1,_,_,by go_num,by omega,rfl,(by rw [HT.out,wordsE_snoc,sv_snoc];exact k1),((on_below hb hb2).alloc (by omega) _).upd k2 (by simp;omega) (fun i _ hi=>by have:=(hsl.lt i hi).1;omega)⟩
      case measure=>simp [intOf];omega
    · obtain rfl : k=n:=by omega
      rw [List.take_of_length_le (by rw [← HN.out];exact Nat.le_refl _)] at hsl
      obtain ⟨hln,a2,c2,hv,hc2,hrow⟩:=rows_of_sl hsl
      have hwl:=wordsE_len name ns
      rw [← HN.out] at hwl
      rw [hwl] at hc2
      have hv2 : Value.slice av (k+1) cv = .slice a2 (k+1) c2:=by rw [hv,hwl]
      cases hv2
      obtain ⟨g,off,rfl,hgl⟩:=hrow.lt (by rw [hwl];omega)
      have hj:=li_join g off cv _ wr hrow (by omega) (by omega) (by omega) (by rw [HWG.out];have:=HLL.out;omega)
      rw [hwl,HWG.out] at hj
      have HJ:=Lib.hid hj
      clear hj hv hwl hln
      go_wp2_with (go_at_call 18;refine HJ.out.mono ?_;rintro e w4 ⟨rfl,hb4⟩)
      go_ret
      exact ⟨rfl,on_below hb hb4⟩
theorem rowi_new (w : World) (l : List Int) (e : TypeId) (hl : l.length≤maxLen) (hb : ∀ x∈l,-9223372036854775808≤x∧x≤9223372036854775807) : RowI (w.alloc (.cells (iv l).toArray e)) .i64 (some ⟨w.heap.size,0,none⟩) l:=by
  have h:=At.alloc w (iv l) e
  refine ⟨hl,fun i hi=>⟨_,0,rfl,h.1,?_⟩,fun x hx=>by have:=hb x hx;simp [Lit.wf,IntKind.min,IntKind.max,IntKind.bits,IntKind.signed];omega⟩
  have:=(h.2 i (by rw [iv_len];exact hi)).1
  rw [Nat.zero_add,this]
  simp [iv]
theorem in_two {p n : Int} (hp : in64 p) (hn : in64 n) : ∀ x∈[p,n],-9223372036854775808≤x∧x≤9223372036854775807:=by
  intro x hx
  simp only [List.mem_cons,List.not_mem_nil,or_false] at hx
  rcases hx with rfl|rfl
  · exact hp
  · exact hn
theorem in_three {p k n : Int} (hp : in64 p) (hk : in64 k) (hn : in64 n) : ∀ x∈[p,k,n],-9223372036854775808≤x∧x≤9223372036854775807:=by
  intro x hx
  simp only [List.mem_cons,List.not_mem_nil,or_false] at hx
  rcases hx with rfl|rfl|rfl
  · exact hp
  · exact hk
  · exact hn
theorem mark_line (n : Int) (hn : in64 n) (w : World) (he : EnvW w) :
    Calls Tryz.prog 296 #[.agg #[.int .i64 n]] w fun e w'=>e = .returned (.string (bstr (eline (.mark n))))∧Below w.heap.size w w':=by
  have hr : RowI ((w.alloc (.cells #[.int .i64 n] 125)).alloc (.cells #[.int .i64 n] 3)) .i64 (some ⟨w.heap.size+1,0,none⟩) [n]:=by
    have h:=rowi_new (w.alloc (.cells #[.int .i64 n] 125)) [n] 3 (by unfold maxLen;simp) (by intro x hx;rw [List.mem_singleton] at hx;subst hx;exact hn)
    rw [World.size_alloc] at h
    exact h
  have hb1 : Below w.heap.size w ((w.alloc (.cells #[.int .i64 n] 125)).alloc (.cells #[.int .i64 n] 3)):=((Below.refl _ _).alloc (Nat.le_refl _) _).alloc (by simp) _
  have HL:=Lib.hid (ev_line tMark [n] (some ⟨w.heap.size+1,0,none⟩) 1 1 _ (he.on hb1) hr rfl (by decide) (by decide))
  have HB:=Lib.hid hb1
  clear hr hb1
  go_enter Tryz.func296,Tryz.ntmps296
  go_wp2_with (go_at_call 297;refine HL.out.mono ?_;rintro e w2 ⟨rfl,hb2⟩)
  go_ret
  exact ⟨rfl,on_below HB.out hb2⟩
theorem fault_line (p n : Int) (hp : in64 p) (hn : in64 n) (w : World) (he : EnvW w) :
    Calls Tryz.prog 298 #[.agg #[.int .i64 p,.int .i64 n]] w fun e w'=>e = .returned (.string (bstr (eline (.fault p n))))∧Below w.heap.size w w':=by
  have hr : RowI ((w.alloc (.cells #[.int .i64 p,.int .i64 n] 127)).alloc (.cells #[.int .i64 p,.int .i64 n] 3)) .i64 (some ⟨w.heap.size+1,0,none⟩) [p,n]:=by
    have h:=rowi_new (w.alloc (.cells #[.int .i64 p,.int .i64 n] 127)) [p,n] 3 (by unfold maxLen;simp) (in_two hp hn)
    rw [World.size_alloc] at h
    exact h
  have hb1 : Below w.heap.size w ((w.alloc (.cells #[.int .i64 p,.int .i64 n] 127)).alloc (.cells #[.int .i64 p,.int .i64 n] 3)):=((Below.refl _ _).alloc (Nat.le_refl _) _).alloc (by simp) _
  have HL:=Lib.hid (ev_line tFault [p,n] (some ⟨w.heap.size+1,0,none⟩) 2 2 _ (he.on hb1) hr rfl (by decide) (by decide))
  have HB:=Lib.hid hb1
  clear hr hb1
  go_enter Tryz.func298,Tryz.ntmps298
  go_wp2_with (go_at_call 297;refine HL.out.mono ?_;rintro e w2 ⟨rfl,hb2⟩)
  go_ret
  exact ⟨rfl,on_below HB.out hb2⟩
theorem el_line (late : Bool) (p k t : Int) (x : List UInt8) (hp : in64 p) (hk : in64 k) (ht : in64 t) (hx : x.length≤4096) (w : World) (he : EnvE w) :
    Calls Tryz.prog 299 #[.agg #[.int .i64 p,.int .i64 k,.int .i64 t,.string (bstr x),.bool late]] w fun e w'=>e = .returned (.string (bstr (eline (.el late p k t x))))∧Below w.heap.size w w':=by
  have hel : eline (.el late p k t x)=lineOf (elName late) [p,k,t]++[32]++quote x:=by simp [eline]
  have hll:=lineOf_len (elName late) [p,k,t] (by cases late <;> decide) (in_three hp hk ht)
  have hlq:=quote_big x
  simp only [List.length_cons,List.length_nil] at hll
  obtain ⟨t1,ht1,hc1⟩:=tx_lets (lineOf (elName late) [p,k,t]) [32] (by simp only [List.length_cons,List.length_nil];omega)
  obtain ⟨t2,ht2,hc2⟩:=tx_lets (lineOf (elName late) [p,k,t]++[32]) (quote x) (by simp only [List.length_append,List.length_cons,List.length_nil];omega)
  rw [ht1] at hc2
  rw [hel,ht2]
  have hA:=At.alloc w [.int .i64 p,.int .i64 k,.int .i64 t,.string (bstr x),.bool late] 130
  have hb0 : Below w.heap.size w (w.alloc (.cells #[.int .i64 p,.int .i64 k,.int .i64 t,.string (bstr x),.bool late] 130)):=(Below.refl _ _).alloc (Nat.le_refl _) _
  have HQ:=fun w' h=>Lib.hid (q_quote (bstr x) w' (by rw [bstr_len];omega) h)
  rw [show (bstr x).data.toList=x from rfl] at HQ
  have HL:=fun w' h G hr=>Lib.hid (ev_line (elName late) [p,k,t] (some ⟨G,0,none⟩) 3 3 w' h hr rfl (by decide) (by cases late <;> decide))
  have HR : ∀ w' : World,Hid (RowI (w'.alloc (.cells #[.int .i64 p,.int .i64 k,.int .i64 t] 3)) .i64 (some ⟨w'.heap.size,0,none⟩) [p,k,t]):=fun w'=>rowi_new w' [p,k,t] 3 (by unfold maxLen;simp) (in_three hp hk ht)
  have he1:=he.on hb0
  obtain ⟨hg,c0,z0,c1,z1,c2,z2,c3,z3,c4,z4⟩:=hA.five
  clear hA ht1 ht2 hel hll hlq hx hp hk ht z0 z1 z2 z3 z4
  generalize lineOf (elName late) [p,k,t]=L at *
  generalize quote x=Q at *
  cases late with
  | false =>
    rw [show bstr (elName false)=(⟨#[101,108,101,109,101,110,116]⟩ : ByteArray) from rfl] at HL
    go_enter Tryz.func299,Tryz.ntmps299
    go_wp2
    generalize w.alloc (.cells #[.int .i64 p,.int .i64 k,.int .i64 t,.string (bstr x),.bool false] 130)=w1 at *
    generalize hNN : w.heap.size=N at *
    have HNN:=Lib.hid hNN
    clear hNN
    have hM : Below w1.heap.size w1 (w1.alloc (.cells #[.int .i64 p,.int .i64 k,.int .i64 t] 3)).drew:=((Below.refl _ _).alloc (Nat.le_refl _) _).drew
    have b0:=cell_kept hM c0
    have b1:=cell_kept hM c1
    have b2:=cell_kept hM c2
    have b3:=cell_kept hM c3
    have hr0 : RowI (w1.alloc (.cells #[.int .i64 p,.int .i64 k,.int .i64 t] 3)).drew .i64 (some ⟨w1.heap.size,0,none⟩) [p,k,t]:=(HR w1).out.below (Below.refl _ _).drew
    have he2:=he1.on hM
    go_cut [2] (fun v wx=>v = .string t2∧Below w1.heap.size w1 wx)
    case first =>
      go_region_held3 (fun wx=>wx.cell? ⟨N,0,none⟩=some (.int .i64 p)∧wx.cell? ⟨N,1,none⟩=some (.int .i64 k)∧wx.cell? ⟨N,2,none⟩=some (.int .i64 t)∧wx.cell? ⟨N,3,none⟩=some (.string (bstr x))) (first|exact ⟨c0,c1,c2,c3⟩|exact ⟨b0,b1,b2,b3⟩|exact ⟨d0,d1,d2,d3⟩|exact ⟨f0,f1,f2,f3⟩|fail) (first|(go_at_call 297;(with_reducible refine (HL _ he2.wd _ hr0).out.mono ?_);rintro e wp ⟨rfl,hbp⟩;have d0:=cell_kept hbp b0;have d1:=cell_kept hbp b1;have d2:=cell_kept hbp b2;have d3:=cell_kept hbp b3;have he3:=he2.on hbp)|(go_at_call 38;(with_reducible refine (HQ _ he3.qu).out.mono ?_);rintro e wq ⟨rfl,hbq⟩;have f0:=cell_kept hbq d0;have f1:=cell_kept hbq d1;have f2:=cell_kept hbq d2;have f3:=cell_kept hbq d3))
      all_goals (go_wp2_with fail;go_meet;exact ⟨rfl,on_below (on_below hM hbp) hbq⟩)
    case rest =>
      obtain ⟨rfl,hb2⟩:=hcut
      go_wp2
      go_ret
      exact ⟨rfl,by rw [HNN.out];exact hb0.trans (hb2.mono (by have:=hb0.size;have:=HNN.out;omega))⟩
  | true =>
    rw [show bstr (elName true)=(⟨#[108,97,116,101]⟩ : ByteArray) from rfl] at HL
    go_enter Tryz.func299,Tryz.ntmps299
    go_wp2
    generalize w.alloc (.cells #[.int .i64 p,.int .i64 k,.int .i64 t,.string (bstr x),.bool true] 130)=w1 at *
    generalize hNN : w.heap.size=N at *
    have HNN:=Lib.hid hNN
    clear hNN
    have hM : Below w1.heap.size w1 (w1.alloc (.cells #[.int .i64 p,.int .i64 k,.int .i64 t] 3)).drew:=((Below.refl _ _).alloc (Nat.le_refl _) _).drew
    have b0:=cell_kept hM c0
    have b1:=cell_kept hM c1
    have b2:=cell_kept hM c2
    have b3:=cell_kept hM c3
    have hr0 : RowI (w1.alloc (.cells #[.int .i64 p,.int .i64 k,.int .i64 t] 3)).drew .i64 (some ⟨w1.heap.size,0,none⟩) [p,k,t]:=(HR w1).out.below (Below.refl _ _).drew
    have he2:=he1.on hM
    go_cut [2] (fun v wx=>v = .string t2∧Below w1.heap.size w1 wx)
    case first =>
      go_region_held3 (fun wx=>wx.cell? ⟨N,0,none⟩=some (.int .i64 p)∧wx.cell? ⟨N,1,none⟩=some (.int .i64 k)∧wx.cell? ⟨N,2,none⟩=some (.int .i64 t)∧wx.cell? ⟨N,3,none⟩=some (.string (bstr x))) (first|exact ⟨c0,c1,c2,c3⟩|exact ⟨b0,b1,b2,b3⟩|exact ⟨d0,d1,d2,d3⟩|exact ⟨f0,f1,f2,f3⟩|fail) (first|(go_at_call 297;(with_reducible refine (HL _ he2.wd _ hr0).out.mono ?_);rintro e wp ⟨rfl,hbp⟩;have d0:=cell_kept hbp b0;have d1:=cell_kept hbp b1;have d2:=cell_kept hbp b2;have d3:=cell_kept hbp b3;have he3:=he2.on hbp)|(go_at_call 38;(with_reducible refine (HQ _ he3.qu).out.mono ?_);rintro e wq ⟨rfl,hbq⟩;have f0:=cell_kept hbq d0;have f1:=cell_kept hbq d1;have f2:=cell_kept hbq d2;have f3:=cell_kept hbq d3))
      all_goals (go_wp2_with fail;go_meet;exact ⟨rfl,on_below (on_below hM hbp) hbq⟩)
    case rest =>
      obtain ⟨rfl,hb2⟩:=hcut
      go_wp2
      go_ret
      exact ⟨rfl,by rw [HNN.out];exact hb0.trans (hb2.mono (by have:=hb0.size;have:=HNN.out;omega))⟩
theorem told_idle (w : World) : CallsD Tryz.prog 173 #[] .returning w fun e u' w'=>e = .returned (.tuple #[])∧u' = .returning∧w'=w:=by
  refine callsD_of_wpS Tryz.func173 rfl fun c₀ cs hu=>?_
  apply wpS_region
  simp [wpOpsS,go_sem,recoverD,hu,Tryz.ntmps173,bodyPostS,results,Tryz.results173]
  cases c₀
  simp_all
theorem ev_told (v : Ev) (hv : v.ok) (hx : (etext v).length≤4096) (w : World) (he : EnvE w) :
    Calls Tryz.prog 115 #[evv v] w fun e w'=>e = .returned (.string (bstr (eline v)))∧Below w.heap.size w w':=by
  cases v with
  | mark n =>
    have HM:=Lib.hid (mark_line n hv w he.wd)
    show Calls Tryz.prog 115 #[.iface 125 (.agg #[.int .i64 n])] w _
    go_enter_defers Tryz.func115,Tryz.ntmps115
    go_wp2_with (first|(go_at_call 296;refine HM.out.mono ?_;rintro e w1 ⟨rfl,hb1⟩)|(refine HM.out.mono ?_;rintro e w1 ⟨rfl,hb1⟩))
    refine leaves_cons (f:=173) (args:=#[]) (by simp) (by simp [go_sem]) ?_
    refine (told_idle _).mono ?_
    rintro e u' w'' ⟨rfl,rfl,rfl⟩
    exact ⟨_,results_tmp rfl _ _ _,rfl,hb1⟩
  | fault p n =>
    have HM:=Lib.hid (fault_line p n hv.1 hv.2 w he.wd)
    show Calls Tryz.prog 115 #[.iface 127 (.agg #[.int .i64 p,.int .i64 n])] w _
    go_enter_defers Tryz.func115,Tryz.ntmps115
    go_wp2_with (first|(go_at_call 298;refine HM.out.mono ?_;rintro e w1 ⟨rfl,hb1⟩)|(refine HM.out.mono ?_;rintro e w1 ⟨rfl,hb1⟩))
    refine leaves_cons (f:=173) (args:=#[]) (by simp) (by simp [go_sem]) ?_
    refine (told_idle _).mono ?_
    rintro e u' w'' ⟨rfl,rfl,rfl⟩
    exact ⟨_,results_tmp rfl _ _ _,rfl,hb1⟩
  | el late p k t x =>
    have HM:=Lib.hid (el_line late p k t x hv.1 hv.2.1 hv.2.2 hx w he)
    show Calls Tryz.prog 115 #[.iface 130 (.agg #[.int .i64 p,.int .i64 k,.int .i64 t,.string (bstr x),.bool late])] w _
    go_enter_defers Tryz.func115,Tryz.ntmps115
    go_wp2_with (first|(go_at_call 299;refine HM.out.mono ?_;rintro e w1 ⟨rfl,hb1⟩)|(refine HM.out.mono ?_;rintro e w1 ⟨rfl,hb1⟩))
    refine leaves_cons (f:=173) (args:=#[]) (by simp) (by simp [go_sem]) ?_
    refine (told_idle _).mono ?_
    rintro e u' w'' ⟨rfl,rfl,rfl⟩
    exact ⟨_,results_tmp rfl _ _ _,rfl,hb1⟩
def etexts (l : List Ev) : List UInt8:=l.flatMap fun v=>eline v++[10]
theorem etexts_snoc (l : List Ev) (v : Ev) : etexts (l++[v])=etexts l++eline v++[10]:=by simp [etexts]
theorem etexts_len (l : List Ev) (k : Nat) : (etexts (l.take k)).length≤(etexts l).length:=by
  have h : etexts l=etexts (l.take k)++etexts (l.drop k):=by
    unfold etexts
    rw [← List.flatMap_append,List.take_append_drop]
  rw [h,List.length_append]
  omega
theorem ev_text (a : Option Addr) (n c : Nat) (l : List Ev) (w : World) (he : EnvE w) (hr : RowE w a l) (hn : n=l.length) (hl : n≤100000) (hv : ∀ v∈l,v.ok∧(etext v).length≤4096) (hb : (etexts l).length≤1000000000) :
    Calls Tryz.prog 60 #[.slice a n c] w fun e w'=>e = .returned (.string (bstr (etexts l)))∧Below w.heap.size w w':=by
  have hz:=b_zero w
  have hb0 : Below w.heap.size w (w.alloc (.cells #[.pointer none,.slice none 0 0] 81)):=(Below.refl _ _).alloc (Nat.le_refl _) _
  have hbm:=bld_made w
  have HN:=Lib.hid hn
  have HV:=Lib.hid hv
  have HT:=Lib.hid (fun k=>etexts_len l k)
  clear hn hv
  have hnil : Bld w.heap.size w.heap.size (etexts (l.take 0)) (w.alloc (.cells #[.pointer none,.slice none 0 0] 81)):=hz
  clear hz
  go_enter Tryz.func60,Tryz.ntmps60
  go_wp2
  go_loopw [8] (fun i wr=>∃ k : Nat,i = .int .i64 k∧k≤n∧Bld w.heap.size w.heap.size (etexts (l.take k)) wr∧Below w.heap.size w wr∧w.heap.size<wr.heap.size) (fun i _=>n - (intOf i).toNat)
  case atStart=>exact ⟨0,rfl,Nat.zero_le _,hnil,hb0,by simp⟩
  case round =>
    clear hnil hb0 hbm
    obtain ⟨k,rfl,hk,hbl,hbw,hlt⟩:=hrel
    by_cases hkn : k<n
    · have hk1 : k<l.length:=by rw [← HN.out];exact hkn
      obtain ⟨b,off,rfl,hbs,q0⟩:=(hr.on hbw).at_ k hk1
      obtain ⟨hvo,hvx⟩:=HV.out _ (List.getElem_mem hk1)
      have hsn:=etexts_snoc (l.take k) l[k]
      rw [← List.take_succ_eq_append_getElem hk1] at hsn
      have hln:=HT.out (k+1)
      rw [hsn,List.length_append,List.length_append] at hln
      have HTO:=Lib.hid (ev_told l[k] hvo hvx wr (he.on hbw))
      have hw1:=fun w' (h : Bld w.heap.size w.heap.size (etexts (l.take k)) w') (hB : w.heap.size≤w'.heap.size)=>b_write w.heap.size w.heap.size (etexts (l.take k)) (bstr (eline l[k])) w' h (by rw [bstr_len];omega) hB
      rw [show (bstr (eline l[k])).data.toList=eline l[k] from rfl] at hw1
      have hw2:=fun w' (h : Bld w.heap.size w.heap.size (etexts (l.take k)++eline l[k]) w') (hB : w.heap.size≤w'.heap.size)=>b_write w.heap.size w.heap.size (etexts (l.take k)++eline l[k]) ⟨#[10]⟩ w' h (by rw [List.length_append];show _+1≤_;omega) hB
      rw [show (⟨#[10]⟩ : ByteArray).data.toList=[10] from rfl,← hsn] at hw2
      have HW1:=Lib.hid hw1
      have HW2:=Lib.hid hw2
      clear hw1 hw2 hsn hln hvo hvx
      generalize hE1 : etexts (l.take (k+1))=E1 at *
      have HE1:=Lib.hid hE1
      clear hE1
      generalize hEl : eline l[k]=T at *
      generalize l[k]=ev at *
      clear hEl
      generalize etexts (l.take k)=E0 at *
      clear hk1
      go_wp2_with (first|(go_at_call 115;(with_reducible refine HTO.out.mono ?_);rintro e w2 ⟨rfl,hb2⟩;have hbl2:=bld_on hbl hb2;have hbw2:=on_below hbw hb2;have hlt2:=Nat.lt_of_lt_of_le hlt hb2.size)|(go_at_call 36;first|((with_reducible refine (HW1.out _ hbl2 hbw2.size).mono ?_);rintro e w3 ⟨rfl,hon3⟩;have hbw3:=hbw2.trans hon3.2.1;have hB3:=hon3.1)|((with_reducible refine (HW2.out _ hB3 hbw3.size).mono ?_);rintro e w4 ⟨rfl,hon4⟩;have hbw4:=hbw3.trans hon4.2.1)))
      go_roundw
      case rel=>exact ⟨k+1,by go_num,hkn,by rw [HE1.out];exact hon4.1,hbw4,Nat.lt_of_lt_of_le hlt2 (Nat.le_trans hon3.2.1.size hon4.2.1.size)⟩
      case measure=>simp [intOf];omega
    · obtain rfl : k=n:=by omega
      rw [List.take_of_length_le (by rw [← HN.out];exact Nat.le_refl _)] at hbl
      go_wp2_with (go_at_call 40;refine (b_text _ _ _ _ hbl hbw.size).mono ?_;rintro e w5 ⟨rfl,hb5⟩)
      go_ret
      exact ⟨rfl,hbw.trans hb5⟩
theorem hq_small (x? : Option (List UInt8)) (s : ByteArray) (hs : s.size≤4096) : ∀ a1 a2 a3 q,cuts 32 3 (Lib.cut s.data.toList [32]).2.1=[a1,a2,a3,q]→q.length≤4096∨∃ x,x? = some x∧q=quote x:=by
  intro a1 a2 a3 q h
  have h1:=(cuts_lim 32 3 (Lib.cut s.data.toList [32]).2.1).2 q (by rw [h];simp)
  have h2:=cut_le s.data.toList
  have h3 : s.data.toList.length=s.size:=by simp
  exact .inl (by omega)
theorem hq_line (v : Ev) (hv : v.ok) : ∀ a1 a2 a3 q,cuts 32 3 (Lib.cut (eline v) [32]).2.1=[a1,a2,a3,q]→q.length≤4096∨∃ x,some (etext v)=some x∧q=quote x:=by
  intro a1 a2 a3 q h
  cases v with
  | el late p k t x =>
    obtain ⟨h1,h2,h3⟩:=hv
    have hn : (32 : UInt8)∉elName late:=by cases late <;> decide
    have hl : eline (.el late p k t x)=elName late++32::(itoa p++32::(itoa k++32::(itoa t++32::quote x))):=by simp [eline,lineOf,glue]
    rw [hl,cut_some 32 _ _ hn] at h
    simp only at h
    rw [quote_cuts 2 p h1,quote_cuts 1 k h2,quote_cuts 0 t h3,show cuts 32 0 (quote x)=[quote x] from rfl] at h
    simp only [List.cons.injEq,and_true] at h
    exact .inr ⟨x,rfl,h.2.2.2.symm⟩
  | mark n =>
    have h1:=(cuts_lim 32 3 (Lib.cut (eline (.mark n)) [32]).2.1).2 q (by rw [h];simp)
    have h2:=cut_le (eline (.mark n))
    have h3:=eline_len (.mark n) hv
    have h4 : (etext (.mark n)).length=0:=rfl
    exact .inl (by omega)
  | fault p n =>
    have h1:=(cuts_lim 32 3 (Lib.cut (eline (.fault p n)) [32]).2.1).2 q (by rw [h];simp)
    have h2:=cut_le (eline (.fault p n))
    have h3:=eline_len (.fault p n) hv
    have h4 : (etext (.fault p n)).length=0:=rfl
    exact .inl (by omega)
theorem ev_read_line (v : Ev) (hv : v.ok) (hx : (etext v).length≤4096) (w : World) (he : EnvE w) :
    Calls Tryz.prog 29 #[.string (bstr (eline v))] w fun e w'=>e = .returned (.tuple #[evv v,.bool true])∧Below w.heap.size w w':=by
  have hl:=eline_len v hv
  refine (ev_read (some (etext v)) (fun x h=>by cases h;exact hx) (bstr (eline v)) w he (by rw [bstr_len];omega) (hq_line v hv)).mono ?_
  rintro e w' ⟨U,hR,rfl,hb,_⟩
  have h : eread U (bstr (eline v)).data.toList=some v:=eread_line v hv (hR.all _ rfl)
  exact ⟨by rw [h];rfl,hb⟩
theorem itoa_one (n : Nat) (hn : n<10) : itoa (n : Int)=[UInt8.ofNat (48+n)]:=by
  have h:=Go.Lib.itoa_nonneg n
  rw [Go.Lib.decDigits_one hn] at h
  exact h
def kd : Ev→Nat
  | .el ..=>0
  | .mark _=>1
  | .fault ..=>2
end Go.Proofs.YtmimfkhkilijcaaGreatDoor
namespace Go.Proofs.YtmimfkhkilijcaaGreatDoor
open Go.ChangeShapes Go.WideShapes Go.ChangeAt Go.RowKit
open PHist PRing PSat PClamp PBound PFrame PVar PCrc PSign PTree PEv
open Go.Lib (itoa)
def lineT (name : List UInt8) (ns : List Int) : List UInt8:=PWord.lineOf name ns++[10]
abbrev tPart : List UInt8:=[112,97,114,116]
abbrev tEnd : List UInt8:=[101,110,100]
abbrev tError : List UInt8:=[101,114,114,111,114]
def partsT (s : St) : Nat→List UInt8
  | 0=>[]
  | k+1=>partsT s k++lineT tPart [(k : Int),(pat s.ps k).is,((pat s.ps k).read : Int),(pat s.ps k).mark]
def outT (s : St) (evs : List Ev) (n : Nat) : List UInt8:=etexts evs++partsT s n++lineT tEnd [s.now,s.clock,(lates evs : Int)]
def playT (t d : Int) (rs : List Rul) (ls : List (List UInt8)) (cs : List (Bool×Int)) : List UInt8 :=
  if nerr rs t d ls.length=0 then outT ((St.new t d rs ls).run cs) (St.newE t rs ls++(St.new t d rs ls).runE cs) rs.length else lineT tError [nerr rs t d ls.length]
theorem lineT_len {name : List UInt8} {ns : List Int} (hn : name.length≤21) (hb : ∀ n∈ns,in64 n) : (lineT name ns).length≤(ns.length+1)*22+1:=by
  unfold lineT
  have:=PWord.lineOf_len name ns hn hb
  rw [List.length_append,List.length_singleton]
  omega
theorem etexts_max : ∀ (l : List Ev),(∀ v∈l,Fine v)→(etexts l).length≤l.length*4101
  | [],_=>by simp [etexts]
  | v::l,h=>by
    have h1:=etexts_max l (fun x hx=>h x (by simp [hx]))
    obtain ⟨h2,h3⟩:=h v (by simp)
    have h4:=eline_len v h2
    have : etexts (v::l)=(eline v++[10])++etexts l:=rfl
    rw [this]
    simp only [List.length_append,List.length_cons,List.length_nil]
    omega
theorem line1 (x0 : Int) (h0 : in64 x0) (w : World) (he : EnvW w) :
    Calls Tryz.prog 47 #[.string ⟨#[101,114,114,111,114]⟩,.slice (some ⟨w.heap.size,0,none⟩) 1 1] (w.alloc (.cells #[.int .i64 x0] 3)) fun e w'=>e = .returned (.string (bstr (lineT tError [x0])))∧Below w.heap.size w w':=by
  have hb : Below w.heap.size w (w.alloc (.cells (iv [x0]).toArray 3)):=(Below.refl _ _).alloc (Nat.le_refl _) _
  have hr:=rowi_made w [x0] 3 (by unfold maxLen;simp) (fun x hx=>by rw [List.mem_singleton.1 hx];exact h0)
  refine (re_line tError [x0] (some ⟨w.heap.size,0,none⟩) 1 1 _ (he.on hb) hr rfl (by omega) (by decide)).mono ?_
  rintro e w' ⟨rfl,h⟩
  exact ⟨rfl,on_below hb h⟩
theorem line3 (x0 x1 x2 : Int) (h0 : in64 x0) (h1 : in64 x1) (h2 : in64 x2) (w : World) (he : EnvW w) :
    Calls Tryz.prog 47 #[.string ⟨#[101,110,100]⟩,.slice (some ⟨w.heap.size,0,none⟩) 3 3] (w.alloc (.cells #[.int .i64 x0,.int .i64 x1,.int .i64 x2] 3)) fun e w'=>e = .returned (.string (bstr (lineT tEnd [x0,x1,x2])))∧Below w.heap.size w w':=by
  have hb : Below w.heap.size w (w.alloc (.cells (iv [x0,x1,x2]).toArray 3)):=(Below.refl _ _).alloc (Nat.le_refl _) _
  have hr:=rowi_made w [x0,x1,x2] 3 (by unfold maxLen;simp) (fun x hx=>by
    simp only [List.mem_cons,List.not_mem_nil,or_false] at hx
    rcases hx with rfl|rfl|rfl <;> assumption)
  refine (re_line tEnd [x0,x1,x2] (some ⟨w.heap.size,0,none⟩) 3 3 _ (he.on hb) hr rfl (by omega) (by decide)).mono ?_
  rintro e w' ⟨rfl,h⟩
  exact ⟨rfl,on_below hb h⟩
theorem line4 (x0 x1 x2 x3 : Int) (h0 : in64 x0) (h1 : in64 x1) (h2 : in64 x2) (h3 : in64 x3) (w : World) (he : EnvW w) :
    Calls Tryz.prog 47 #[.string ⟨#[112,97,114,116]⟩,.slice (some ⟨w.heap.size,0,none⟩) 4 4] (w.alloc (.cells #[.int .i64 x0,.int .i64 x1,.int .i64 x2,.int .i64 x3] 3)) fun e w'=>e = .returned (.string (bstr (lineT tPart [x0,x1,x2,x3])))∧Below w.heap.size w w':=by
  have hb : Below w.heap.size w (w.alloc (.cells (iv [x0,x1,x2,x3]).toArray 3)):=(Below.refl _ _).alloc (Nat.le_refl _) _
  have hr:=rowi_made w [x0,x1,x2,x3] 3 (by unfold maxLen;simp) (fun x hx=>by
    simp only [List.mem_cons,List.not_mem_nil,or_false] at hx
    rcases hx with rfl|rfl|rfl|rfl <;> assumption)
  refine (re_line tPart [x0,x1,x2,x3] (some ⟨w.heap.size,0,none⟩) 4 4 _ (he.on hb) hr rfl (by omega) (by decide)).mono ?_
  rintro e w' ⟨rfl,h⟩
  exact ⟨rfl,on_below hb h⟩
theorem pt_fits {s : St} (h : s.Ok) {k : Nat} (hk : k<s.ps.length) : in64 (pat s.ps k).is∧in64 ((pat s.ps k).read : Int)∧in64 (pat s.ps k).mark:=by
  have hp:=h.pt _ (pat_mem hk)
  have h1:=hp.lo
  have h2:=hp.hi
  have h3:=hp.rd
  have h4:=hp.few
  exact ⟨by unfold in64;omega,by unfold in64;omega,mark_in hp⟩
theorem partsT_len {s : St} (h : s.Ok) : ∀ k,k≤s.ps.length→(partsT s k).length≤k*111
  | 0,_=>by simp [partsT]
  | k+1,hk=>by
    have h1:=partsT_len h k (by omega)
    obtain ⟨f1,f2,f3⟩:=pt_fits h (show k<s.ps.length by omega)
    have h8:=h.n
    have h2:=lineT_len (name:=tPart) (ns:=[(k : Int),(pat s.ps k).is,((pat s.ps k).read : Int),(pat s.ps k).mark]) (by decide) (fun x hx=>by
      simp only [List.mem_cons,List.not_mem_nil,or_false] at hx
      rcases hx with rfl|rfl|rfl|rfl
      · unfold in64;omega
      · exact f1
      · exact f2
      · exact f3)
    unfold partsT
    rw [List.length_append,Nat.succ_mul]
    simp only [List.length_cons,List.length_nil] at h2
    omega
theorem case_okR {rs : List Rul} {t d : Int} {ls : List ByteArray} {m : Nat} (hm : m=ls.length) (hz : nerr rs t d m=0) (h8 : m≤8) (hf : ∀ r∈rs,r.Fits) (ht : in64 t) (hd : in64 d) (hs : ∀ s∈ls,s.size≤400) : (St.new t d rs (ls.map fun s=>s.data.toList)).Ok:=by
  obtain ⟨hc0,hmn⟩:=nerr_zero hz
  have ht1:=ccheck_t hc0
  exact new_ok (by rw [List.length_map];omega) (by omega) (fun r hr=>⟨ccheck_ok hc0 r hr,hf r hr⟩) (fun l hl=>by
    obtain ⟨s,hs',rfl⟩:=List.mem_map.1 hl
    exact hs s hs') ⟨ht1.2.1,ht.2⟩ ⟨ht1.2.2,hd.2⟩
section
variable {w0 w : World} {tag : Nat→Nat} {W : Nat→Nat→Prop} {ev : Value} {V : SrcV} {g : Nat} {s : St} {evs : List Ev} {beg : Nat}
theorem SrcI.tl_count (h : SrcI w0 w tag W ev V g s evs beg) (i : Nat) (hi : i<s.ps.length) (z : Nat) (hz : (pat s.ps i).read=z) : Calls Tryz.prog 62 #[.pointer (some ⟨g,0,none⟩),.int .i64 i] w fun e w'=>e = .returned (.int .i64 z)∧w=w' :=
  so_count tag W ev V g _ i _ w h.src (by rw [if_pos ⟨by omega,by show (i : Int)<(s.ps.length : Nat);omega⟩,Int.toNat_natCast,← hz];rfl)
theorem SrcI.tl_status (h : SrcI w0 w tag W ev V g s evs beg) (i : Nat) (hi : i<s.ps.length) (z : Int) (hz : (pat s.ps i).is=z) : Calls Tryz.prog 61 #[.pointer (some ⟨g,0,none⟩),.int .i64 i] w fun e w'=>e = .returned (.int .i64 z)∧w=w':=by
  rw [← hz];exact h.status i hi
theorem SrcI.tl_mark (h : SrcI w0 w tag W ev V g s evs beg) (i : Nat) (hi : i<s.ps.length) (z : Int) (hz : (pat s.ps i).mark=z) : Calls Tryz.prog 63 #[.pointer (some ⟨g,0,none⟩),.int .i64 i] w fun e w'=>e = .returned (.int .i64 z)∧w=w' :=
  so_mark tag W ev V g _ i _ w h.src (by rw [if_pos ⟨by omega,by show (i : Int)<(s.ps.length : Nat);omega⟩,Int.toNat_natCast,← hz];rfl)
theorem SrcI.tl_now (h : SrcI w0 w tag W ev V g s evs beg) : Calls Tryz.prog 64 #[.pointer (some ⟨g,0,none⟩)] w fun e w'=>e = .returned (.int .i64 s.now)∧w=w':=so_now tag W ev V g _ w h.src
theorem SrcI.tl_time (h : SrcI w0 w tag W ev V g s evs beg) : Calls Tryz.prog 65 #[.pointer (some ⟨g,0,none⟩)] w fun e w'=>e = .returned (.int .i64 s.clock)∧w=w':=so_time tag W ev V g _ w h.src
end
theorem rcheck_in (r : Rul) : in64 (rcheck r):=by
  unfold rcheck in64
  (repeat' split) <;> omega
theorem firstErr_in : ∀ rs : List Rul,in64 (firstErr rs)
  | []=>by unfold firstErr in64;omega
  | r::rs=>by
    unfold firstErr
    split
    · exact rcheck_in r
    · exact firstErr_in rs
theorem nerr_in (rs : List Rul) (t d : Int) (m : Nat) : in64 (nerr rs t d m):=by
  have h:=firstErr_in rs
  unfold nerr ccheck
  (repeat' split) <;> first|exact h|(unfold in64;omega)
theorem re_play {a : Option Addr} {n c : Nat} {t d : Int} {b : Option Addr} {m c2 : Nat} {q : Option Addr} {nq c3 : Nat} {rs : List Rul} {ls : List ByteArray} {cs : List (Bool×Int)} (w : World) (he : EnvE w) (hC : CaseC w a n c t d b m c2 q nq c3 rs ls cs) (hS : SmallC n m nq ls) (T : List UInt8) (hT : playT t d rs (ls.map fun s=>s.data.toList) cs=T) :
    Calls Tryz.prog 24 #[.agg #[.slice a n c,.int .i64 t,.int .i64 d,.slice b m c2,.slice q nq c3]] w fun e w'=>e = .returned (.string (bstr T))∧Below w.heap.size w w':=by
  obtain ⟨hm8,hnq,hn5,h400⟩:=hS
  have hbx : Below w.heap.size w (w.alloc (.cells #[.slice a n c,.int .i64 t,.int .i64 d,.slice b m c2,.slice q nq c3] 33)):=(Below.refl _ _).alloc (Nat.le_refl _) _
  have hA0:=At.alloc w [.slice a n c,.int .i64 t,.int .i64 d,.slice b m c2,.slice q nq c3] 33
  have hC0:=hC.on hbx
  have he0:=he.on hbx
  have hsz : w.heap.size<(w.alloc (.cells #[.slice a n c,.int .i64 t,.int .i64 d,.slice b m c2,.slice q nq c3] 33)).heap.size:=hA0.1
  have hll : (ls.map fun s=>s.data.toList).length=m:=by rw [List.length_map];exact hC.hm.symm
  unfold playT at hT
  rw [hll] at hT
  obtain ⟨w0,hw0⟩ : ∃ w0,w.alloc (.cells #[.slice a n c,.int .i64 t,.int .i64 d,.slice b m c2,.slice q nq c3] 33)=w0:=⟨_,rfl⟩
  rw [hw0] at hbx hA0 hC0 he0 hsz
  have HA:=fun wx (hx : Below w0.heap.size w0 wx)=>At.five (hA0.below hx hsz)
  obtain ⟨hg,y0,-,y1,-,y2,-,y3,-,y4,-⟩:=HA w0 (Below.refl _ _)
  by_cases hz : nerr rs t d m=0
  · rw [if_pos hz] at hT
    have HN:=Lib.hid (case_new rs t d ls a n c b m c2 w0 w0 (Below.refl _ _) hC0.hru hC0.hlo hC0.hn hC0.hm hz hm8 hC0.hfit hC0.ht hC0.hd h400)
    have hpl:=new_plen (d:=d) hC0.hm hz
    obtain ⟨hcc,hmn⟩:=nerr_zero hz
    have hf0:=fine_new (t:=t) (rs:=rs) (ls:=ls.map fun s=>s.data.toList) (by rw [hll];exact hmn) (by rw [← hmn];exact hm8) (fun r hr=>⟨ccheck_ok hcc r hr,hC0.hfit r hr⟩) (fun l hl=>by
      obtain ⟨s,hs',rfl⟩:=List.mem_map.1 hl
      exact h400 s hs') ⟨(ccheck_t hcc).2.1,hC0.ht.2⟩
    have hel:=newE_len t rs (ls.map fun s=>s.data.toList)
    have hnm : n=m:=by rw [hC0.hn,hmn]
    subst hnm
    rw [← hmn] at hT hel
    generalize hs0 : St.new t d rs (ls.map fun s=>s.data.toList)=s0 at *
    generalize St.newE t rs (ls.map fun s=>s.data.toList)=l0 at *
    have HL : Hid (l0.length≤9):=by show l0.length≤9;omega
    have HT:=Lib.hid hT
    have HF0:=Lib.hid hf0
    have HP0:=Lib.hid hpl
    have HE0:=Lib.hid he0
    have HOK:=Lib.hid (case_okR hC0.hm hz hm8 hC0.hfit hC0.ht hC0.hd h400)
    rw [hs0] at HOK
    have HMN:=Lib.hid hmn
    clear hT hf0 hz hcc hel hll hs0 he hmn hpl
    go_enter Tryz.func24,Tryz.ntmps24
    go_wp2_with (first|(go_at_call 57;(with_reducible refine HN.out.mono ?_);intro e w1 h1;obtain ⟨tag,W,ev,V,g,rfl,hI,hb1⟩:=h1)|fail)
    clear hw0
    obtain ⟨-,x0,-,x1,-,x2,-,x3,-,x4,-⟩:=HA w1 hb1
    clear y0 y1 y2 y3 y4
    go_wp2
    go_loopw [26] (fun i wr=>∃ k : Nat,k≤nq∧i = .int .i64 k∧∃ tag W ev,SrcI w0 wr tag W ev V g (s0.run (cs.take k)) (l0++s0.runE (cs.take k)) l0.length) (fun i _=>nq - (intOf i).toNat)
    case atStart =>
      refine ⟨0,Nat.zero_le _,rfl,tag,W,ev,?_⟩
      show SrcI w0 w1 tag W ev V g s0 (l0++[]) l0.length
      rw [List.append_nil]
      exact hI
    case round =>
      clear hI HN x0 x1 x2 x3 x4
      obtain ⟨k,hk,rfl,tag,W,ev,hI⟩:=hrel
      by_cases hlt : k<nq
      · have hkc : k<cs.length:=by rw [← hC0.hnq];exact hlt
        have hrow:=(hC0.on hI.new).hch
        obtain ⟨bq,offq,hq',-,-⟩:=hrow.at_ k hkc
        subst hq'
        obtain ⟨hbq,r0,r1⟩:=RowC.cells hrow k hkc
        have hin:=hC0.hci _ (List.getElem_mem hkc)
        have hrl:=runE_len (cs.take k) s0
        rw [List.length_take] at hrl
        have hel : (l0++s0.runE (cs.take k)).length≤90000:=by rw [List.length_append];have:=HL.out;omega
        have HS1:=Lib.hid (run_take s0 cs k hkc)
        have HE1:=Lib.hid (runE_take s0 cs k hkc)
        generalize hck : cs[k]=x at *
        have HCK:=Lib.hid hck
        clear hck hrow
        obtain ⟨ct,cn⟩:=x
        simp only at r0 r1 hin
        have hba : Below wr.heap.size wr (wr.alloc (.cells #[.bool ct,.int .i64 cn] 50)):=(Below.refl _ _).alloc (Nat.le_refl _) _
        have hI2:=hI.on hba
        have HD:=Lib.hid (so_do tag W ev V g _ _ _ ct cn _ hI2.src hI2.ok hin hel)
        clear hrl hel hba
        go_wp2_with (first|(go_at_call 58;(with_reducible refine HD.out.mono ?_);intro e w2 hD;obtain ⟨v,tag2,W2,ev2,rfl,-,hI3,-,-⟩:=hI2.did hD))
        go_roundw
        case rel =>
          refine ⟨k+1,by omega,by go_num,tag2,W2,ev2,?_⟩
          rw [HS1.out,HE1.out,← List.append_assoc]
          exact hI3
        case measure=>simp [intOf];omega
      · obtain rfl : k=nq:=by omega
        have hrl:=runE_len cs s0
        have hck : cs.take k=cs:=List.take_of_length_le (by rw [← hC0.hnq];exact Nat.le_refl _)
        rw [hck] at hI
        have hel : (l0++s0.runE cs).length≤369:=by rw [List.length_append];have:=HL.out;have:=hC0.hnq;omega
        have HE:=Lib.hid (so_events tag W ev V g _ wr hI.src (by show (l0++s0.runE cs).length≤100000;omega))
        rw [show (loOf (s0.run cs) (l0++s0.runE cs) l0.length).evs=l0++s0.runE cs from rfl] at HE
        have hfin : ∀ v∈l0++s0.runE cs,Fine v:=fun v hv=>by
          rcases List.mem_append.1 hv with hv|hv
          · exact HF0.out v hv
          · exact fine_run cs HOK.out v hv
        have hsr:=HOK.out.run cs
        have hpl : (s0.run cs).ps.length=n:=by rw [run_len];exact HP0.out
        have hT:=HT.out
        have HH:=Lib.hid hC0.hnq
        clear hck hrl HL HF0
        generalize s0.run cs=s at *
        generalize l0++s0.runE cs=L at *
        obtain ⟨N,hN⟩ : ∃ N,L.length=N:=⟨_,rfl⟩
        rw [hN] at HE hel
        have hmx:=etexts_max L hfin
        rw [hN] at hmx
        have hpt:=fun k hk=>partsT_len hsr k hk
        have hlt9:=lates_le L
        rw [hN] at hlt9
        have HFN:=Lib.hid hfin
        have HNN:=Lib.hid hN
        have HPT:=Lib.hid hpt
        have HSR:=Lib.hid hsr
        have HPL:=Lib.hid hpl
        have HTT:=Lib.hid hT
        clear hfin hN hpt hsr hpl hT HT HP0 HOK
        go_wp2_with (first|(go_at_call 59;(with_reducible refine HE.out.mono ?_);intro e w3 h3;obtain ⟨v,rfl,q1,q2⟩:=h3;obtain ⟨hnl,aE,cE,rfl,hE⟩:=rowe_of_sl q1)|fail)
        have hb3:=on_below hI.new q2
        have hI3:=hI.on q2
        have hwz:=b_zero w3
        have hwb : Below w3.heap.size w3 (w3.alloc (.cells #[.pointer none,.slice none 0 0] 81)):=(Below.refl _ _).alloc (Nat.le_refl _) _
        have hw3:=hb3.size
        have HTX:=Lib.hid (ev_text aE N cE L (w3.alloc (.cells #[.pointer none,.slice none 0 0] 81)) ((HE0.out.on hb3).on hwb) (by have:=hE.on hwb;exact this) HNN.out.symm (by omega) (fun v hv=>⟨(HFN.out v hv).1,Nat.le_trans (HFN.out v hv).2 (by omega)⟩) (by omega))
        have HW1:=Lib.hid (fun w' h hB=>b_write w3.heap.size w3.heap.size [] (bstr (etexts L)) w' h (by rw [tx_size];simp only [List.length_nil];omega) hB)
        have HWZ:=Lib.hid hwz
        have HWB:=Lib.hid hwb
        rw [HNN.out]
        clear HE hI hwz q1 hnl
        go_wp2_with (first|(go_at_call 60;(with_reducible refine HTX.out.mono ?_);rintro e w4 ⟨rfl,hb4⟩;have hB4:=bld_on HWZ.out hb4;have hc4:=on_below HWB.out hb4)|(go_at_call 36;(with_reducible refine (HW1.out _ hB4 hc4.size).mono ?_);rintro e w5 ⟨rfl,hB5,hq5,-⟩;have hc5:=hc4.trans hq5;obtain ⟨-,x0,-,x1,-,x2,-,x3,-,x4,-⟩:=HA w5 (on_below hb3 hc5))|fail)
        have hBL : Bld w3.heap.size w3.heap.size (etexts L++partsT s 0) w5:=by
          show Bld _ _ (etexts L++[]) w5
          rw [List.append_nil]
          exact hB5
        clear HTX HW1 hB4 hc4 hb4 hB5 hq5
        go_loopw [43] (fun i wr=>∃ k : Nat,k≤n∧i = .int .i64 k∧Bld w3.heap.size w3.heap.size (etexts L++partsT s k) wr∧Below w3.heap.size w3 wr) (fun i _=>n - (intOf i).toNat)
        case atStart=>exact ⟨0,Nat.zero_le _,rfl,hBL,hc5⟩
        case round =>
          clear hBL hc5 x0 x1 x2 x3 x4
          obtain ⟨j,hj,rfl,hbl,hb⟩:=hrel
          have hIr:=hI3.on hb
          have her:=(HE0.out.on hb3).on hb
          have hwB:=hb.size
          by_cases hjl : j<n
          · have hjp : j<s.ps.length:=by rw [HPL.out];exact hjl
            obtain ⟨f1,f2,f3⟩:=pt_fits HSR.out hjp
            have hpl1:=HPT.out (j+1) hjp
            obtain ⟨X,hX⟩ : ∃ X,etexts L++partsT s j=X:=⟨_,rfl⟩
            have hXl : X.length≤1514175:=by rw [← hX,List.length_append];have:=HPT.out j (by omega);omega
            have hnx : etexts L++partsT s (j+1)=X++lineT tPart [(j : Int),(pat s.ps j).is,((pat s.ps j).read : Int),(pat s.ps j).mark]:=by rw [← hX,List.append_assoc];rfl
            have hll:=lineT_len (name:=tPart) (ns:=[(j : Int),(pat s.ps j).is,((pat s.ps j).read : Int),(pat s.ps j).mark]) (by decide) (fun x hx=>by
              simp only [List.mem_cons,List.not_mem_nil,or_false] at hx
              rcases hx with rfl|rfl|rfl|rfl
              · unfold in64;omega
              · exact f1
              · exact f2
              · exact f3)
            simp only [List.length_cons,List.length_nil] at hll
            have HST:=fun z hz=>Lib.hid (hIr.tl_status j hjp z hz)
            have HCN:=fun z hz=>Lib.hid (hIr.tl_count j hjp z hz)
            have HMK:=fun z hz=>Lib.hid (hIr.tl_mark j hjp z hz)
            have HLN:=Lib.hid (line4 (j : Int) (pat s.ps j).is ((pat s.ps j).read : Int) (pat s.ps j).mark (by unfold in64;omega) f1 f2 f3 wr her.wd)
            rw [hX] at hbl
            have HNX:=Lib.hid hnx
            clear hnx hX hpl1 f1 f2 f3
            generalize lineT tPart [(j : Int),(pat s.ps j).is,((pat s.ps j).read : Int),(pat s.ps j).mark]=LT at *
            have HST:=HST _ rfl
            have HCN:=HCN _ rfl
            have HMK:=HMK _ rfl
            generalize (pat s.ps j).is=z1 at *
            generalize (pat s.ps j).read=z2 at *
            generalize (pat s.ps j).mark=z3 at *
            have HW:=Lib.hid (fun w' h hB=>b_write w3.heap.size w3.heap.size X (bstr LT) w' h (by rw [tx_size];omega) hB)
            go_wp2_with (first|(go_at_call 61;(with_reducible refine HST.out.mono ?_);rintro e w6 ⟨rfl,rfl⟩)|(go_at_call 62;(with_reducible refine HCN.out.mono ?_);rintro e w6 ⟨rfl,rfl⟩)|(go_at_call 63;(with_reducible refine HMK.out.mono ?_);rintro e w6 ⟨rfl,rfl⟩)|(go_at_call 47;(with_reducible refine HLN.out.mono ?_);rintro e w7 ⟨rfl,hb7⟩;have hB7:=bld_on hbl hb7;have hc7:=on_below hb hb7)|(go_at_call 36;(with_reducible refine (HW.out _ hB7 hc7.size).mono ?_);rintro e w8 ⟨rfl,hB8,hq8,-⟩)|fail)
            go_roundw
            case rel=>exact ⟨j+1,by omega,by go_num,by rw [HNX.out];exact hB8,hc7.trans hq8⟩
            case measure=>simp [intOf];omega
          · obtain rfl : j=n:=by omega
            obtain ⟨X,hX⟩ : ∃ X,etexts L++partsT s j=X:=⟨_,rfl⟩
            have hXl : X.length≤1514175:=by rw [← hX,List.length_append];have:=HPT.out j (by rw [HPL.out];exact Nat.le_refl _);have:=hj;omega
            have hTX:=HTT.out
            unfold outT at hTX
            rw [hX] at hTX
            rw [hX] at hbl
            have hnw:=HSR.out.nw
            have hck:=HSR.out.ck
            obtain ⟨la,hla⟩ : ∃ la,lates L=la:=⟨_,rfl⟩
            rw [hla] at hlt9 hTX
            have hll:=lineT_len (name:=tEnd) (ns:=[s.now,s.clock,(la : Int)]) (by decide) (fun x hx=>by
              simp only [List.mem_cons,List.not_mem_nil,or_false] at hx
              rcases hx with rfl|rfl|rfl
              · exact hnw
              · exact hck
              · unfold in64;omega)
            simp only [List.length_cons,List.length_nil] at hll
            have HNW:=Lib.hid hIr.tl_now
            have HTM:=Lib.hid hIr.tl_time
            have HLA:=Lib.hid (ju_lates aE N cE L wr (hE.on hb) HNN.out.symm (by omega) la hla)
            have HLN:=fun wx hx=>Lib.hid (line3 s.now s.clock (la : Int) hnw hck (by unfold in64;omega) wx hx)
            have HTX:=Lib.hid hTX
            clear hTX hX hla hnw hck
            generalize lineT tEnd [s.now,s.clock,(la : Int)]=LT at *
            generalize s.now=z1 at *
            generalize s.clock=z2 at *
            have HW:=Lib.hid (fun w' h hB=>b_write w3.heap.size w3.heap.size X (bstr LT) w' h (by rw [tx_size];omega) hB)
            have HS:=Lib.hid (fun w' h hB=>b_text w3.heap.size w3.heap.size (X++LT) w' h hB)
            go_wp2_with (first|(go_at_call 64;(with_reducible refine HNW.out.mono ?_);rintro e w6 ⟨rfl,rfl⟩)|(go_at_call 65;(with_reducible refine HTM.out.mono ?_);rintro e w6 ⟨rfl,rfl⟩)|(go_at_call 35;(with_reducible refine HLA.out.mono ?_);rintro e w6 ⟨rfl,hb6⟩;have HL6:=HLN w6 (her.on hb6).wd;have hbl6:=bld_on hbl hb6;have hc6:=on_below hb hb6)|(go_at_call 47;(with_reducible refine HL6.out.mono ?_);rintro e w7 ⟨rfl,hb7⟩;have hB7:=bld_on hbl6 hb7;have hc7:=on_below hc6 hb7)|(go_at_call 36;(with_reducible refine (HW.out _ hB7 hc7.size).mono ?_);rintro e w8 ⟨rfl,hB8,hq8,-⟩;have hc8:=hc7.trans hq8)|(go_at_call 40;(with_reducible refine (HS.out _ hB8 hc8.size).mono ?_);rintro e w9 ⟨rfl,hb9⟩)|fail)
            go_ret
            exact ⟨by rw [← HTX.out];rfl,on_below hbx (on_below hb3 (hc8.trans hb9))⟩
  · rw [if_neg hz] at hT
    have hin:=nerr_in rs t d m
    obtain ⟨z,hzz⟩ : ∃ z,nerr rs t d m=z:=⟨_,rfl⟩
    have HN:=Lib.hid (so_new_none rs t d ls a n c b m c2 w0 hC0.hru hC0.hn (by omega) hC0.hm z hzz (by rw [← hzz];exact hz))
    rw [hzz] at hT hin hz
    have hz0 : (z != 0)=true:=by rw [bne_iff_ne];exact hz
    subst hT
    have HL1:=fun wx (hx : EnvW wx)=>Lib.hid (line1 z hin wx hx)
    clear hzz hz
    go_enter Tryz.func24,Tryz.ntmps24
    go_wp2_with (first|(go_at_call 57;(with_reducible refine HN.out.mono ?_);rintro e w1 ⟨rfl,hb1⟩)|(go_at_call 47;(with_reducible refine (HL1 w1 (he0.on hb1).wd).out.mono ?_);rintro e w2 ⟨rfl,hb2⟩)|fail)
    go_ret
    exact ⟨rfl,on_below hbx (on_below hb1 hb2)⟩
end Go.Proofs.YtmimfkhkilijcaaGreatDoor
