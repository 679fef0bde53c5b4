/- KEvA: what is reached of them. -/
import Derived.Test.YtmimfkhkilijcaaGreatDoorPq10
import Derived.Test.YtmimfkhkilijcaaGreatDoorPq34
import Derived.Test.YtmimfkhkilijcaaGreatDoorPq03
import Derived.Test.YtmimfkhkilijcaaGreatDoorPq08
import Derived.Test.YtmimfkhkilijcaaGreatDoorPq35
import Derived.Test.YtmimfkhkilijcaaGreatDoorPq07
import Derived.Deep.RegionHeld3
import Derived.Deep.DeepCutAuto
set_option linter.unusedVariables false
set_option linter.unusedSimpArgs false
set_option maxRecDepth 100000
set_option maxHeartbeats 8000000
namespace Go.Proofs.YtmimfkhkilijcaaGreatDoor.PEv
open Go.Lib
open Go.Proofs.YtmimfkhkilijcaaGreatDoor
open PWord PSign PHex PQuote
abbrev tElement : List UInt8:=[101,108,101,109,101,110,116]
abbrev tLate : List UInt8:=[108,97,116,101]
abbrev tMark : List UInt8:=[109,97,114,107]
abbrev tFault : List UInt8:=[102,97,117,108,116]
def elName (late : Bool) : List UInt8:=if late then tLate else tElement
def eline : Ev→List UInt8
  | .el late p k t x=>lineOf (elName late) [p,k,t]++32::quote x
  | .mark n=>lineOf tMark [n]
  | .fault p e=>lineOf tFault [p,e]
def rel (U : List UInt8→Option (List UInt8)) (late : Bool) (b : List UInt8) : Option Ev :=
  match cuts 32 3 b with
  | [a1,a2,a3,q]=>match nums [a1,a2,a3],U q with
    | some [p,k,t],some x=>some (.el late p k t x)
    | _,_=>none
  | _=>none
theorem dig_seen : ∀ d,d<16→32≤(dig d).toNat∧(dig d).toNat≤126:=by decide
theorem hex_seen (n : Nat) : ∀ c∈hex n,32≤c.toNat∧c.toNat≤126:=by
  intro c hc
  obtain ⟨d,hd,rfl⟩:=hex_mem n hc
  exact dig_seen d hd
theorem told_seen (n : Int) : ∀ c∈told n,32≤c.toNat∧c.toNat≤126:=by
  intro c hc
  unfold told at hc
  split at hc
  · rcases List.mem_append.1 hc with h|h
    · simp only [List.mem_cons,List.not_mem_nil,or_false] at h
      rcases h with rfl|rfl <;> decide
    · exact hex_seen _ c h
  · split at hc
    · rcases List.mem_append.1 hc with h|h
      · rcases List.mem_append.1 h with h|h
        · simp only [List.mem_cons,List.not_mem_nil,or_false] at h
          rcases h with rfl|rfl|rfl <;> decide
        · exact hex_seen _ c h
      · simp only [List.mem_cons,List.not_mem_nil,or_false] at h
        subst h
        decide
    · split at hc
      · simp only [List.mem_cons,List.not_mem_nil,or_false] at hc
        rcases hc with rfl|rfl
        · decide
        · rw [UInt8.toNat_ofNat'];omega
      · simp only [List.mem_cons,List.not_mem_nil,or_false] at hc
        subst hc
        rw [UInt8.toNat_ofNat'];omega
theorem quote_seen (l : List UInt8) : ∀ c∈quote l,32≤c.toNat∧c.toNat≤126:=by
  intro c hc
  unfold quote at hc
  rcases List.mem_append.1 hc with h|h
  · rcases List.mem_cons.1 h with rfl|h
    · decide
    · unfold toldAll at h
      obtain ⟨n,_,hn⟩:=List.mem_flatMap.1 h
      exact told_seen n c hn
  · simp only [List.mem_cons,List.not_mem_nil,or_false] at h
    subst h
    decide
theorem quote_10 (l : List UInt8) : (10 : UInt8)∉quote l:=fun h=>by have:=(quote_seen l _ h).1;revert this;decide
theorem quote_big (l : List UInt8) : (quote l).length≤10*l.length+2:=by
  unfold quote
  have h1:=toldAll_len (signs l) (signs_range l)
  have h2:=signs_len l
  simp only [List.length_append,List.length_cons,List.length_nil]
  omega
theorem eline_len (e : Ev) (h : e.ok) : (eline e).length≤100+10*(etext e).length:=by
  cases e with
  | el late p k t x =>
    obtain ⟨h1,h2,h3⟩:=h
    have a:=lineOf_len (elName late) [p,k,t] (by cases late <;> decide) (by simp [h1,h2,h3])
    have b:=quote_big x
    simp only [List.length_cons,List.length_nil] at a
    simp only [eline,etext]
    rw [List.length_append,List.length_cons]
    omega
  | mark n =>
    have a:=lineOf_len tMark [n] (by decide) (by intro y hy;rw [List.mem_singleton] at hy;subst hy;exact h)
    simp only [List.length_cons,List.length_nil] at a
    simp only [eline]
    omega
  | fault p n =>
    obtain ⟨h1,h2⟩:=h
    have a:=lineOf_len tFault [p,n] (by decide) (by simp [h1,h2])
    simp only [List.length_cons,List.length_nil] at a
    simp only [eline]
    omega
end Go.Proofs.YtmimfkhkilijcaaGreatDoor.PEv
namespace Go.Proofs.YtmimfkhkilijcaaGreatDoor
open Go.ChangeShapes Go.WideShapes Go.ChangeAt Go.RowKit
open PWord PQuote PSign PEv
open Go.Lib (itoa)
structure EnvE (w : World) : Prop where
  wd : EnvW w
  qu : Env w
theorem EnvE.on {w w' : World} (h : EnvE w) (hb : Below w.heap.size w w') : EnvE w':=⟨h.wd.on hb,h.qu.on hb⟩
theorem tx_lets (a b : List UInt8) (h : a.length+b.length≤9223372036854775807) : ∃ t,bstr (a++b)=t∧∀ w,(Op.stringOp .add (bstr a) (bstr b)).run Tryz.prog w = .ok (.string t) w:=⟨_,rfl,fun w=>tx_run w a b h⟩
theorem eline_el (late : Bool) (p k t : Int) (x : List UInt8) : eline (.el late p k t x)=elName late++[32]++itoa p++[32]++itoa k++[32]++itoa t++[32]++quote x:=by simp [eline,lineOf,glue]
theorem eline_mark (n : Int) : eline (.mark n)=[109,97,114,107,32]++itoa n:=by simp [eline,lineOf,glue]
theorem eline_fault (p e : Int) : eline (.fault p e)=[102,97,117,108,116,32]++itoa p++[32]++itoa e:=by simp [eline,lineOf,glue]
theorem ref_line (v : Ev) (hv : v.ok) (hx : (etext v).length≤4096) (w : World) :
    Calls Tryz.prog 21 #[evr v] w fun e w'=>e = .returned (.string (bstr (eline v)))∧Below w.heap.size w w':=by
  cases v with
  | mark n =>
    rw [eline_mark]
    have hn : in64 n:=hv
    have hl:=itoa_len hn
    obtain ⟨t1,ht1,hc1⟩:=tx_lets [109,97,114,107,32] (itoa n) (by simp only [List.length_cons,List.length_nil];omega)
    have HN:=Lib.hid (fun w=>ref_num n hn w)
    have hb0 : Below w.heap.size w (w.alloc (.cells (evc (.mark n)).toArray 56)):=(Below.refl _ _).alloc (Nat.le_refl _) _
    rw [ht1]
    clear ht1 hv hx hl hn
    generalize bstr (itoa n)=B at *
    show Calls Tryz.prog 21 #[.agg #[.int .i64 1,.int .i64 0,.int .i64 0,.int .i64 0,.string ⟨#[]⟩,.bool false,.int .i64 n,.int .i64 0]] w _
    go_enter Tryz.func21,Tryz.ntmps21
    go_wp2_with (go_at_call 17;refine (HN.out _).mono ?_;rintro e w2 ⟨rfl,hb2⟩)
    go_ret
    exact ⟨rfl,on_below hb0 hb2⟩
  | fault p n =>
    rw [eline_fault]
    obtain ⟨hp,hn⟩:=hv
    have hl1:=itoa_len hp
    have hl2:=itoa_len hn
    obtain ⟨t1,ht1,hc1⟩:=tx_lets [102,97,117,108,116,32] (itoa p) (by simp only [List.length_cons,List.length_nil];omega)
    obtain ⟨t2,ht2,hc2⟩:=tx_lets ([102,97,117,108,116,32]++itoa p) [32] (by simp only [List.length_append,List.length_cons,List.length_nil];omega)
    obtain ⟨t3,ht3,hc3⟩:=tx_lets ([102,97,117,108,116,32]++itoa p++[32]) (itoa n) (by simp only [List.length_append,List.length_cons,List.length_nil];omega)
    have HP:=Lib.hid (fun w=>ref_num p hp w)
    have HN:=Lib.hid (fun w=>ref_num n hn w)
    have hA:=At.alloc w (evc (.fault p n)) 56
    have hb0 : Below w.heap.size w (w.alloc (.cells (evc (.fault p n)).toArray 56)):=(Below.refl _ _).alloc (Nat.le_refl _) _
    rw [ht1] at hc2
    rw [ht2] at hc3
    rw [ht3]
    clear ht1 ht2 ht3 hx hl1 hl2 hp hn
    generalize bstr (itoa p)=A at *
    generalize bstr (itoa n)=B at *
    show Calls Tryz.prog 21 #[.agg #[.int .i64 2,.int .i64 p,.int .i64 0,.int .i64 0,.string ⟨#[]⟩,.bool false,.int .i64 0,.int .i64 n]] w _
    have hlt:=hA.1
    have c1:=(hA.2 1 (by simp [evc])).1
    have c7:=(hA.2 7 (by simp [evc])).1
    have c0:=(hA.2 0 (by simp [evc])).1
    simp only [evc,List.getElem_cons_succ,List.getElem_cons_zero] at c0 c1 c7 hlt hb0
    clear hA
    go_enter Tryz.func21,Tryz.ntmps21
    go_wp2
    generalize w.alloc (.cells [.int .i64 2,.int .i64 p,.int .i64 0,.int .i64 0,.string ⟨#[]⟩,.bool false,.int .i64 0,.int .i64 n].toArray 56)=w1 at *
    generalize hNN : w.heap.size=N at *
    have HNN:=Lib.hid hNN
    clear hNN
    go_cut [2] (fun v wx=>v = .string t3∧Below w1.heap.size w1 wx)
    case first =>
      go_region_held3 (fun wx=>wx.cell? ⟨N,1,none⟩=some (.int .i64 p)∧wx.cell? ⟨N,7,none⟩=some (.int .i64 n)) (first|exact ⟨c1,c7⟩|exact ⟨d1,d7⟩|exact ⟨e1,e7⟩|fail) (first|(go_at_call 17;first|((with_reducible refine (HP.out _).mono ?_);rintro e wp ⟨rfl,hbp⟩;have d1:=cell_kept (w:=w1.drew) hbp c1;have d7:=cell_kept (w:=w1.drew) hbp c7)|((with_reducible refine (HN.out _).mono ?_);rintro e wq ⟨rfl,hbq⟩;have e1:=cell_kept hbq d1;have e7:=cell_kept hbq d7)))
      all_goals (go_wp2_with fail;go_meet;exact ⟨rfl,on_below (on_below (Below.refl w1.heap.size w1).drew hbp) hbq⟩)
    case rest =>
      obtain ⟨rfl,hb2⟩:=hcut
      go_wp2
      go_ret
      exact ⟨rfl,by rw [HNN.out];exact hb0.trans (hb2.mono (by have:=hb0.size;have:=HNN.out;omega))⟩
  | el late p k t x =>
    rw [eline_el]
    obtain ⟨hp,hk,ht⟩:=hv
    have hx : x.length≤4096:=hx
    have hl1:=itoa_len hp
    have hl2:=itoa_len hk
    have hl3:=itoa_len ht
    have hl4:=quote_big x
    have HP:=Lib.hid (fun w=>ref_num p hp w)
    have HK:=Lib.hid (fun w=>ref_num k hk w)
    have HT:=Lib.hid (fun w=>ref_num t ht w)
    have HQ:=Lib.hid (fun w=>ref_quote (bstr x) w (by rw [bstr_len];exact hx))
    rw [show (bstr x).data.toList=x from rfl] at HQ
    have hA:=At.alloc w (evc (.el late p k t x)) 56
    have hb0 : Below w.heap.size w (w.alloc (.cells (evc (.el late p k t x)).toArray 56)):=(Below.refl _ _).alloc (Nat.le_refl _) _
    show Calls Tryz.prog 21 #[.agg #[.int .i64 0,.int .i64 p,.int .i64 k,.int .i64 t,.string (bstr x),.bool late,.int .i64 0,.int .i64 0]] w _
    have hlt:=hA.1
    have c0:=(hA.2 0 (by simp [evc])).1
    have c1:=(hA.2 1 (by simp [evc])).1
    have c2:=(hA.2 2 (by simp [evc])).1
    have c3:=(hA.2 3 (by simp [evc])).1
    have c4:=(hA.2 4 (by simp [evc])).1
    have c5:=(hA.2 5 (by simp [evc])).1
    simp only [evc,List.getElem_cons_succ,List.getElem_cons_zero] at c0 c1 c2 c3 c4 c5 hlt hb0
    clear hA
    cases late with
    | false =>
      rw [show elName false++[32]=([101,108,101,109,101,110,116,32] : List UInt8) from rfl]
      obtain ⟨t1,ht1,hc1⟩:=tx_lets (([101,108,101,109,101,110,116,32] : List UInt8)) (itoa p) (by simp only [List.length_append,List.length_cons,List.length_nil];omega)
      obtain ⟨t2,ht2,hc2⟩:=tx_lets (([101,108,101,109,101,110,116,32] : List UInt8)++itoa p) ([32]) (by simp only [List.length_append,List.length_cons,List.length_nil];omega)
      obtain ⟨t3,ht3,hc3⟩:=tx_lets (([101,108,101,109,101,110,116,32] : List UInt8)++itoa p++[32]) (itoa k) (by simp only [List.length_append,List.length_cons,List.length_nil];omega)
      obtain ⟨t4,ht4,hc4⟩:=tx_lets (([101,108,101,109,101,110,116,32] : List UInt8)++itoa p++[32]++itoa k) ([32]) (by simp only [List.length_append,List.length_cons,List.length_nil];omega)
      obtain ⟨t5,ht5,hc5⟩:=tx_lets (([101,108,101,109,101,110,116,32] : List UInt8)++itoa p++[32]++itoa k++[32]) (itoa t) (by simp only [List.length_append,List.length_cons,List.length_nil];omega)
      obtain ⟨t6,ht6,hc6⟩:=tx_lets (([101,108,101,109,101,110,116,32] : List UInt8)++itoa p++[32]++itoa k++[32]++itoa t) ([32]) (by simp only [List.length_append,List.length_cons,List.length_nil];omega)
      obtain ⟨t7,ht7,hc7⟩:=tx_lets (([101,108,101,109,101,110,116,32] : List UInt8)++itoa p++[32]++itoa k++[32]++itoa t++[32]) (quote x) (by simp only [List.length_append,List.length_cons,List.length_nil];omega)
      rw [ht1] at hc2
      rw [ht2] at hc3
      rw [ht3] at hc4
      rw [ht4] at hc5
      rw [ht5] at hc6
      rw [ht6] at hc7
      rw [ht7]
      clear ht1 ht2 ht3 ht4 ht5 ht6 ht7 hl1 hl2 hl3 hl4 hp hk ht hx
      generalize bstr (itoa p)=A at *
      generalize bstr (itoa k)=B at *
      generalize bstr (itoa t)=C at *
      generalize bstr (quote x)=Q at *
      go_enter Tryz.func21,Tryz.ntmps21
      go_wp2
      generalize w.alloc (.cells [.int .i64 0,.int .i64 p,.int .i64 k,.int .i64 t,.string (bstr x),.bool false,.int .i64 0,.int .i64 0].toArray 56)=w1 at *
      generalize hNN : w.heap.size=N at *
      have HNN:=Lib.hid hNN
      clear hNN
      go_cut [2] (fun v wx=>v = .string t7∧Below w1.heap.size w1 wx)
      case first =>
        go_region_held3 (fun wx=>wx.cell? ⟨N,1,none⟩=some (.int .i64 p)∧wx.cell? ⟨N,2,none⟩=some (.int .i64 k)∧wx.cell? ⟨N,3,none⟩=some (.int .i64 t)∧wx.cell? ⟨N,4,none⟩=some (.string (bstr x))) (first|exact ⟨c1,c2,c3,c4⟩|exact ⟨d1,d2,d3,d4⟩|exact ⟨e1,e2,e3,e4⟩|exact ⟨f1,f2,f3,f4⟩|exact ⟨g1,g2,g3,g4⟩|fail) (first|(go_at_call 17;first|((with_reducible refine (HP.out _).mono ?_);rintro e wp ⟨rfl,hbp⟩;have d1:=cell_kept (w:=w1.drew) hbp c1;have d2:=cell_kept (w:=w1.drew) hbp c2;have d3:=cell_kept (w:=w1.drew) hbp c3;have d4:=cell_kept (w:=w1.drew) hbp c4)|((with_reducible refine (HK.out _).mono ?_);rintro e wk ⟨rfl,hbk⟩;have e1:=cell_kept hbk d1;have e2:=cell_kept hbk d2;have e3:=cell_kept hbk d3;have e4:=cell_kept hbk d4)|((with_reducible refine (HT.out _).mono ?_);rintro e wt ⟨rfl,hbt⟩;have f1:=cell_kept hbt e1;have f2:=cell_kept hbt e2;have f3:=cell_kept hbt e3;have f4:=cell_kept hbt e4))|(go_at_call 44;(with_reducible refine (HQ.out _).mono ?_);rintro e wz ⟨rfl,hbz⟩;have g1:=cell_kept hbz f1;have g2:=cell_kept hbz f2;have g3:=cell_kept hbz f3;have g4:=cell_kept hbz f4))
        all_goals (go_wp2_with fail;go_meet;exact ⟨rfl,on_below (on_below (on_below (on_below (Below.refl w1.heap.size w1).drew hbp) hbk) hbt) hbz⟩)
      case rest =>
        obtain ⟨rfl,hb2⟩:=hcut
        go_wp2
        go_ret
        exact ⟨rfl,by rw [HNN.out];exact hb0.trans (hb2.mono (by have:=hb0.size;have:=HNN.out;omega))⟩
    | true =>
      rw [show elName true++[32]=([108,97,116,101,32] : List UInt8) from rfl]
      obtain ⟨t1,ht1,hc1⟩:=tx_lets (([108,97,116,101,32] : List UInt8)) (itoa p) (by simp only [List.length_append,List.length_cons,List.length_nil];omega)
      obtain ⟨t2,ht2,hc2⟩:=tx_lets (([108,97,116,101,32] : List UInt8)++itoa p) ([32]) (by simp only [List.length_append,List.length_cons,List.length_nil];omega)
      obtain ⟨t3,ht3,hc3⟩:=tx_lets (([108,97,116,101,32] : List UInt8)++itoa p++[32]) (itoa k) (by simp only [List.length_append,List.length_cons,List.length_nil];omega)
      obtain ⟨t4,ht4,hc4⟩:=tx_lets (([108,97,116,101,32] : List UInt8)++itoa p++[32]++itoa k) ([32]) (by simp only [List.length_append,List.length_cons,List.length_nil];omega)
      obtain ⟨t5,ht5,hc5⟩:=tx_lets (([108,97,116,101,32] : List UInt8)++itoa p++[32]++itoa k++[32]) (itoa t) (by simp only [List.length_append,List.length_cons,List.length_nil];omega)
      obtain ⟨t6,ht6,hc6⟩:=tx_lets (([108,97,116,101,32] : List UInt8)++itoa p++[32]++itoa k++[32]++itoa t) ([32]) (by simp only [List.length_append,List.length_cons,List.length_nil];omega)
      obtain ⟨t7,ht7,hc7⟩:=tx_lets (([108,97,116,101,32] : List UInt8)++itoa p++[32]++itoa k++[32]++itoa t++[32]) (quote x) (by simp only [List.length_append,List.length_cons,List.length_nil];omega)
      rw [ht1] at hc2
      rw [ht2] at hc3
      rw [ht3] at hc4
      rw [ht4] at hc5
      rw [ht5] at hc6
      rw [ht6] at hc7
      rw [ht7]
      clear ht1 ht2 ht3 ht4 ht5 ht6 ht7 hl1 hl2 hl3 hl4 hp hk ht hx
      generalize bstr (itoa p)=A at *
      generalize bstr (itoa k)=B at *
      generalize bstr (itoa t)=C at *
      generalize bstr (quote x)=Q at *
      go_enter Tryz.func21,Tryz.ntmps21
      go_wp2
      generalize w.alloc (.cells [.int .i64 0,.int .i64 p,.int .i64 k,.int .i64 t,.string (bstr x),.bool true,.int .i64 0,.int .i64 0].toArray 56)=w1 at *
      generalize hNN : w.heap.size=N at *
      have HNN:=Lib.hid hNN
      clear hNN
      go_cut [2] (fun v wx=>v = .string t7∧Below w1.heap.size w1 wx)
      case first =>
        go_region_held3 (fun wx=>wx.cell? ⟨N,1,none⟩=some (.int .i64 p)∧wx.cell? ⟨N,2,none⟩=some (.int .i64 k)∧wx.cell? ⟨N,3,none⟩=some (.int .i64 t)∧wx.cell? ⟨N,4,none⟩=some (.string (bstr x))) (first|exact ⟨c1,c2,c3,c4⟩|exact ⟨d1,d2,d3,d4⟩|exact ⟨e1,e2,e3,e4⟩|exact ⟨f1,f2,f3,f4⟩|exact ⟨g1,g2,g3,g4⟩|fail) (first|(go_at_call 17;first|((with_reducible refine (HP.out _).mono ?_);rintro e wp ⟨rfl,hbp⟩;have d1:=cell_kept (w:=w1.drew) hbp c1;have d2:=cell_kept (w:=w1.drew) hbp c2;have d3:=cell_kept (w:=w1.drew) hbp c3;have d4:=cell_kept (w:=w1.drew) hbp c4)|((with_reducible refine (HK.out _).mono ?_);rintro e wk ⟨rfl,hbk⟩;have e1:=cell_kept hbk d1;have e2:=cell_kept hbk d2;have e3:=cell_kept hbk d3;have e4:=cell_kept hbk d4)|((with_reducible refine (HT.out _).mono ?_);rintro e wt ⟨rfl,hbt⟩;have f1:=cell_kept hbt e1;have f2:=cell_kept hbt e2;have f3:=cell_kept hbt e3;have f4:=cell_kept hbt e4))|(go_at_call 44;(with_reducible refine (HQ.out _).mono ?_);rintro e wz ⟨rfl,hbz⟩;have g1:=cell_kept hbz f1;have g2:=cell_kept hbz f2;have g3:=cell_kept hbz f3;have g4:=cell_kept hbz f4))
        all_goals (go_wp2_with fail;go_meet;exact ⟨rfl,on_below (on_below (on_below (on_below (Below.refl w1.heap.size w1).drew hbp) hbk) hbt) hbz⟩)
      case rest =>
        obtain ⟨rfl,hb2⟩:=hcut
        go_wp2
        go_ret
        exact ⟨rfl,by rw [HNN.out];exact hb0.trans (hb2.mono (by have:=hb0.size;have:=HNN.out;omega))⟩
end Go.Proofs.YtmimfkhkilijcaaGreatDoor
