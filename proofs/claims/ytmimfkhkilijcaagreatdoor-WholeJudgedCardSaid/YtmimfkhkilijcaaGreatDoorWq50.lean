/- WEnvMet; EEnvMet: what is reached of them. -/
import Derived.Test.YtmimfkhkilijcaaGreatDoorWq15
import Derived.Test.YtmimfkhkilijcaaGreatDoorRows
import Derived.LaidLaws
import Derived.LaidMore
import Derived.LaidHandle
import Derived.MakeChecks
import Derived.Lib.LaidTab
import Derived.Stop.LaidErr
import Derived.Handed
import Derived.Stop.Joined
import Derived.Test.YtmimfkhkilijcaaGreatDoorWq13
set_option linter.unusedVariables false
set_option linter.unusedSimpArgs false
set_option maxRecDepth 100000
set_option maxHeartbeats 8000000
namespace Go.Proofs.YtmimfkhkilijcaaGreatDoor
open Go.ChangeShapes Go.WideShapes Go.ChangeAt Go.RowKit
theorem laid_at {P : Program} {x : String×DataW Unit} {w : World} : ∀ {l : List (String×DataW Unit)},laidMet P l w→x∈l→∃ r,laidMet P (x::r) w
  | [],_,h=>by cases h
  | y::l,h,hx=>by
    rcases List.mem_cons.1 hx with rfl|hx
    · exact ⟨l,h⟩
    · exact laid_at h.tail hx
theorem star : "*" ++ "errors.errorString" = "*errors.errorString":=by decide
theorem rowStar (u : TypeId) (h : Tryz.prog.typeName? 3 u=some "*errors.errorString") : u=346 :=
  typeName_ptr_named (nm:= "errors.errorString") (by rw [star];kernel_rfl) (by kernel_rfl) (by decide) u (by rw [star];exact h)
theorem gPow : Tryz.prog.globalNamed "internal/strconv.uint64pow10" = some 4:=by kernel_rfl
theorem gSyn : Tryz.prog.globalNamed "strconv.ErrSyntax" = some 5:=by kernel_rfl
theorem gRng : Tryz.prog.globalNamed "strconv.ErrRange" = some 6:=by kernel_rfl
theorem gNames : Tryz.prog.globalNamed "tidewaiter/config.names" = some 1:=by kernel_rfl
theorem errNamed {n : String} {g : Nat} {text : List UInt8} {l : List (String×DataW Unit)} {w : World} (h : laidMet Tryz.prog l w) (hx : (n,.iface "*errors.errorString" (.ptr (.agg [.lit (.string text)])))∈l)
    (hg : Tryz.prog.globalNamed n=some g) (ht : (Tryz.prog.globals[g]?).map (·.type)=some 83) : ∃ te pe,w.cell? ⟨g,0,none⟩=some (.iface te pe):=by
  obtain ⟨r,hr⟩:=laid_at h hx
  obtain ⟨a,s,hv,_⟩:=laid_sentinel hr hg ht Tryz.underlying83 rowStar Tryz.underlying346 Tryz.underlying348 rfl rfl Tryz.underlying9 (by kernel_rfl) (by kernel_rfl)
  have:=World.var?_cell hg hv 0
  exact ⟨_,_,by simpa using this⟩
theorem envw_of_laid {l : List (String×DataW Unit)} {w : World} (hsh : w.ShapedOpen Tryz.prog) (h : laidMetH Tryz.prog l w) (hp : (l.all fun x=>x.2.handleName?.isNone)=true)
    (h1 : ("internal/strconv.uint64pow10",Rows.laid_internal_strconv_uint64pow10)∈l) (h2 : ("strconv.ErrSyntax",Rows.laid_strconv_ErrSyntax)∈l) (h3 : ("strconv.ErrRange",Rows.laid_strconv_ErrRange)∈l) : EnvW w:=by
  rw [MakeChecks.laidMetH_plain _ _ _ hp] at h
  obtain ⟨te,pe,hs⟩:=errNamed h h2 gSyn (by kernel_rfl)
  obtain ⟨te',pe',hr⟩:=errNamed h h3 gRng (by kernel_rfl)
  obtain ⟨r,h1'⟩:=laid_at h h1
  have ht : Lib.TabIs Tryz.prog w "internal/strconv.uint64pow10" .u64 Lib.pow10Tab:=Lib.tabIs_of_head gPow (by kernel_rfl) Tryz.underlying334 Tryz.underlying223 (by kernel_rfl) (by kernel_rfl) h1'
  exact ⟨ht,⟨_,hs,.inr ⟨_,_,rfl⟩⟩,⟨_,hr,.inr ⟨_,_,rfl⟩⟩,Tryz.laysM143.s1_3 w hsh⟩
theorem three_texts {P : Program} {W : World} {name : String} {t0 t1 t2 : List UInt8} {rest : List (String×DataW Unit)} {g : Nat} {t e : TypeId}
    (hg : P.globalNamed name=some g) (hty : (P.globals[g]?).map (·.type)=some t) (ht : P.underlying t=some (.array 3 e)) (he : P.underlying e=some .string) (hce : P.cellsOf e=1) (hct : P.cellsOf t=3)
    (h : laidMet P ((name,.agg [.lit (.string t0),.lit (.string t1),.lit (.string t2)])::rest) W) :
    W.cell? ⟨g,0,none⟩=some (.string ⟨t0.toArray⟩)∧W.cell? ⟨g,1,none⟩=some (.string ⟨t1.toArray⟩)∧W.cell? ⟨g,2,none⟩=some (.string ⟨t2.toArray⟩):=by
  obtain ⟨ps,⟨g',t',cs,fuel,p,q,hg',ht',hvar,hd,_,_⟩,_⟩:=h
  obtain rfl:=Option.some.inj (hg.symm.trans hg')
  obtain rfl:=Option.some.inj (hty.symm.trans ht')
  obtain ⟨xs,m,-,hx,hl,hxl,hi⟩:=DataW.trod_array ht hd
  have hxs : xs.map (·.1)=[.lit (.string t0),.lit (.string t1),.lit (.string t2)]:=by
    have:=congrArg Prod.fst hx
    simpa using this.symm
  rw [hct] at hl
  have hone : ∀ (i : Nat) (tx : List UInt8),i<3→(xs.map (·.1))[i]? = some (.lit (.string tx))→W.cell? ⟨g,i,none⟩=some (.string ⟨tx.toArray⟩):=by
    intro i tx h3 hm
    have h1:=hi i h3
    rw [hce,Nat.mul_one] at h1
    rw [List.getElem?_map] at hm
    obtain ⟨y,hy,hyt⟩:=Option.map_eq_some_iff.1 hm
    rw [hy] at h1
    obtain ⟨s,hs,rfl,-⟩:=DataW.trod_string he h1
    have e1 : s.data.toList=tx:=by simpa using hyt
    have hc : cs.toList[i]? = some (.string s):=by
      have:=congrArg (·[0]?) hs
      simpa [List.getElem?_take,List.getElem?_drop] using this
    have:=World.var?_cell hg hvar i
    rw [this,← e1]
    simpa using hc
  exact ⟨hone 0 t0 (by omega) (by rw [hxs];rfl),hone 1 t1 (by omega) (by rw [hxs];rfl),hone 2 t2 (by omega) (by rw [hxs];rfl)⟩
theorem names_of_laid {l : List (String×DataW Unit)} {w : World} (h : laidMetH Tryz.prog l w) (hp : (l.all fun x=>x.2.handleName?.isNone)=true)
    (h1 : ("tidewaiter/config.names",Rows.laid_tidewaiter_config_names)∈l) : Names w:=by
  rw [MakeChecks.laidMetH_plain _ _ _ hp] at h
  obtain ⟨r,h1'⟩:=laid_at h h1
  obtain ⟨a,b,c⟩:=three_texts (t0:=[98,111,117,110,100,101,100]) (t1:=[109,97,114,107,101,100]) (t2:=[112,101,114,99,101,110,116]) gNames (by kernel_rfl) Tryz.underlying212 Tryz.underlying9 (by kernel_rfl) (by kernel_rfl) h1'
  exact ⟨a,b,c⟩
section
variable {H : Type} {enc : TypeId×Value→H}
theorem lift_shaped {a : Assume} {C : Checked} {os : Os} {f : FuncId} {fn : Func} {s : ChangeSpec} {conds : List PathCond} {apart fresh handsOn again : Bool} {laid : List (String×DataW Unit)}
    (own : ownKnob C.prog.godebug=none) (started : os.Started) (noInit : C.prog.inits.idxOf? f=none) (hfn : C.prog.funcs[f]? = some fn)
    (wit : ∃ (w : World) (tape : Tape) (i : Input),w.os=os∧(w.forCall tape i).Shaped C.prog∧i.vars=[]∧Input.okWide C.prog (w.forCall tape i) .any w.heap.size f i ∧
      ((s.pre enc C.prog fn conds apart (w.forCall tape i).memory i.args∧laidMetH C.prog laid (w.forCall tape i).memory)∧sizedMet enc C.prog fn (OpenSpec.ofChange s) apart (w.forCall tape i).memory i.args)∧a.holds C.prog (lone (Frame.enter C.prog f i.args .normal) [] (w.forCall tape i)))
    (walk : ∀ (W : World) (base : Nat) (args : Array Value) (ds gs : List (DataW H)) (before : List MemPlace),
      (∀ (j : Nat) t v,fn.params[j]? = some t→args[j]? = some v→Value.okWide C.prog W .any base t v) →
      DataW.Whole enc C.prog fn.params.toList s.vars apart W args.toList ds gs before→laidMetH C.prog laid W→W.ShapedOpen C.prog →
      Calls C.prog f args W fun e W'=>∃ v,e = .returned v∧s.post enc C.prog fn apart fresh handsOn again W args v W') :
    ReturnsInHanded a C os f .any (fun w args=>(s.pre enc C.prog fn conds apart w args∧laidMetH C.prog laid w)∧sizedMet enc C.prog fn (OpenSpec.ofChange s) apart w args) (s.post enc C.prog fn apart fresh handsOn again) :=
  returnsInHanded_of_calls own started noInit wit fun w tape i _ hsh _ hok hp _=>by
    obtain ⟨_,_,_,fn',h1,_,_,_,_,hv⟩:=hok
    cases Option.some.inj (h1.symm.trans hfn)
    obtain ⟨⟨⟨ds,gs,before,hw,-⟩,hl⟩,-⟩:=hp
    refine (walk _ w.heap.size i.args ds gs before hv (DataW.Whole.of_heap (w':=w.forCall tape i) (by rfl) hw) (laidMetH.of_heap (by rfl) hl) hsh).mono ?_
    rintro e W' ⟨v,rfl,h⟩
    exact ChangeSpec.post_blind h
end
abbrev tab64e : List Int:=[0,1,56,2,57,49,28,3,61,58,42,50,38,29,17,4,62,47,59,36,45,43,51,22,53,39,33,30,24,18,12,5,63,55,48,27,60,41,37,16,46,35,44,21,52,32,23,11,54,26,40,15,34,20,31,10,25,14,19,9,13,8,7,6]
theorem gTabE : Tryz.prog.globalNamed "math/bits.deBruijn64tab" = some 8:=by kernel_rfl
theorem enve_of_laid {l : List (String×DataW Unit)} {w : World} (hsh : w.ShapedOpen Tryz.prog) (h : laidMetH Tryz.prog l w) (hp : (l.all fun x=>x.2.handleName?.isNone)=true)
    (h1 : ("internal/strconv.uint64pow10",Rows.laid_internal_strconv_uint64pow10)∈l) (h2 : ("strconv.ErrSyntax",Rows.laid_strconv_ErrSyntax)∈l) (h3 : ("strconv.ErrRange",Rows.laid_strconv_ErrRange)∈l)
    (h4 : ("math/bits.deBruijn64tab",Rows.laid_math_bits_deBruijn64tab)∈l) : EnvE w:=by
  have hw:=envw_of_laid hsh h hp h1 h2 h3
  rw [MakeChecks.laidMetH_plain _ _ _ hp] at h
  obtain ⟨r,h1'⟩:=laid_at h h4
  have ht : Lib.TabIs Tryz.prog w "math/bits.deBruijn64tab" .u8 tab64e:=Lib.tabIs_of_head gTabE (by kernel_rfl) Tryz.underlying350 Tryz.underlying5 (by kernel_rfl) (by kernel_rfl) h1'
  have hn : w.cell? ⟨9 - 1,0,none⟩=_:=ht.cell gTabE 0 (by decide)
  have hlt : 9 - 1<w.heap.size:=cell_lt hn
  exact ⟨hw,⟨by omega,hw.syn,hw.rng,ht.cell gTabE 15 (by decide)⟩⟩
end Go.Proofs.YtmimfkhkilijcaaGreatDoor
