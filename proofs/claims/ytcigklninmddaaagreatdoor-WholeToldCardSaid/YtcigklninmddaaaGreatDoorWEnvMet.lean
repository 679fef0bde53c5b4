/- What the rows' listed variables give: the library's own variables, and config's names, hold what the walks ask for. -/
import Derived.Test.YtcigklninmddaaaGreatDoorKLibW
import Derived.Test.YtcigklninmddaaaGreatDoorRows
import Derived.LaidLaws
import Derived.LaidMore
import Derived.LaidHandle
import Derived.MakeChecks
import Derived.Lib.LaidTab
import Derived.Stop.LaidErr
import Derived.Handed
import Derived.Stop.Joined
namespace Go.Proofs.YtcigklninmddaaaGreatDoor
set_option maxRecDepth 4000
open Go.ChangeShapes Go.WideShapes Go.ChangeAt Go.RowKit
set_option linter.unusedVariables false

theorem laid_at {P : Program} {x : String × DataW Unit} {w : World} : ∀ {l : List (String × DataW Unit)}, laidMet P l w → x ∈ l → ∃ r, laidMet P (x :: r) w
  | [], _, h => by cases h
  | y :: l, h, hx => by
    rcases List.mem_cons.1 hx with rfl | hx
    · exact ⟨l, h⟩
    · exact laid_at h.tail hx

theorem star : "*" ++ "errors.errorString" = "*errors.errorString" := by decide
theorem rowStar (u : TypeId) (h : Tryz.prog.typeName? 3 u = some "*errors.errorString") : u = 166 :=
  typeName_ptr_named (nm := "errors.errorString") (by rw [star]; kernel_rfl) (by kernel_rfl) (by decide) u (by rw [star]; exact h)

theorem gPow : Tryz.prog.globalNamed "internal/strconv.uint64pow10" = some 5 := by kernel_rfl
theorem gSyn : Tryz.prog.globalNamed "strconv.ErrSyntax" = some 3 := by kernel_rfl
theorem gRng : Tryz.prog.globalNamed "strconv.ErrRange" = some 4 := by kernel_rfl
theorem errNamed {n : String} {g : Nat} {text : List UInt8} {l : List (String × DataW Unit)} {w : World} (h : laidMet Tryz.prog l w) (hx : (n, .iface "*errors.errorString" (.ptr (.agg [.lit (.string text)]))) ∈ l)
    (hg : Tryz.prog.globalNamed n = some g) (ht : (Tryz.prog.globals[g]?).map (·.type) = some 51) : ∃ te pe, w.cell? ⟨g, 0, none⟩ = some (.iface te pe) := by
  obtain ⟨r, hr⟩ := laid_at h hx
  obtain ⟨a, s, hv, _⟩ := laid_sentinel hr hg ht Tryz.underlying51 rowStar Tryz.underlying166 Tryz.underlying168 rfl rfl Tryz.underlying9 (by kernel_rfl) (by kernel_rfl)
  have := World.var?_cell hg hv 0
  exact ⟨_, _, by simpa using this⟩

theorem envw_of_laid {l : List (String × DataW Unit)} {w : World} (hsh : w.ShapedOpen Tryz.prog) (h : laidMetH Tryz.prog l w) (hp : (l.all fun x => x.2.handleName?.isNone) = true)
    (h1 : ("internal/strconv.uint64pow10", Rows.laid_internal_strconv_uint64pow10) ∈ l) (h2 : ("strconv.ErrSyntax", Rows.laid_strconv_ErrSyntax) ∈ l) (h3 : ("strconv.ErrRange", Rows.laid_strconv_ErrRange) ∈ l) : EnvW w := by
  rw [MakeChecks.laidMetH_plain _ _ _ hp] at h
  obtain ⟨te, pe, hs⟩ := errNamed h h2 gSyn (by kernel_rfl)
  obtain ⟨te', pe', hr⟩ := errNamed h h3 gRng (by kernel_rfl)
  obtain ⟨r, h1'⟩ := laid_at h h1
  have ht : Lib.TabIs Tryz.prog w "internal/strconv.uint64pow10" .u64 Lib.pow10Tab := Lib.tabIs_of_head gPow (by kernel_rfl) Tryz.underlying170 Tryz.underlying109 (by kernel_rfl) (by kernel_rfl) h1'
  exact ⟨ht, ⟨_, hs, .inr ⟨_, _, rfl⟩⟩, ⟨_, hr, .inr ⟨_, _, rfl⟩⟩, Tryz.laysM143.s1_3 w hsh⟩

/-- An array of three texts that reads as these. -/
theorem three_texts {P : Program} {W : World} {name : String} {t0 t1 t2 : List UInt8} {rest : List (String × DataW Unit)} {g : Nat} {t e : TypeId}
    (hg : P.globalNamed name = some g) (hty : (P.globals[g]?).map (·.type) = some t) (ht : P.underlying t = some (.array 3 e)) (he : P.underlying e = some .string) (hce : P.cellsOf e = 1) (hct : P.cellsOf t = 3)
    (h : laidMet P ((name, .agg [.lit (.string t0), .lit (.string t1), .lit (.string t2)]) :: rest) W) :
    W.cell? ⟨g, 0, none⟩ = some (.string ⟨t0.toArray⟩) ∧ W.cell? ⟨g, 1, none⟩ = some (.string ⟨t1.toArray⟩) ∧ W.cell? ⟨g, 2, none⟩ = some (.string ⟨t2.toArray⟩) := by
  obtain ⟨ps, ⟨g', t', cs, fuel, p, q, hg', ht', hvar, hd, _, _⟩, _⟩ := h
  obtain rfl := Option.some.inj (hg.symm.trans hg')
  obtain rfl := Option.some.inj (hty.symm.trans ht')
  obtain ⟨xs, m, -, hx, hl, hxl, hi⟩ := DataW.trod_array ht hd
  have hxs : xs.map (·.1) = [.lit (.string t0), .lit (.string t1), .lit (.string t2)] := by
    have := congrArg Prod.fst hx
    simpa using this.symm
  rw [hct] at hl
  have hone : ∀ (i : Nat) (tx : List UInt8), i < 3 → (xs.map (·.1))[i]? = some (.lit (.string tx)) → W.cell? ⟨g, i, none⟩ = some (.string ⟨tx.toArray⟩) := by
    intro i tx h3 hm
    have h1 := hi i h3
    rw [hce, Nat.mul_one] at h1
    rw [List.getElem?_map] at hm
    obtain ⟨y, hy, hyt⟩ := Option.map_eq_some_iff.1 hm
    rw [hy] at h1
    obtain ⟨s, hs, rfl, -⟩ := DataW.trod_string he h1
    have e1 : s.data.toList = tx := by simpa using hyt
    have hc : cs.toList[i]? = some (.string s) := by
      have := congrArg (·[0]?) hs
      simpa [List.getElem?_take, List.getElem?_drop] using this
    have := World.var?_cell hg hvar i
    rw [this, ← e1]
    simpa using hc
  exact ⟨hone 0 t0 (by omega) (by rw [hxs]; rfl), hone 1 t1 (by omega) (by rw [hxs]; rfl), hone 2 t2 (by omega) (by rw [hxs]; rfl)⟩

section
variable {H : Type} {enc : TypeId × Value → H}
/-- From a walk to the lifted form, where a row lists variables: the walk has what they hold, and the world's shape. -/
theorem lift_shaped {a : Assume} {C : Checked} {os : Os} {f : FuncId} {fn : Func} {s : ChangeSpec} {conds : List PathCond} {apart fresh handsOn again : Bool} {laid : List (String × DataW Unit)}
    (own : ownKnob C.prog.godebug = none) (started : os.Started) (noInit : C.prog.inits.idxOf? f = none) (hfn : C.prog.funcs[f]? = some fn)
    (wit : ∃ (w : World) (tape : Tape) (i : Input), w.os = os ∧ (w.forCall tape i).Shaped C.prog ∧ i.vars = [] ∧ Input.okWide C.prog (w.forCall tape i) .any w.heap.size f i ∧
      ((s.pre enc C.prog fn conds apart (w.forCall tape i).memory i.args ∧ laidMetH C.prog laid (w.forCall tape i).memory) ∧ sizedMet enc C.prog fn (OpenSpec.ofChange s) apart (w.forCall tape i).memory i.args) ∧ a.holds C.prog (lone (Frame.enter C.prog f i.args .normal) [] (w.forCall tape i)))
    (walk : ∀ (W : World) (base : Nat) (args : Array Value) (ds gs : List (DataW H)) (before : List MemPlace),
      (∀ (j : Nat) t v, fn.params[j]? = some t → args[j]? = some v → Value.okWide C.prog W .any base t v) →
      DataW.Whole enc C.prog fn.params.toList s.vars apart W args.toList ds gs before → laidMetH C.prog laid W → W.ShapedOpen C.prog →
      Calls C.prog f args W fun e W' => ∃ v, e = .returned v ∧ s.post enc C.prog fn apart fresh handsOn again W args v W') :
    ReturnsInHanded a C os f .any (fun w args => (s.pre enc C.prog fn conds apart w args ∧ laidMetH C.prog laid w) ∧ sizedMet enc C.prog fn (OpenSpec.ofChange s) apart w args) (s.post enc C.prog fn apart fresh handsOn again) :=
  returnsInHanded_of_calls own started noInit wit fun w tape i _ hsh _ hok hp _ => by
    obtain ⟨_, _, _, fn', h1, _, _, _, _, hv⟩ := hok
    cases Option.some.inj (h1.symm.trans hfn)
    obtain ⟨⟨⟨ds, gs, before, hw, -⟩, hl⟩, -⟩ := hp
    refine (walk _ w.heap.size i.args ds gs before hv (DataW.Whole.of_heap (w' := w.forCall tape i) (by rfl) hw) (laidMetH.of_heap (by rfl) hl) hsh).mono ?_
    rintro e W' ⟨v, rfl, h⟩
    exact ChangeSpec.post_blind h
end
end Go.Proofs.YtcigklninmddaaaGreatDoor
