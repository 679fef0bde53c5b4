/- KLibW; WNames; WEnvMet: what is reached of them. -/
import Derived.Handed
import Derived.LaidHandle
import Derived.LaidLaws
import Derived.LaidMore
import Derived.Lib.AppendIntMem
import Derived.Lib.Join
import Derived.Lib.LaidTab
import Derived.MakeChecks
import Derived.Stop.Joined
import Derived.Stop.LaidErr
import Derived.Test.YtmimfkhkilijcaaGreatDoorPr01
import Derived.Test.YtmimfkhkilijcaaGreatDoorPr03
import Derived.Test.YtmimfkhkilijcaaGreatDoorPr10
import Derived.Test.YtmimfkhkilijcaaGreatDoorRows
namespace Go.Proofs.YtmimfkhkilijcaaGreatDoor
set_option maxRecDepth 4000
open Go.ChangeShapes Go.WideShapes Go.ChangeAt Go.RowKit
set_option linter.unusedVariables false

/-- What the library's own variables hold. -/
structure EnvW (w : World) : Prop where
  pow : Lib.TabIs Tryz.prog w "internal/strconv.uint64pow10" .u64 Lib.pow10Tab
  syn : ∃ v, w.cell? ⟨5, 0, none⟩ = some v ∧ (v = .nilIface ∨ ∃ te pe, v = .iface te pe)
  rng : ∃ v, w.cell? ⟨6, 0, none⟩ = some v ∧ (v = .nilIface ∨ ∃ te pe, v = .iface te pe)
  max : ∃ m, w.cell? ⟨0, 0, none⟩ = some (.int .i64 m)
theorem cell_stays {w w' : World} (hb : Below w.heap.size w w') {p : Addr} {v : Value} (h : w.cell? p = some v) : w'.cell? p = some v := (hb.cell (cell_lt h)).trans h
theorem EnvW.on {w w' : World} (h : EnvW w) (hb : Below w.heap.size w w') : EnvW w' :=
  ⟨Lib.tabBelow_of_tabIs h.pow w' hb, h.syn.imp fun v hv => ⟨cell_stays hb hv.1, hv.2⟩, h.rng.imp fun v hv => ⟨cell_stays hb hv.1, hv.2⟩, h.max.imp fun m hm => cell_stays hb hm⟩

end Go.Proofs.YtmimfkhkilijcaaGreatDoor

/- The library's texts and numbers, in plain words. -/
namespace Go.Proofs.YtmimfkhkilijcaaGreatDoor
set_option maxRecDepth 4000
open Go.ChangeShapes Go.WideShapes Go.ChangeAt Go.RowKit
open PWord
open Go.Lib (itoa)
set_option linter.unusedVariables false

theorem grow_upon (w : World) (k : Nat) (os : Array Obj) : Below w.heap.size w (Sort.grow (w.drewN k) os) := by
  refine ⟨rfl, rfl, rfl, ?_, fun j hj => ?_⟩
  · show w.heap.size ≤ (w.heap ++ os).size
    simp
  · show (w.heap ++ os)[j]? = _
    rw [Array.getElem?_append_left hj]

/-- strconv.Itoa. -/
theorem li_itoa (n : Int) (hn : in64 n) (w : World) (he : EnvW w) : Calls Tryz.prog 84 #[.int .i64 n] w fun e w' => e = .returned (.string (bstr (itoa n))) ∧ Below w.heap.size w w' :=
  (Tryz.strconv_Itoa n hn.1 hn.2 w he.pow).mono fun e w' ⟨h, k, os, hw⟩ => ⟨h, by rw [hw]; exact grow_upon w k os⟩

/-- strconv.Atoi: a number. -/
theorem li_atoi_ok (s : ByteArray) (n : Int) (hs : s.size ≤ 1000000) (h : Lib.atoiAll s.data.toList = .ok n) (w : World) :
    Calls Tryz.prog 185 #[.string s] w fun e w' => e = .returned (.tuple #[.int .i64 n, .nilIface]) ∧ Below w.heap.size w w' :=
  (Tryz.strconv_Atoi_ok s (by omega) n h w).mono fun e w' ⟨he, hw⟩ => ⟨he, by
    rcases hw with rfl | ⟨t, rfl⟩
    · exact Below.refl _ _
    · exact bytes_below (Below.refl _ _) (Nat.le_refl _) t _⟩
/-- None: some number, and an error. -/
def NoNum (w : World) (e : Ending) (w' : World) : Prop := ∃ (v : Int) (N : Nat), e = .returned (.tuple #[.int .i64 v, .iface 330 (.pointer (some ⟨N, 0, none⟩))]) ∧ Below w.heap.size w w'
theorem li_atoi_none (s : ByteArray) (hs : s.size ≤ 1000000) (h : ∀ n, Lib.atoiAll s.data.toList ≠ .ok n) (w : World) (he : EnvW w) :
    Calls Tryz.prog 185 #[.string s] w (NoNum w) := by
  rcases hx : Lib.atoiAll s.data.toList with n | _ | _
  · exact absurd hx (h n)
  · obtain ⟨ev, h1, h2⟩ := he.syn
    have hc : Calls Tryz.prog 185 #[.string s] w _ := Any.strconv_Atoi_syntax Tryz.laysC172 s (by omega) hx ev w h1 h2
    exact hc.mono fun e w' ⟨N, h, _, _, hb⟩ => ⟨_, N, h, hb⟩
  · obtain ⟨ev, h1, h2⟩ := he.rng
    exact (Tryz.strconv_Atoi_range s (by omega) hx ev w h1 h2).mono fun e w' ⟨N, h, _, _, hb⟩ => ⟨_, N, h, hb⟩

/-- A row of texts of the call's own, newly made: what a parting gives. -/
def Parted (w : World) (L : List (List UInt8)) (e : Ending) (w' : World) : Prop :=
  ∃ (g c : Nat) (ws : List ByteArray), e = .returned (.slice (some ⟨g, 0, none⟩) ws.length c) ∧ ws.map (·.data.toList) = L ∧ RowS w' (some ⟨g, 0, none⟩) ws ∧ ws.length ≤ c ∧ c ≤ 100000 ∧ w.heap.size ≤ g ∧ Below w.heap.size w w'

theorem rows_cells (w : World) (ws : List ByteArray) (N : Nat) (e : TypeId) : RowS (w.alloc (.cells (Lib.cellsOf ws N) e)) (some ⟨w.heap.size, 0, none⟩) ws :=
  ⟨fun i hi => ⟨w.heap.size, 0, rfl, by simp, by
    rw [cell_of_row _ w.heap.size (0 + i) _ e (0, 0) (heap_alloc_new w _)]
    simp only [Lib.cellsOf, Nat.zero_add, List.getElem?_toArray]
    rw [List.getElem?_append_left (by simpa using hi)]
    simp [hi]⟩⟩

/-- strings.SplitN at a blank, four parts at most. -/
theorem li_splitn (s : ByteArray) (w : World) (hs : s.size ≤ 1000000) (he : EnvW w) :
    Calls Tryz.prog 125 #[.string s, .string ⟨#[32]⟩, .int .i64 4] w (Parted w (cuts 32 3 s.data.toList)) := by
  obtain ⟨m, hm⟩ := he.max
  refine (Tryz.strings_SplitN s ⟨#[32]⟩ 4 m w (by omega) hm (by decide) (by decide) (by decide)).mono ?_
  rintro e w' ⟨rfl, rfl⟩
  refine ⟨w.heap.size, min 4 (s.size + 1), _, rfl, ?_, rows_cells w _ _ _, ?_, by omega, Nat.le_refl _, (Below.refl _ _).alloc (Nat.le_refl _) _⟩
  · rw [Lib.splitB_data, show min 4 (s.size + 1) - 1 = min 3 s.data.toList.length by rw [Array.length_toList]; show min 4 (s.data.size + 1) - 1 = _; omega]
    exact cuts_min 32 3 s.data.toList
  · have := Lib.splitB_length_le ⟨#[32]⟩ 0 (min 4 (s.size + 1) - 1) s
    omega

/-- strings.Split at line feeds. -/
theorem li_split (s : ByteArray) (L : List (List UInt8)) (w : World) (hs : s.size ≤ 90000) (he : EnvW w) (hL : cuts 10 (s.data.toList.count 10) s.data.toList = L) :
    Calls Tryz.prog 15 #[.string s, .string ⟨#[10]⟩] w (Parted w L) := by
  obtain ⟨m, hm⟩ := he.max
  have hcb : Lib.countB s ⟨#[10]⟩ = s.data.toList.count 10 := Lib.count_one 10 s.data.toList
  have hlen := Lib.splitB_all ⟨#[10]⟩ (by decide) 0 _ s rfl
  have hle := Lib.countB_le ⟨#[10]⟩ (by decide) _ s (Nat.le_refl _)
  refine (Tryz.strings_Split s ⟨#[10]⟩ m w (by omega) hm (by decide)).mono ?_
  rintro e w' ⟨rfl, rfl⟩
  refine ⟨w.heap.size, Lib.countB s ⟨#[10]⟩ + 1, Lib.splitB ⟨#[10]⟩ 0 (Lib.countB s ⟨#[10]⟩) s, by rw [hlen], ?_, ?_, by omega, by omega, Nat.le_refl _, (Below.refl _ _).alloc (Nat.le_refl _) _⟩
  · rw [Lib.splitB_data, hcb]
    exact hL
  · rw [← Lib.cellsOf_full]
    exact rows_cells w _ _ _

theorem glue_tail (c : UInt8) : ∀ (x : List UInt8) (r : List (List UInt8)), glue c (x :: r) = x ++ Lib.joinTail [c] r
  | x, [] => by simp [glue, Lib.joinTail]
  | x, y :: r => by
    rw [glue_cons, glue_tail c y r]
    simp [Lib.joinTail]
theorem join_glue (c : UInt8) (ws : List (List UInt8)) : Lib.join ws [c] = glue c ws := by
  cases ws with
  | nil => rfl
  | cons x r => rw [Lib.join_cons, glue_tail]

/-- strings.Join with blanks. -/
theorem li_join (g o c : Nat) (xs : List ByteArray) (w : World) (hr : RowS w (some ⟨g, o, none⟩) xs) (h0 : 0 < xs.length) (hn : xs.length ≤ 1000) (hc : xs.length ≤ c) (hlen : (glue 32 (xs.map (·.data.toList))).length ≤ 1000000) :
    Calls Tryz.prog 18 #[.slice (some ⟨g, o, none⟩) xs.length c, .string ⟨#[32]⟩] w fun e w' => e = .returned (.string (bstr (glue 32 (xs.map (·.data.toList))))) ∧ Below w.heap.size w w' := by
  have hj : Lib.join (xs.map (·.data.toList)) (⟨#[32]⟩ : ByteArray).data.toList = glue 32 (xs.map (·.data.toList)) := join_glue 32 _
  refine (Tryz.strings_Join g o c xs ⟨#[32]⟩ w (fun j x hx => ?_) (hr.cell 0 h0).1 (by omega) hc (by rw [hj]; omega)).mono ?_
  · obtain ⟨hj, rfl⟩ := List.getElem?_eq_some_iff.1 hx
    exact (hr.cell j hj).2
  · rintro e w' ⟨rfl, hb⟩
    exact ⟨by rw [hj], hb⟩

/-- strings.Cut at a blank. -/
def CutPost (w : World) (a b : List UInt8) (e : Ending) (w' : World) : Prop := ∃ (t : Bool), e = .returned (.tuple #[.string (bstr a), .string (bstr b), .bool t]) ∧ Below w.heap.size w w'
theorem li_cut (s : ByteArray) (w : World) (hs : s.size ≤ 1000000) (he : EnvW w) :
    Calls Tryz.prog 41 #[.string s, .string ⟨#[32]⟩] w (CutPost w (Lib.cut s.data.toList [32]).1 (Lib.cut s.data.toList [32]).2.1) := by
  obtain ⟨m, hm⟩ := he.max
  refine (Tryz.strings_Cut s ⟨#[32]⟩ m w (by omega) hm).mono ?_
  rintro e w' ⟨rfl, n, rfl⟩
  exact ⟨_, rfl, ⟨rfl, rfl, rfl, Nat.le_refl _, fun _ _ => rfl⟩⟩
end Go.Proofs.YtmimfkhkilijcaaGreatDoor
namespace Go.Proofs.YtmimfkhkilijcaaGreatDoor
set_option maxRecDepth 4000
open Go.ChangeShapes Go.WideShapes Go.ChangeAt Go.RowKit
set_option linter.unusedVariables false

/-- What rules are called. -/
structure Names (w : World) : Prop where
  n0 : w.cell? ⟨1, 0, none⟩ = some (.string ⟨#[98, 111, 117, 110, 100, 101, 100]⟩)
  n1 : w.cell? ⟨1, 1, none⟩ = some (.string ⟨#[109, 97, 114, 107, 101, 100]⟩)
  n2 : w.cell? ⟨1, 2, none⟩ = some (.string ⟨#[112, 101, 114, 99, 101, 110, 116]⟩)
theorem Names.on {w w' : World} (h : Names w) (hb : Below w.heap.size w w') : Names w' := ⟨cell_stays hb h.n0, cell_stays hb h.n1, cell_stays hb h.n2⟩
theorem Names.lt {w : World} (h : Names w) : 1 < w.heap.size := cell_lt h.n0
end Go.Proofs.YtmimfkhkilijcaaGreatDoor
namespace Go.Proofs.YtmimfkhkilijcaaGreatDoor
set_option maxRecDepth 4000
open Go.ChangeShapes Go.WideShapes Go.ChangeAt Go.RowKit
set_option linter.unusedVariables false

theorem laid_at {P : Program} {x : String × DataW Unit} {w : World} : ∀ {l : List (String × DataW Unit)}, laidMet P l w → x ∈ l → ∃ r, laidMet P (x :: r) w
  | [], _, h => by cases h
  | y :: l, h, hx => by
    rcases List.mem_cons.1 hx with rfl | hx
    · exact ⟨l, h⟩
    · exact laid_at h.tail hx

theorem star : "*" ++ "errors.errorString" = "*errors.errorString" := by decide
theorem rowStar (u : TypeId) (h : Tryz.prog.typeName? 3 u = some "*errors.errorString") : u = 346 :=
  typeName_ptr_named (nm := "errors.errorString") (by rw [star]; kernel_rfl) (by kernel_rfl) (by decide) u (by rw [star]; exact h)

theorem gPow : Tryz.prog.globalNamed "internal/strconv.uint64pow10" = some 4 := by kernel_rfl
theorem gSyn : Tryz.prog.globalNamed "strconv.ErrSyntax" = some 5 := by kernel_rfl
theorem gRng : Tryz.prog.globalNamed "strconv.ErrRange" = some 6 := by kernel_rfl
theorem gNames : Tryz.prog.globalNamed "tidewaiter/config.names" = some 1 := by kernel_rfl

theorem errNamed {n : String} {g : Nat} {text : List UInt8} {l : List (String × DataW Unit)} {w : World} (h : laidMet Tryz.prog l w) (hx : (n, .iface "*errors.errorString" (.ptr (.agg [.lit (.string text)]))) ∈ l)
    (hg : Tryz.prog.globalNamed n = some g) (ht : (Tryz.prog.globals[g]?).map (·.type) = some 83) : ∃ te pe, w.cell? ⟨g, 0, none⟩ = some (.iface te pe) := by
  obtain ⟨r, hr⟩ := laid_at h hx
  obtain ⟨a, s, hv, _⟩ := laid_sentinel hr hg ht Tryz.underlying83 rowStar Tryz.underlying346 Tryz.underlying348 rfl rfl Tryz.underlying9 (by kernel_rfl) (by kernel_rfl)
  have := World.var?_cell hg hv 0
  exact ⟨_, _, by simpa using this⟩

theorem envw_of_laid {l : List (String × DataW Unit)} {w : World} (hsh : w.ShapedOpen Tryz.prog) (h : laidMetH Tryz.prog l w) (hp : (l.all fun x => x.2.handleName?.isNone) = true)
    (h1 : ("internal/strconv.uint64pow10", Rows.laid_internal_strconv_uint64pow10) ∈ l) (h2 : ("strconv.ErrSyntax", Rows.laid_strconv_ErrSyntax) ∈ l) (h3 : ("strconv.ErrRange", Rows.laid_strconv_ErrRange) ∈ l) : EnvW w := by
  rw [MakeChecks.laidMetH_plain _ _ _ hp] at h
  obtain ⟨te, pe, hs⟩ := errNamed h h2 gSyn (by kernel_rfl)
  obtain ⟨te', pe', hr⟩ := errNamed h h3 gRng (by kernel_rfl)
  obtain ⟨r, h1'⟩ := laid_at h h1
  have ht : Lib.TabIs Tryz.prog w "internal/strconv.uint64pow10" .u64 Lib.pow10Tab := Lib.tabIs_of_head gPow (by kernel_rfl) Tryz.underlying334 Tryz.underlying223 (by kernel_rfl) (by kernel_rfl) h1'
  exact ⟨ht, ⟨_, hs, .inr ⟨_, _, rfl⟩⟩, ⟨_, hr, .inr ⟨_, _, rfl⟩⟩, Tryz.laysM143.s1_3 w hsh⟩

/-- An array of three texts that reads as these. -/
theorem three_texts {P : Program} {W : World} {name : String} {t0 t1 t2 : List UInt8} {rest : List (String × DataW Unit)} {g : Nat} {t e : TypeId}
    (hg : P.globalNamed name = some g) (hty : (P.globals[g]?).map (·.type) = some t) (ht : P.underlying t = some (.array 3 e)) (he : P.underlying e = some .string) (hce : P.cellsOf e = 1) (hct : P.cellsOf t = 3)
    (h : laidMet P ((name, .agg [.lit (.string t0), .lit (.string t1), .lit (.string t2)]) :: rest) W) :
    W.cell? ⟨g, 0, none⟩ = some (.string ⟨t0.toArray⟩) ∧ W.cell? ⟨g, 1, none⟩ = some (.string ⟨t1.toArray⟩) ∧ W.cell? ⟨g, 2, none⟩ = some (.string ⟨t2.toArray⟩) := by
  obtain ⟨ps, ⟨g', t', cs, fuel, p, q, hg', ht', hvar, hd, _, _⟩, _⟩ := h
  obtain rfl := Option.some.inj (hg.symm.trans hg')
  obtain rfl := Option.some.inj (hty.symm.trans ht')
  obtain ⟨xs, m, -, hx, hl, hxl, hi⟩ := DataW.trod_array ht hd
  have hxs : xs.map (·.1) = [.lit (.string t0), .lit (.string t1), .lit (.string t2)] := by
    have := congrArg Prod.fst hx
    simpa using this.symm
  rw [hct] at hl
  have hone : ∀ (i : Nat) (tx : List UInt8), i < 3 → (xs.map (·.1))[i]? = some (.lit (.string tx)) → W.cell? ⟨g, i, none⟩ = some (.string ⟨tx.toArray⟩) := by
    intro i tx h3 hm
    have h1 := hi i h3
    rw [hce, Nat.mul_one] at h1
    rw [List.getElem?_map] at hm
    obtain ⟨y, hy, hyt⟩ := Option.map_eq_some_iff.1 hm
    rw [hy] at h1
    obtain ⟨s, hs, rfl, -⟩ := DataW.trod_string he h1
    have e1 : s.data.toList = tx := by simpa using hyt
    have hc : cs.toList[i]? = some (.string s) := by
      have := congrArg (·[0]?) hs
      simpa [List.getElem?_take, List.getElem?_drop] using this
    have := World.var?_cell hg hvar i
    rw [this, ← e1]
    simpa using hc
  exact ⟨hone 0 t0 (by omega) (by rw [hxs]; rfl), hone 1 t1 (by omega) (by rw [hxs]; rfl), hone 2 t2 (by omega) (by rw [hxs]; rfl)⟩

theorem names_of_laid {l : List (String × DataW Unit)} {w : World} (h : laidMetH Tryz.prog l w) (hp : (l.all fun x => x.2.handleName?.isNone) = true)
    (h1 : ("tidewaiter/config.names", Rows.laid_tidewaiter_config_names) ∈ l) : Names w := by
  rw [MakeChecks.laidMetH_plain _ _ _ hp] at h
  obtain ⟨r, h1'⟩ := laid_at h h1
  obtain ⟨a, b, c⟩ := three_texts (t0 := [98, 111, 117, 110, 100, 101, 100]) (t1 := [109, 97, 114, 107, 101, 100]) (t2 := [112, 101, 114, 99, 101, 110, 116]) gNames (by kernel_rfl) Tryz.underlying212 Tryz.underlying9 (by kernel_rfl) (by kernel_rfl) h1'
  exact ⟨a, b, c⟩

section
variable {H : Type} {enc : TypeId × Value → H}
/-- From a walk to the lifted form, where a row lists variables: the walk has what they hold, and the world's shape. -/
theorem lift_shaped {a : Assume} {C : Checked} {os : Os} {f : FuncId} {fn : Func} {s : ChangeSpec} {conds : List PathCond} {apart fresh handsOn again : Bool} {laid : List (String × DataW Unit)}
    (own : ownKnob C.prog.godebug = none) (started : os.Started) (noInit : C.prog.inits.idxOf? f = none) (hfn : C.prog.funcs[f]? = some fn)
    (wit : ∃ (w : World) (tape : Tape) (i : Input), w.os = os ∧ (w.forCall tape i).Shaped C.prog ∧ i.vars = [] ∧ Input.okWide C.prog (w.forCall tape i) .any w.heap.size f i ∧
      ((s.pre enc C.prog fn conds apart (w.forCall tape i).memory i.args ∧ laidMetH C.prog laid (w.forCall tape i).memory) ∧ sizedMet enc C.prog fn (OpenSpec.ofChange s) apart (w.forCall tape i).memory i.args) ∧ a.holds C.prog (lone (Frame.enter C.prog f i.args .normal) [] (w.forCall tape i)))
    (walk : ∀ (W : World) (base : Nat) (args : Array Value) (ds gs : List (DataW H)) (before : List MemPlace),
      (∀ (j : Nat) t v, fn.params[j]? = some t → args[j]? = some v → Value.okWide C.prog W .any base t v) →
      DataW.Whole enc C.prog fn.params.toList s.vars apart W args.toList ds gs before → laidMetH C.prog laid W → W.ShapedOpen C.prog →
      Calls C.prog f args W fun e W' => ∃ v, e = .returned v ∧ s.post enc C.prog fn apart fresh handsOn again W args v W') :
    ReturnsInHanded a C os f .any (fun w args => (s.pre enc C.prog fn conds apart w args ∧ laidMetH C.prog laid w) ∧ sizedMet enc C.prog fn (OpenSpec.ofChange s) apart w args) (s.post enc C.prog fn apart fresh handsOn again) :=
  returnsInHanded_of_calls own started noInit wit fun w tape i _ hsh _ hok hp _ => by
    obtain ⟨_, _, _, fn', h1, _, _, _, _, hv⟩ := hok
    cases Option.some.inj (h1.symm.trans hfn)
    obtain ⟨⟨⟨ds, gs, before, hw, -⟩, hl⟩, -⟩ := hp
    refine (walk _ w.heap.size i.args ds gs before hv (DataW.Whole.of_heap (w' := w.forCall tape i) (by rfl) hw) (laidMetH.of_heap (by rfl) hl) hsh).mono ?_
    rintro e W' ⟨v, rfl, h⟩
    exact ChangeSpec.post_blind h
end
end Go.Proofs.YtmimfkhkilijcaaGreatDoor
