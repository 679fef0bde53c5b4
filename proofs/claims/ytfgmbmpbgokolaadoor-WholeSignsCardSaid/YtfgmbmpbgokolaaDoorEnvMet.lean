/- What the rows' listed variables give: the library's own variables hold what the walks ask for. -/
import Derived.Test.YtfgmbmpbgokolaaDoorQFmt
import Derived.Test.YtfgmbmpbgokolaaDoorRows
import Derived.LaidLaws
import Derived.LaidMore
import Derived.LaidHandle
import Derived.MakeChecks
import Derived.Lib.LaidTab
import Derived.Stop.LaidErr
namespace Go.Proofs.YtfgmbmpbgokolaaDoor
open Go.ChangeShapes Go.WideShapes Go.ChangeAt Go.RowKit
set_option linter.unusedVariables false

theorem laid_at {P : Program} {x : String × DataW Unit} {w : World} : ∀ {l : List (String × DataW Unit)}, laidMet P l w → x ∈ l → ∃ r, laidMet P (x :: r) w
  | [], _, h => by cases h
  | y :: l, h, hx => by
    rcases List.mem_cons.1 hx with rfl | hx
    · exact ⟨l, h⟩
    · exact laid_at h.tail hx

theorem star : "*" ++ "errors.errorString" = "*errors.errorString" := by decide
theorem rowStar (u : TypeId) (h : Tryd.prog.typeName? 3 u = some "*errors.errorString") : u = 93 :=
  typeName_ptr_named (nm := "errors.errorString") (by rw [star]; kernel_rfl) (by kernel_rfl) (by decide) u (by rw [star]; exact h)

abbrev tab64 : List Int := [0, 1, 56, 2, 57, 49, 28, 3, 61, 58, 42, 50, 38, 29, 17, 4, 62, 47, 59, 36, 45, 43, 51, 22, 53, 39, 33, 30, 24, 18, 12, 5, 63, 55, 48, 27, 60, 41, 37, 16, 46, 35, 44, 21, 52, 32, 23, 11, 54, 26, 40, 15, 34, 20, 31, 10, 25, 14, 19, 9, 13, 8, 7, 6]

theorem gTab : Tryd.prog.globalNamed "math/bits.deBruijn64tab" = some 5 := by kernel_rfl
theorem gSyn : Tryd.prog.globalNamed "strconv.ErrSyntax" = some 1 := by kernel_rfl
theorem gRng : Tryd.prog.globalNamed "strconv.ErrRange" = some 2 := by kernel_rfl

theorem cell_big {w : World} {k o : Nat} {v : Value} (h : w.cell? ⟨k, o, none⟩ = some v) : k < w.heap.size := by
  rcases Nat.lt_or_ge k w.heap.size with h' | h'
  · exact h'
  · simp [World.cell?, Array.getElem?_eq_none h'] at h

theorem errNamed {n : String} {g : Nat} {text : List UInt8} {l : List (String × DataW Unit)} {w : World} (h : laidMet Tryd.prog l w) (hx : (n, .iface "*errors.errorString" (.ptr (.agg [.lit (.string text)]))) ∈ l)
    (hg : Tryd.prog.globalNamed n = some g) (ht : (Tryd.prog.globals[g]?).map (·.type) = some 45) : ∃ te pe, w.cell? ⟨g, 0, none⟩ = some (.iface te pe) := by
  obtain ⟨r, hr⟩ := laid_at h hx
  obtain ⟨a, s, hv, _⟩ := laid_sentinel hr hg ht Tryd.underlying45 rowStar Tryd.underlying93 Tryd.underlying95 rfl rfl Tryd.underlying9 (by kernel_rfl) (by kernel_rfl)
  have := World.var?_cell hg hv 0
  exact ⟨_, _, by simpa using this⟩

theorem env_of_laid {l : List (String × DataW Unit)} {w : World} (h : laidMetH Tryd.prog l w) (hp : (l.all fun x => x.2.handleName?.isNone) = true)
    (h1 : ("math/bits.deBruijn64tab", Rows.laid_math_bits_deBruijn64tab) ∈ l) (h2 : ("strconv.ErrSyntax", Rows.laid_strconv_ErrSyntax) ∈ l) (h3 : ("strconv.ErrRange", Rows.laid_strconv_ErrRange) ∈ l) : Env w := by
  rw [MakeChecks.laidMetH_plain _ _ _ hp] at h
  obtain ⟨te, pe, hs⟩ := errNamed h h2 gSyn (by kernel_rfl)
  obtain ⟨te', pe', hr⟩ := errNamed h h3 gRng (by kernel_rfl)
  obtain ⟨r, h1'⟩ := laid_at h h1
  have ht : Lib.TabIs Tryd.prog w "math/bits.deBruijn64tab" .u8 tab64 := Lib.tabIs_of_head gTab (by kernel_rfl) Tryd.underlying92 Tryd.underlying5 (by kernel_rfl) (by kernel_rfl) h1'
  have hn : w.cell? ⟨6 - 1, 0, none⟩ = _ := ht.cell gTab 0 (by decide)
  have := cell_big hn
  exact ⟨by omega, ⟨_, hs, .inr ⟨_, _, rfl⟩⟩, ⟨_, hr, .inr ⟨_, _, rfl⟩⟩, ht.cell gTab 15 (by decide)⟩
end Go.Proofs.YtfgmbmpbgokolaaDoor
