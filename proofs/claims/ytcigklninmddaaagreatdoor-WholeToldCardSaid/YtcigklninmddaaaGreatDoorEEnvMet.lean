/- What the rows' listed variables give, for words and for marks. -/
import Derived.Test.YtcigklninmddaaaGreatDoorWEnvMet
import Derived.Test.YtcigklninmddaaaGreatDoorEv1
namespace Go.Proofs.YtcigklninmddaaaGreatDoor
set_option maxRecDepth 4000
open Go.ChangeShapes Go.WideShapes Go.ChangeAt Go.RowKit
set_option linter.unusedVariables false

abbrev tab64e : List Int := [0, 1, 56, 2, 57, 49, 28, 3, 61, 58, 42, 50, 38, 29, 17, 4, 62, 47, 59, 36, 45, 43, 51, 22, 53, 39, 33, 30, 24, 18, 12, 5, 63, 55, 48, 27, 60, 41, 37, 16, 46, 35, 44, 21, 52, 32, 23, 11, 54, 26, 40, 15, 34, 20, 31, 10, 25, 14, 19, 9, 13, 8, 7, 6]
theorem gTabE : Tryz.prog.globalNamed "math/bits.deBruijn64tab" = some 7 := by kernel_rfl

theorem enve_of_laid {l : List (String × DataW Unit)} {w : World} (hsh : w.ShapedOpen Tryz.prog) (h : laidMetH Tryz.prog l w) (hp : (l.all fun x => x.2.handleName?.isNone) = true)
    (h1 : ("internal/strconv.uint64pow10", Rows.laid_internal_strconv_uint64pow10) ∈ l) (h2 : ("strconv.ErrSyntax", Rows.laid_strconv_ErrSyntax) ∈ l) (h3 : ("strconv.ErrRange", Rows.laid_strconv_ErrRange) ∈ l)
    (h4 : ("math/bits.deBruijn64tab", Rows.laid_math_bits_deBruijn64tab) ∈ l) : EnvE w := by
  have hw := envw_of_laid hsh h hp h1 h2 h3
  rw [MakeChecks.laidMetH_plain _ _ _ hp] at h
  obtain ⟨r, h1'⟩ := laid_at h h4
  have ht : Lib.TabIs Tryz.prog w "math/bits.deBruijn64tab" .u8 tab64e := Lib.tabIs_of_head gTabE (by kernel_rfl) Tryz.underlying175 Tryz.underlying5 (by kernel_rfl) (by kernel_rfl) h1'
  have hn : w.cell? ⟨8 - 1, 0, none⟩ = _ := ht.cell gTabE 0 (by decide)
  have hlt : 8 - 1 < w.heap.size := cell_lt hn
  exact ⟨hw, ⟨by omega, hw.syn, hw.rng, ht.cell gTabE 15 (by decide)⟩⟩
end Go.Proofs.YtcigklninmddaaaGreatDoor
