/- Shelf: what is reached of them. -/
import Derived.Shelf.Strings.Builder1
import Derived.Shelf.Strings.Builder2
import Derived.Shelf.Strings.OnBuilder
import Derived.Shelf.Small.Wraps
import Derived.Shelf.Strings.BuilderF
import Derived.Shelf.Strings.BuilderK
import Derived.Shelf.Strconv.Atoi
import Derived.Shelf.Strconv.Itoa0
import Derived.Shelf.Strconv.Itoa1
import Derived.Shelf.LaysM
import Derived.Shelf.Strconv.Itoa2
import Derived.Shelf.Strconv.Itoa3
import Derived.Shelf.Strconv.Itoa4
import Derived.Shelf.Strconv.AtoiErrFast
import Derived.Shelf.Strconv.ParseIntEmpty
import Derived.Shelf.Strconv.AtoiFail
import Derived.Shelf.Strconv.Clone
import Derived.Shelf.Strconv.SyntaxError
import Derived.Shelf.LaysC
import Derived.Shelf.Strconv.ToError
import Derived.Shelf.Strconv.Lower
import Derived.Shelf.Strconv.ParseUint10
import Derived.Shelf.Strconv.ParseUint10Empty
import Derived.Shelf.Strconv.ParseUint10Any
import Derived.Shelf.Strconv.ParseInt10
import Derived.Shelf.Strconv.AtoiLong
import Derived.Shelf.Strconv.AtoiInnerAll
import Derived.Shelf.Strconv.RangeError
import Derived.Shelf.Strconv.ToErrorRange
import Derived.Shelf.Strconv.AtoiAll
import Derived.Ground.MpProg
import Derived.Shelf.Pu.ParseUintPublic10
import Derived.Shelf.Strings.Search1
import Derived.Shelf.Strings.Search2
import Derived.Shelf.Strings.Search3
import Derived.Shelf.Strings.Cut
import Derived.Shelf.Strings.Count
import Derived.Shelf.Strings.Shaped
import Derived.Shelf.Strings.Prefix
import Derived.Shelf.Strings.Split
import Derived.Shelf.Strings.SplitShaped
import Derived.Shelf.Bits.Mul64
import Derived.Shelf.Unicode.DecodeSlow
import Derived.Shelf.Slices.Turned
import Derived.Test.YtmimfkhkilijcaaGreatDoorProg
set_option linter.unusedVariables false
set_option linter.unusedSimpArgs false
set_option maxRecDepth 100000
set_option maxHeartbeats 8000000
namespace Go.Proofs
open Go.Shelf
def Tryz.lays169_ren : Go.Shelf.Ren:=⟨fun|169=>40|n=>n,fun|70=>78|9=>9|0=>0|72=>81|37=>79|127=>143|3=>3|5=>5|n=>n,fun|n=>n⟩
theorem Tryz.lays169 : Go.Proofs.Lays.n169 Tryz.prog Tryz.lays169_ren:={
  mixed:=by kernel_rfl
  f169:=Tryz.func40.trans (congrArg some (by kernel_rfl))
  t0:=Tryz.underlying0
  a0:=Tryz.isAgg0
  z0:=Tryz.sizeOf0
  v0:=Tryz.zeroValue0
  t3:=Tryz.underlying3
  a3:=Tryz.isAgg3
  z3:=Tryz.sizeOf3
  v3:=Tryz.zeroValue3
  t9:=Tryz.underlying9
  a9:=Tryz.isAgg9
  z9:=Tryz.sizeOf9
  v9:=Tryz.zeroValue9
  t37:=Tryz.underlying79
  a37:=Tryz.isAgg79
  z37:=Tryz.sizeOf79
  v37:=Tryz.zeroValue79
  t70:=Tryz.underlying78
  a70:=Tryz.isAgg78
  z70:=Tryz.sizeOf78
  v70:=Tryz.zeroValue78
  t72:=Tryz.underlying81
  a72:=Tryz.isAgg81
  z72:=Tryz.sizeOf81
  v72:=Tryz.zeroValue81
  t127:=Tryz.underlying143
  a127:=Tryz.isAgg143
  z127:=Tryz.sizeOf143
  v127:=Tryz.zeroValue143 }
theorem Tryz.Builder_Extra_169 : Builder.Extra Tryz.prog Tryz.lays169_ren:={
  sizeBuilder:=by kernel_rfl
  liesBuilder:=by kernel_rfl
  t5:=Tryz.underlying5
  a5:=Tryz.isAgg5
  z5:=Tryz.sizeOf5
  v5:=Tryz.zeroValue5
  infoByte:=by kernel_rfl
  cellsByte:=by kernel_rfl
  sizeByte:=by kernel_rfl
  neB5:=by decide }
def Tryz.lays156_ren : Go.Shelf.Ren:=⟨fun|156=>18|165=>48|166=>36|169=>40|240=>79|241=>94|276=>131|277=>139|n=>n,fun|31=>25|9=>9|3=>3|4=>4|0=>0|20=>20|72=>81|76=>84|70=>78|37=>79|75=>83|127=>143|164=>210|5=>5|80=>88|n=>n,fun|n=>n⟩
theorem Tryz.lays156 : Go.Proofs.Lays.n156 Tryz.prog Tryz.lays156_ren:={
  mixed:=by kernel_rfl
  f156:=Tryz.func18.trans (congrArg some (by kernel_rfl))
  f165:=Tryz.func48.trans (congrArg some (by kernel_rfl))
  f166:=Tryz.func36.trans (congrArg some (by kernel_rfl))
  f169:=Tryz.func40.trans (congrArg some (by kernel_rfl))
  f240:=Tryz.func79.trans (congrArg some (by kernel_rfl))
  f241:=Tryz.func94.trans (congrArg some (by kernel_rfl))
  f276:=Tryz.func131.trans (congrArg some (by kernel_rfl))
  f277:=Tryz.func139.trans (congrArg some (by kernel_rfl))
  t0:=Tryz.underlying0
  a0:=Tryz.isAgg0
  z0:=Tryz.sizeOf0
  v0:=Tryz.zeroValue0
  t3:=Tryz.underlying3
  a3:=Tryz.isAgg3
  z3:=Tryz.sizeOf3
  v3:=Tryz.zeroValue3
  t4:=Tryz.underlying4
  a4:=Tryz.isAgg4
  z4:=Tryz.sizeOf4
  v4:=Tryz.zeroValue4
  t9:=Tryz.underlying9
  a9:=Tryz.isAgg9
  z9:=Tryz.sizeOf9
  v9:=Tryz.zeroValue9
  t20:=Tryz.underlying20
  a20:=Tryz.isAgg20
  z20:=Tryz.sizeOf20
  v20:=Tryz.zeroValue20
  t31:=Tryz.underlying25
  a31:=Tryz.isAgg25
  z31:=Tryz.sizeOf25
  v31:=Tryz.zeroValue25
  t37:=Tryz.underlying79
  a37:=Tryz.isAgg79
  z37:=Tryz.sizeOf79
  v37:=Tryz.zeroValue79
  t70:=Tryz.underlying78
  a70:=Tryz.isAgg78
  z70:=Tryz.sizeOf78
  v70:=Tryz.zeroValue78
  t72:=Tryz.underlying81
  a72:=Tryz.isAgg81
  z72:=Tryz.sizeOf81
  v72:=Tryz.zeroValue81
  t75:=Tryz.underlying83
  a75:=Tryz.isAgg83
  z75:=Tryz.sizeOf83
  v75:=Tryz.zeroValue83
  t76:=Tryz.underlying84
  a76:=Tryz.isAgg84
  z76:=Tryz.sizeOf84
  v76:=Tryz.zeroValue84
  t127:=Tryz.underlying143
  a127:=Tryz.isAgg143
  z127:=Tryz.sizeOf143
  v127:=Tryz.zeroValue143
  t164:=Tryz.underlying210
  a164:=Tryz.isAgg210
  z164:=Tryz.sizeOf210
  v164:=Tryz.zeroValue210 }
theorem Tryz.Builder_Extra_156 : Builder.Extra Tryz.prog Tryz.lays156_ren:={
  sizeBuilder:=by kernel_rfl
  liesBuilder:=by kernel_rfl
  t5:=Tryz.underlying5
  a5:=Tryz.isAgg5
  z5:=Tryz.sizeOf5
  v5:=Tryz.zeroValue5
  infoByte:=by kernel_rfl
  cellsByte:=by kernel_rfl
  sizeByte:=by kernel_rfl
  neB5:=by decide }
open Go.RowKit in
theorem Tryz.strings_Join (bk o c : Nat) (xs : List ByteArray) (sep : ByteArray) (w : World) (hcells : ∀ (j : Nat) x,xs[j]? = some x→w.cell? ⟨bk,o+j,none⟩=some (.string x)) (hbk : bk<w.heap.size) (hN : xs.length≤140737488355328) (hcap : xs.length≤c) (hlen : (Lib.join (xs.map (·.data.toList)) sep.data.toList).length≤140737488355328) :
    Calls Tryz.prog 18 #[.slice (some ⟨bk,o,none⟩) xs.length c,.string sep] w fun e w'=>e = .returned (.string ⟨(Lib.join (xs.map (·.data.toList)) sep.data.toList).toArray⟩)∧Below w.heap.size w w':=Any.strings_Join Tryz.lays156 Tryz.Builder_Extra_156 bk o c xs sep w hcells hbk hN hcap hlen
def Tryz.lays210_ren : Go.Shelf.Ren:=⟨fun|210=>192|206=>68|n=>n,fun|9=>9|4=>4|3=>3|n=>n,fun|n=>n⟩
def Tryz.lays103_ren : Go.Shelf.Ren:=⟨fun|103=>135|210=>192|206=>68|n=>n,fun|9=>9|4=>4|24=>198|3=>3|n=>n,fun|n=>n⟩
theorem Tryz.lays103 : Go.Proofs.Lays.n103 Tryz.prog Tryz.lays103_ren:={
  mixed:=by kernel_rfl
  f103:=Tryz.func135.trans (congrArg some (by kernel_rfl))
  f206:=Tryz.func68.trans (congrArg some (by kernel_rfl))
  f210:=Tryz.func192.trans (congrArg some (by kernel_rfl))
  t3:=Tryz.underlying3
  a3:=Tryz.isAgg3
  z3:=Tryz.sizeOf3
  v3:=Tryz.zeroValue3
  t4:=Tryz.underlying4
  a4:=Tryz.isAgg4
  z4:=Tryz.sizeOf4
  v4:=Tryz.zeroValue4
  t9:=Tryz.underlying9
  a9:=Tryz.isAgg9
  z9:=Tryz.sizeOf9
  v9:=Tryz.zeroValue9
  t24:=Tryz.underlying198
  a24:=Tryz.isAgg198
  z24:=Tryz.sizeOf198
  v24:=Tryz.zeroValue198 }
open Go.RowKit in
theorem Tryz.strings_CutPrefix (s p : ByteArray) (w : World) :
    Calls Tryz.prog 135 #[.string s,.string p] w fun e w'=>e = .returned (.tuple #[.string ⟨(Lib.trimPrefix s.data.toList p.data.toList).toArray⟩,.bool (Lib.hasPrefix s.data.toList p.data.toList)])∧w'=w:=Any.strings_CutPrefix Tryz.lays103 s p w
def Tryz.lays104_ren : Go.Shelf.Ren:=⟨fun|104=>231|211=>260|207=>78|n=>n,fun|9=>9|4=>4|24=>198|3=>3|n=>n,fun|n=>n⟩
theorem Tryz.lays104 : Go.Proofs.Lays.n104 Tryz.prog Tryz.lays104_ren:={
  mixed:=by kernel_rfl
  f104:=Tryz.func231.trans (congrArg some (by kernel_rfl))
  f207:=Tryz.func78.trans (congrArg some (by kernel_rfl))
  f211:=Tryz.func260.trans (congrArg some (by kernel_rfl))
  t3:=Tryz.underlying3
  a3:=Tryz.isAgg3
  z3:=Tryz.sizeOf3
  v3:=Tryz.zeroValue3
  t4:=Tryz.underlying4
  a4:=Tryz.isAgg4
  z4:=Tryz.sizeOf4
  v4:=Tryz.zeroValue4
  t9:=Tryz.underlying9
  a9:=Tryz.isAgg9
  z9:=Tryz.sizeOf9
  v9:=Tryz.zeroValue9
  t24:=Tryz.underlying198
  a24:=Tryz.isAgg198
  z24:=Tryz.sizeOf198
  v24:=Tryz.zeroValue198 }
open Go.RowKit in
theorem Tryz.strings_CutSuffix (s p : ByteArray) (w : World) (hs : s.size≤9223372036854775807) :
    Calls Tryz.prog 231 #[.string s,.string p] w fun e w'=>e = .returned (.tuple #[.string ⟨(Lib.trimSuffix s.data.toList p.data.toList).toArray⟩,.bool (Lib.hasSuffix s.data.toList p.data.toList)])∧w'=w:=Any.strings_CutSuffix Tryz.lays104 s p w hs
open Go.RowKit in
theorem Tryz.Builder_String_any_f (B b : Nat) (l : List UInt8) (w : World) (h : Lib.IsBuilderF 81 5 B b (Lib.byteCells l) w) (hBw : B≤w.heap.size) :
    Calls Tryz.prog 40 #[.pointer (some ⟨b,0,none⟩)] w fun e w'=>e = .returned (.string ⟨l.toArray⟩)∧(Lib.IsBuilderF 81 5 B b (Lib.byteCells l) w'∧Below B w w'):=Any.Builder_String_any_f Tryz.lays169 Tryz.Builder_Extra_169 B b l w h hBw
def Tryz.lays172_ren : Go.Shelf.Ren:=⟨fun|172=>185|244=>229|245=>230|247=>255|279=>256|280=>257|281=>258|282=>259|287=>272|316=>206|171=>84|205=>273|321=>277|322=>278|243=>133|246=>189|283=>233|284=>234|285=>235|286=>236|129=>264|317=>263|318=>265|319=>266|320=>267|337=>275|338=>276|n=>n,fun|9=>9|3=>3|75=>83|76=>84|4=>4|5=>5|167=>327|37=>79|0=>0|85=>328|2=>2|168=>330|53=>223|175=>339|46=>258|210=>342|127=>143|145=>348|143=>346|21=>21|171=>304|173=>306|212=>334|51=>268|20=>20|213=>335|232=>349|233=>350|80=>88|n=>n,fun|15=>5|16=>6|17=>4|18=>7|19=>8|n=>n⟩
def Tryz.laysM246_ren : Go.Shelf.Ren:=⟨fun|246=>189|283=>233|284=>234|285=>235|286=>236|129=>264|317=>263|318=>265|319=>266|320=>267|337=>275|338=>276|n=>n,fun|2=>2|3=>3|9=>9|4=>4|171=>304|0=>0|53=>223|37=>79|5=>5|173=>306|212=>334|51=>268|20=>20|213=>335|46=>258|232=>349|233=>350|n=>n,fun|17=>4|18=>7|19=>8|n=>n⟩
def Tryz.laysM243_ren : Go.Shelf.Ren:=⟨fun|243=>133|246=>189|283=>233|284=>234|285=>235|286=>236|129=>264|317=>263|318=>265|319=>266|320=>267|337=>275|338=>276|n=>n,fun|3=>3|9=>9|2=>2|4=>4|171=>304|0=>0|53=>223|37=>79|5=>5|173=>306|212=>334|51=>268|20=>20|213=>335|46=>258|232=>349|233=>350|n=>n,fun|17=>4|18=>7|19=>8|n=>n⟩
def Tryz.laysM171_ren : Go.Shelf.Ren:=⟨fun|171=>84|243=>133|246=>189|283=>233|284=>234|285=>235|286=>236|129=>264|317=>263|318=>265|319=>266|320=>267|337=>275|338=>276|n=>n,fun|3=>3|9=>9|2=>2|4=>4|171=>304|0=>0|53=>223|37=>79|5=>5|173=>306|212=>334|51=>268|20=>20|213=>335|46=>258|232=>349|233=>350|n=>n,fun|17=>4|18=>7|19=>8|n=>n⟩
theorem Tryz.laysM171 : Go.Proofs.LaysM.n171 Tryz.prog Tryz.laysM171_ren:={
  mixed:=by kernel_rfl
  f129:=Tryz.func264.trans (congrArg some (by kernel_rfl))
  f171:=Tryz.func84.trans (congrArg some (by kernel_rfl))
  f243:=Tryz.func133.trans (congrArg some (by kernel_rfl))
  f246:=Tryz.func189.trans (congrArg some (by kernel_rfl))
  f283:=Tryz.func233.trans (congrArg some (by kernel_rfl))
  f284:=Tryz.func234.trans (congrArg some (by kernel_rfl))
  f285:=Tryz.func235.trans (congrArg some (by kernel_rfl))
  f286:=Tryz.func236.trans (congrArg some (by kernel_rfl))
  f317:=Tryz.func263.trans (congrArg some (by kernel_rfl))
  f318:=Tryz.func265.trans (congrArg some (by kernel_rfl))
  f319:=Tryz.func266.trans (congrArg some (by kernel_rfl))
  f320:=Tryz.func267.trans (congrArg some (by kernel_rfl))
  f337:=Tryz.func275.trans (congrArg some (by kernel_rfl))
  f338:=Tryz.func276.trans (congrArg some (by kernel_rfl))
  t0:=Tryz.underlying0
  a0:=Tryz.isAgg0
  z0:=Tryz.sizeOf0
  v0:=Tryz.zeroValue0
  t2:=Tryz.underlying2
  a2:=Tryz.isAgg2
  z2:=Tryz.sizeOf2
  v2:=Tryz.zeroValue2
  t3:=Tryz.underlying3
  a3:=Tryz.isAgg3
  z3:=Tryz.sizeOf3
  v3:=Tryz.zeroValue3
  t4:=Tryz.underlying4
  a4:=Tryz.isAgg4
  z4:=Tryz.sizeOf4
  v4:=Tryz.zeroValue4
  t5:=Tryz.underlying5
  a5:=Tryz.isAgg5
  z5:=Tryz.sizeOf5
  v5:=Tryz.zeroValue5
  t9:=Tryz.underlying9
  a9:=Tryz.isAgg9
  z9:=Tryz.sizeOf9
  v9:=Tryz.zeroValue9
  t20:=Tryz.underlying20
  a20:=Tryz.isAgg20
  z20:=Tryz.sizeOf20
  v20:=Tryz.zeroValue20
  t37:=Tryz.underlying79
  a37:=Tryz.isAgg79
  z37:=Tryz.sizeOf79
  v37:=Tryz.zeroValue79
  t46:=Tryz.underlying258
  a46:=Tryz.isAgg258
  z46:=Tryz.sizeOf258
  v46:=Tryz.zeroValue258
  t51:=Tryz.underlying268
  a51:=Tryz.isAgg268
  z51:=Tryz.sizeOf268
  v51:=Tryz.zeroValue268
  t53:=Tryz.underlying223
  a53:=Tryz.isAgg223
  z53:=Tryz.sizeOf223
  v53:=Tryz.zeroValue223
  t171:=Tryz.underlying304
  a171:=Tryz.isAgg304
  z171:=Tryz.sizeOf304
  v171:=Tryz.zeroValue304
  t173:=Tryz.underlying306
  a173:=Tryz.isAgg306
  z173:=Tryz.sizeOf306
  v173:=Tryz.zeroValue306
  t212:=Tryz.underlying334
  a212:=Tryz.isAgg334
  z212:=Tryz.sizeOf334
  v212:=Tryz.zeroValue334
  t213:=Tryz.underlying335
  a213:=Tryz.isAgg335
  z213:=Tryz.sizeOf335
  t232:=Tryz.underlying349
  a232:=Tryz.isAgg349
  z232:=Tryz.sizeOf349
  v232:=Tryz.zeroValue349
  t233:=Tryz.underlying350
  a233:=Tryz.isAgg350
  z233:=Tryz.sizeOf350
  v233:=Tryz.zeroValue350
  g17:=by kernel_rfl
  g18:=by kernel_rfl
  g19:=by kernel_rfl
  i0:=by kernel_rfl
  i2:=by kernel_rfl
  i3:=by kernel_rfl
  i4:=by kernel_rfl
  i5:=by kernel_rfl
  i9:=by kernel_rfl
  i20:=by kernel_rfl
  i37:=by kernel_rfl
  i46:=by kernel_rfl
  i51:=by kernel_rfl
  i53:=by kernel_rfl
  i171:=by kernel_rfl
  i173:=by kernel_rfl
  i212:=by kernel_rfl
  i232:=by kernel_rfl
  i233:=by kernel_rfl
  m17:=by kernel_rfl
  m18:=by kernel_rfl
  m19:=by kernel_rfl }
open Go.RowKit Go.Sort Go.Lib in
theorem Tryz.strconv_Itoa (n : Int) (h0 : -9223372036854775808≤n) (h1 : n≤9223372036854775807) (w : World) (htab : Lib.TabIs Tryz.prog w "internal/strconv.uint64pow10" .u64 Lib.pow10Tab) :
    Calls Tryz.prog 84 #[.int .i64 n] w fun e w'=>e = .returned (.string ⟨(Lib.itoa n).toArray⟩)∧∃ k os,w'=grow (w.drewN k) os:=Any.strconv_Itoa Tryz.laysM171 n h0 h1 w htab
def Tryz.laysM316_ren : Go.Shelf.Ren:=⟨fun|316=>206|n=>n,fun|9=>9|3=>3|4=>4|37=>79|0=>0|127=>143|5=>5|n=>n,fun|n=>n⟩
theorem Tryz.laysM316 : Go.Proofs.LaysM.n316 Tryz.prog Tryz.laysM316_ren:={
  mixed:=by kernel_rfl
  f316:=Tryz.func206.trans (congrArg some (by kernel_rfl))
  t0:=Tryz.underlying0
  a0:=Tryz.isAgg0
  z0:=Tryz.sizeOf0
  v0:=Tryz.zeroValue0
  t3:=Tryz.underlying3
  a3:=Tryz.isAgg3
  z3:=Tryz.sizeOf3
  v3:=Tryz.zeroValue3
  t4:=Tryz.underlying4
  a4:=Tryz.isAgg4
  z4:=Tryz.sizeOf4
  v4:=Tryz.zeroValue4
  t9:=Tryz.underlying9
  a9:=Tryz.isAgg9
  z9:=Tryz.sizeOf9
  v9:=Tryz.zeroValue9
  t37:=Tryz.underlying79
  a37:=Tryz.isAgg79
  z37:=Tryz.sizeOf79
  v37:=Tryz.zeroValue79
  t127:=Tryz.underlying143
  a127:=Tryz.isAgg143
  z127:=Tryz.sizeOf143
  v127:=Tryz.zeroValue143
  t5:=Tryz.underlying5
  a5:=Tryz.isAgg5
  z5:=Tryz.sizeOf5
  v5:=Tryz.zeroValue5
  i0:=by kernel_rfl
  i3:=by kernel_rfl
  i4:=by kernel_rfl
  i5:=by kernel_rfl
  i9:=by kernel_rfl
  i37:=by kernel_rfl
  i127:=by kernel_rfl }
open Go.RowKit in
theorem Tryz.stringslite_Clone (s : ByteArray) (w : World) (hlim : s.size≤281474976710656) :
    Calls Tryz.prog 206 #[.string s] w fun e w'=>e = .returned (.string s)∧Below w.heap.size w w':=Any.stringslite_Clone Tryz.laysM316 s w hlim
def Tryz.laysC245_ren : Go.Shelf.Ren:=⟨fun|245=>230|279=>256|280=>257|281=>258|282=>259|316=>206|171=>84|205=>273|243=>133|246=>189|283=>233|284=>234|285=>235|286=>236|129=>264|317=>263|318=>265|319=>266|320=>267|337=>275|338=>276|n=>n,fun|9=>9|3=>3|75=>83|167=>327|4=>4|168=>330|210=>342|37=>79|0=>0|127=>143|145=>348|143=>346|2=>2|171=>304|53=>223|5=>5|173=>306|212=>334|51=>268|20=>20|213=>335|46=>258|232=>349|233=>350|80=>88|n=>n,fun|15=>5|16=>6|17=>4|18=>7|19=>8|n=>n⟩
theorem Tryz.laysC245 : Go.Proofs.LaysC.n245 Tryz.prog Tryz.laysC245_ren:={
  mixed:=by kernel_rfl
  f129:=Tryz.func264.trans (congrArg some (by kernel_rfl))
  f171:=Tryz.func84.trans (congrArg some (by kernel_rfl))
  f205:=Tryz.func273.trans (congrArg some (by kernel_rfl))
  f243:=Tryz.func133.trans (congrArg some (by kernel_rfl))
  f245:=Tryz.func230.trans (congrArg some (by kernel_rfl))
  f246:=Tryz.func189.trans (congrArg some (by kernel_rfl))
  f279:=Tryz.func256.trans (congrArg some (by kernel_rfl))
  f280:=Tryz.func257.trans (congrArg some (by kernel_rfl))
  f281:=Tryz.func258.trans (congrArg some (by kernel_rfl))
  f282:=Tryz.func259.trans (congrArg some (by kernel_rfl))
  f283:=Tryz.func233.trans (congrArg some (by kernel_rfl))
  f284:=Tryz.func234.trans (congrArg some (by kernel_rfl))
  f285:=Tryz.func235.trans (congrArg some (by kernel_rfl))
  f286:=Tryz.func236.trans (congrArg some (by kernel_rfl))
  f316:=Tryz.func206.trans (congrArg some (by kernel_rfl))
  f317:=Tryz.func263.trans (congrArg some (by kernel_rfl))
  f318:=Tryz.func265.trans (congrArg some (by kernel_rfl))
  f319:=Tryz.func266.trans (congrArg some (by kernel_rfl))
  f320:=Tryz.func267.trans (congrArg some (by kernel_rfl))
  f337:=Tryz.func275.trans (congrArg some (by kernel_rfl))
  f338:=Tryz.func276.trans (congrArg some (by kernel_rfl))
  t0:=Tryz.underlying0
  a0:=Tryz.isAgg0
  z0:=Tryz.sizeOf0
  v0:=Tryz.zeroValue0
  t2:=Tryz.underlying2
  a2:=Tryz.isAgg2
  z2:=Tryz.sizeOf2
  v2:=Tryz.zeroValue2
  t3:=Tryz.underlying3
  a3:=Tryz.isAgg3
  z3:=Tryz.sizeOf3
  v3:=Tryz.zeroValue3
  t4:=Tryz.underlying4
  a4:=Tryz.isAgg4
  z4:=Tryz.sizeOf4
  v4:=Tryz.zeroValue4
  t5:=Tryz.underlying5
  a5:=Tryz.isAgg5
  z5:=Tryz.sizeOf5
  v5:=Tryz.zeroValue5
  t9:=Tryz.underlying9
  a9:=Tryz.isAgg9
  z9:=Tryz.sizeOf9
  v9:=Tryz.zeroValue9
  t20:=Tryz.underlying20
  a20:=Tryz.isAgg20
  z20:=Tryz.sizeOf20
  v20:=Tryz.zeroValue20
  t37:=Tryz.underlying79
  a37:=Tryz.isAgg79
  z37:=Tryz.sizeOf79
  v37:=Tryz.zeroValue79
  t46:=Tryz.underlying258
  a46:=Tryz.isAgg258
  z46:=Tryz.sizeOf258
  v46:=Tryz.zeroValue258
  t51:=Tryz.underlying268
  a51:=Tryz.isAgg268
  z51:=Tryz.sizeOf268
  v51:=Tryz.zeroValue268
  t53:=Tryz.underlying223
  a53:=Tryz.isAgg223
  z53:=Tryz.sizeOf223
  v53:=Tryz.zeroValue223
  t75:=Tryz.underlying83
  a75:=Tryz.isAgg83
  z75:=Tryz.sizeOf83
  v75:=Tryz.zeroValue83
  t127:=Tryz.underlying143
  a127:=Tryz.isAgg143
  z127:=Tryz.sizeOf143
  v127:=Tryz.zeroValue143
  t143:=Tryz.underlying346
  a143:=Tryz.isAgg346
  z143:=Tryz.sizeOf346
  v143:=Tryz.zeroValue346
  t145:=Tryz.underlying348
  a145:=Tryz.isAgg348
  z145:=Tryz.sizeOf348
  v145:=Tryz.zeroValue348
  t167:=Tryz.underlying327
  a167:=Tryz.isAgg327
  z167:=Tryz.sizeOf327
  v167:=Tryz.zeroValue327
  t168:=Tryz.underlying330
  a168:=Tryz.isAgg330
  z168:=Tryz.sizeOf330
  v168:=Tryz.zeroValue330
  t171:=Tryz.underlying304
  a171:=Tryz.isAgg304
  z171:=Tryz.sizeOf304
  v171:=Tryz.zeroValue304
  t173:=Tryz.underlying306
  a173:=Tryz.isAgg306
  z173:=Tryz.sizeOf306
  v173:=Tryz.zeroValue306
  t210:=Tryz.underlying342
  a210:=Tryz.isAgg342
  z210:=Tryz.sizeOf342
  v210:=Tryz.zeroValue342
  t212:=Tryz.underlying334
  a212:=Tryz.isAgg334
  z212:=Tryz.sizeOf334
  v212:=Tryz.zeroValue334
  t213:=Tryz.underlying335
  a213:=Tryz.isAgg335
  z213:=Tryz.sizeOf335
  t232:=Tryz.underlying349
  a232:=Tryz.isAgg349
  z232:=Tryz.sizeOf349
  v232:=Tryz.zeroValue349
  t233:=Tryz.underlying350
  a233:=Tryz.isAgg350
  z233:=Tryz.sizeOf350
  v233:=Tryz.zeroValue350
  g15:=by kernel_rfl
  g16:=by kernel_rfl
  g17:=by kernel_rfl
  g18:=by kernel_rfl
  g19:=by kernel_rfl
  t80:=Tryz.underlying88
  a80:=Tryz.isAgg88
  z80:=Tryz.sizeOf88
  v80:=Tryz.zeroValue88
  i0:=by kernel_rfl
  i2:=by kernel_rfl
  i3:=by kernel_rfl
  i4:=by kernel_rfl
  i5:=by kernel_rfl
  i9:=by kernel_rfl
  i20:=by kernel_rfl
  i37:=by kernel_rfl
  i46:=by kernel_rfl
  i51:=by kernel_rfl
  i53:=by kernel_rfl
  i75:=by kernel_rfl
  i80:=by kernel_rfl
  i127:=by kernel_rfl
  i143:=by kernel_rfl
  i145:=by kernel_rfl
  i167:=by kernel_rfl
  i168:=by kernel_rfl
  i171:=by kernel_rfl
  i173:=by kernel_rfl
  i210:=by kernel_rfl
  i212:=by kernel_rfl
  i232:=by kernel_rfl
  i233:=by kernel_rfl
  m15:=by kernel_rfl
  m16:=by kernel_rfl
  m17:=by kernel_rfl
  m18:=by kernel_rfl
  m19:=by kernel_rfl
  c0:=by kernel_rfl
  c2:=by kernel_rfl
  c3:=by kernel_rfl
  c4:=by kernel_rfl
  c5:=by kernel_rfl
  c9:=by kernel_rfl
  c20:=by kernel_rfl
  c37:=by kernel_rfl
  c46:=by kernel_rfl
  c51:=by kernel_rfl
  c53:=by kernel_rfl
  c75:=by kernel_rfl
  c80:=by kernel_rfl
  c127:=by kernel_rfl
  c143:=by kernel_rfl
  c145:=by kernel_rfl
  c167:=by kernel_rfl
  c168:=by kernel_rfl
  c171:=by kernel_rfl
  c173:=by kernel_rfl
  c210:=by kernel_rfl
  c212:=by kernel_rfl
  c213:=by kernel_rfl
  c232:=by kernel_rfl
  c233:=by kernel_rfl }
open Go.RowKit in
theorem Tryz.strconv_toError_syntax (fn s : ByteArray) (base bits : Int) (ev : Value) (w : World) (hlim : s.size≤281474976710656) (hv : w.cell? ⟨5,0,none⟩=some ev) (hev : ev = .nilIface∨∃ te pe,ev = .iface te pe) :
    Calls Tryz.prog 230 #[.string fn,.string s,.int .i64 base,.int .i64 bits,.iface 327 (.int .i64 2)] w fun e w'=>∃ N,e = .returned (.iface 330 (.pointer (some ⟨N,0,none⟩)))∧w.heap.size≤N∧w'.heap[N]? = some (.cells #[.string fn,.string s,ev] 342 (0,0))∧Below w.heap.size w w':=Any.strconv_toError_syntax Tryz.laysC245 fn s base bits ev w hlim hv hev
open Go.RowKit in
theorem Tryz.strconv_toError_range (fn s : ByteArray) (base bits : Int) (ev : Value) (w : World) (hlim : s.size≤281474976710656) (hv : w.cell? ⟨6,0,none⟩=some ev) (hev : ev = .nilIface∨∃ te pe,ev = .iface te pe) :
    Calls Tryz.prog 230 #[.string fn,.string s,.int .i64 base,.int .i64 bits,.iface 327 (.int .i64 1)] w fun e w'=>∃ N,e = .returned (.iface 330 (.pointer (some ⟨N,0,none⟩)))∧w.heap.size≤N∧w'.heap[N]? = some (.cells #[.string fn,.string s,ev] 342 (0,0))∧Below w.heap.size w w':=Any.strconv_toError_range Tryz.laysC245 fn s base bits ev w hlim hv hev
def Tryz.laysC172_ren : Go.Shelf.Ren:=⟨fun|172=>185|244=>229|245=>230|247=>255|279=>256|280=>257|281=>258|282=>259|287=>272|316=>206|171=>84|205=>273|321=>277|322=>278|243=>133|246=>189|283=>233|284=>234|285=>235|286=>236|129=>264|317=>263|318=>265|319=>266|320=>267|337=>275|338=>276|n=>n,fun|9=>9|3=>3|75=>83|76=>84|4=>4|5=>5|167=>327|37=>79|0=>0|85=>328|2=>2|168=>330|53=>223|175=>339|46=>258|210=>342|127=>143|145=>348|143=>346|21=>21|171=>304|173=>306|212=>334|51=>268|20=>20|213=>335|232=>349|233=>350|80=>88|n=>n,fun|15=>5|16=>6|17=>4|18=>7|19=>8|n=>n⟩
theorem Tryz.laysC172 : Go.Proofs.LaysC.n172 Tryz.prog Tryz.laysC172_ren:={
  mixed:=by kernel_rfl
  f129:=Tryz.func264.trans (congrArg some (by kernel_rfl))
  f171:=Tryz.func84.trans (congrArg some (by kernel_rfl))
  f172:=Tryz.func185.trans (congrArg some (by kernel_rfl))
  f205:=Tryz.func273.trans (congrArg some (by kernel_rfl))
  f243:=Tryz.func133.trans (congrArg some (by kernel_rfl))
  f244:=Tryz.func229.trans (congrArg some (by kernel_rfl))
  f245:=Tryz.func230.trans (congrArg some (by kernel_rfl))
  f246:=Tryz.func189.trans (congrArg some (by kernel_rfl))
  f247:=Tryz.func255.trans (congrArg some (by kernel_rfl))
  f279:=Tryz.func256.trans (congrArg some (by kernel_rfl))
  f280:=Tryz.func257.trans (congrArg some (by kernel_rfl))
  f281:=Tryz.func258.trans (congrArg some (by kernel_rfl))
  f282:=Tryz.func259.trans (congrArg some (by kernel_rfl))
  f283:=Tryz.func233.trans (congrArg some (by kernel_rfl))
  f284:=Tryz.func234.trans (congrArg some (by kernel_rfl))
  f285:=Tryz.func235.trans (congrArg some (by kernel_rfl))
  f286:=Tryz.func236.trans (congrArg some (by kernel_rfl))
  f287:=Tryz.func272.trans (congrArg some (by kernel_rfl))
  f316:=Tryz.func206.trans (congrArg some (by kernel_rfl))
  f317:=Tryz.func263.trans (congrArg some (by kernel_rfl))
  f318:=Tryz.func265.trans (congrArg some (by kernel_rfl))
  f319:=Tryz.func266.trans (congrArg some (by kernel_rfl))
  f320:=Tryz.func267.trans (congrArg some (by kernel_rfl))
  f321:=Tryz.func277.trans (congrArg some (by kernel_rfl))
  f322:=Tryz.func278.trans (congrArg some (by kernel_rfl))
  f337:=Tryz.func275.trans (congrArg some (by kernel_rfl))
  f338:=Tryz.func276.trans (congrArg some (by kernel_rfl))
  t0:=Tryz.underlying0
  a0:=Tryz.isAgg0
  z0:=Tryz.sizeOf0
  v0:=Tryz.zeroValue0
  t2:=Tryz.underlying2
  a2:=Tryz.isAgg2
  z2:=Tryz.sizeOf2
  v2:=Tryz.zeroValue2
  t3:=Tryz.underlying3
  a3:=Tryz.isAgg3
  z3:=Tryz.sizeOf3
  v3:=Tryz.zeroValue3
  t4:=Tryz.underlying4
  a4:=Tryz.isAgg4
  z4:=Tryz.sizeOf4
  v4:=Tryz.zeroValue4
  t5:=Tryz.underlying5
  a5:=Tryz.isAgg5
  z5:=Tryz.sizeOf5
  v5:=Tryz.zeroValue5
  t9:=Tryz.underlying9
  a9:=Tryz.isAgg9
  z9:=Tryz.sizeOf9
  v9:=Tryz.zeroValue9
  t20:=Tryz.underlying20
  a20:=Tryz.isAgg20
  z20:=Tryz.sizeOf20
  v20:=Tryz.zeroValue20
  t21:=Tryz.underlying21
  a21:=Tryz.isAgg21
  z21:=Tryz.sizeOf21
  v21:=Tryz.zeroValue21
  t37:=Tryz.underlying79
  a37:=Tryz.isAgg79
  z37:=Tryz.sizeOf79
  v37:=Tryz.zeroValue79
  t46:=Tryz.underlying258
  a46:=Tryz.isAgg258
  z46:=Tryz.sizeOf258
  v46:=Tryz.zeroValue258
  t51:=Tryz.underlying268
  a51:=Tryz.isAgg268
  z51:=Tryz.sizeOf268
  v51:=Tryz.zeroValue268
  t53:=Tryz.underlying223
  a53:=Tryz.isAgg223
  z53:=Tryz.sizeOf223
  v53:=Tryz.zeroValue223
  t75:=Tryz.underlying83
  a75:=Tryz.isAgg83
  z75:=Tryz.sizeOf83
  v75:=Tryz.zeroValue83
  t76:=Tryz.underlying84
  a76:=Tryz.isAgg84
  z76:=Tryz.sizeOf84
  v76:=Tryz.zeroValue84
  t85:=Tryz.underlying328
  a85:=Tryz.isAgg328
  z85:=Tryz.sizeOf328
  v85:=Tryz.zeroValue328
  t127:=Tryz.underlying143
  a127:=Tryz.isAgg143
  z127:=Tryz.sizeOf143
  v127:=Tryz.zeroValue143
  t143:=Tryz.underlying346
  a143:=Tryz.isAgg346
  z143:=Tryz.sizeOf346
  v143:=Tryz.zeroValue346
  t145:=Tryz.underlying348
  a145:=Tryz.isAgg348
  z145:=Tryz.sizeOf348
  v145:=Tryz.zeroValue348
  t167:=Tryz.underlying327
  a167:=Tryz.isAgg327
  z167:=Tryz.sizeOf327
  v167:=Tryz.zeroValue327
  t168:=Tryz.underlying330
  a168:=Tryz.isAgg330
  z168:=Tryz.sizeOf330
  v168:=Tryz.zeroValue330
  t171:=Tryz.underlying304
  a171:=Tryz.isAgg304
  z171:=Tryz.sizeOf304
  v171:=Tryz.zeroValue304
  t173:=Tryz.underlying306
  a173:=Tryz.isAgg306
  z173:=Tryz.sizeOf306
  v173:=Tryz.zeroValue306
  t175:=Tryz.underlying339
  a175:=Tryz.isAgg339
  z175:=Tryz.sizeOf339
  v175:=Tryz.zeroValue339
  t210:=Tryz.underlying342
  a210:=Tryz.isAgg342
  z210:=Tryz.sizeOf342
  v210:=Tryz.zeroValue342
  t212:=Tryz.underlying334
  a212:=Tryz.isAgg334
  z212:=Tryz.sizeOf334
  v212:=Tryz.zeroValue334
  t213:=Tryz.underlying335
  a213:=Tryz.isAgg335
  z213:=Tryz.sizeOf335
  t232:=Tryz.underlying349
  a232:=Tryz.isAgg349
  z232:=Tryz.sizeOf349
  v232:=Tryz.zeroValue349
  t233:=Tryz.underlying350
  a233:=Tryz.isAgg350
  z233:=Tryz.sizeOf350
  v233:=Tryz.zeroValue350
  g15:=by kernel_rfl
  g16:=by kernel_rfl
  g17:=by kernel_rfl
  g18:=by kernel_rfl
  g19:=by kernel_rfl
  t80:=Tryz.underlying88
  a80:=Tryz.isAgg88
  z80:=Tryz.sizeOf88
  v80:=Tryz.zeroValue88
  i0:=by kernel_rfl
  i2:=by kernel_rfl
  i3:=by kernel_rfl
  i4:=by kernel_rfl
  i5:=by kernel_rfl
  i9:=by kernel_rfl
  i20:=by kernel_rfl
  i21:=by kernel_rfl
  i37:=by kernel_rfl
  i46:=by kernel_rfl
  i51:=by kernel_rfl
  i53:=by kernel_rfl
  i75:=by kernel_rfl
  i76:=by kernel_rfl
  i80:=by kernel_rfl
  i85:=by kernel_rfl
  i127:=by kernel_rfl
  i143:=by kernel_rfl
  i145:=by kernel_rfl
  i167:=by kernel_rfl
  i168:=by kernel_rfl
  i171:=by kernel_rfl
  i173:=by kernel_rfl
  i175:=by kernel_rfl
  i210:=by kernel_rfl
  i212:=by kernel_rfl
  i232:=by kernel_rfl
  i233:=by kernel_rfl
  m15:=by kernel_rfl
  m16:=by kernel_rfl
  m17:=by kernel_rfl
  m18:=by kernel_rfl
  m19:=by kernel_rfl
  c0:=by kernel_rfl
  c2:=by kernel_rfl
  c3:=by kernel_rfl
  c4:=by kernel_rfl
  c5:=by kernel_rfl
  c9:=by kernel_rfl
  c20:=by kernel_rfl
  c21:=by kernel_rfl
  c37:=by kernel_rfl
  c46:=by kernel_rfl
  c51:=by kernel_rfl
  c53:=by kernel_rfl
  c75:=by kernel_rfl
  c76:=by kernel_rfl
  c80:=by kernel_rfl
  c85:=by kernel_rfl
  c127:=by kernel_rfl
  c143:=by kernel_rfl
  c145:=by kernel_rfl
  c167:=by kernel_rfl
  c168:=by kernel_rfl
  c171:=by kernel_rfl
  c173:=by kernel_rfl
  c175:=by kernel_rfl
  c210:=by kernel_rfl
  c212:=by kernel_rfl
  c213:=by kernel_rfl
  c232:=by kernel_rfl
  c233:=by kernel_rfl }
open Go.RowKit in
theorem Tryz.strconv_Atoi_ok (s : ByteArray) (hmax : s.size≤9223372036854775806) (v : Int) (h : Lib.atoiAll s.data.toList = .ok v) (w : World) :
    Calls Tryz.prog 185 #[.string s] w fun e w'=>e = .returned (.tuple #[.int .i64 v,.nilIface])∧(w'=w∨∃ t,w'=Lib.bytesWorld w 5 t):=Any.strconv_Atoi_ok Tryz.laysC172 s hmax v h w
open Go.RowKit in
open Go.RowKit in
theorem Tryz.strconv_Atoi_range (s : ByteArray) (hlim : s.size≤281474976710656) (h : Lib.atoiAll s.data.toList = .range) (ev : Value) (w : World) (hv : w.cell? ⟨6,0,none⟩=some ev) (hev : ev = .nilIface∨∃ te pe,ev = .iface te pe) :
    Calls Tryz.prog 185 #[.string s] w fun e w'=>∃ N,e = .returned (.tuple #[.int .i64 (Lib.atoiSat s.data.toList),.iface 330 (.pointer (some ⟨N,0,none⟩))])∧w.heap.size≤N∧w'.heap[N]? = some (.cells #[.string ⟨#[65,116,111,105]⟩,.string s,ev] 342 (0,0))∧Below w.heap.size w w':=Any.strconv_Atoi_range Tryz.laysC172 s hlim h ev w hv hev
def Tryz.lays219_ren : Go.Shelf.Ren:=⟨fun|219=>124|217=>181|225=>182|224=>183|267=>184|266=>227|314=>228|n=>n,fun|9=>9|3=>3|4=>4|5=>5|46=>258|146=>299|51=>268|n=>n,fun|1=>0|n=>n⟩
theorem Tryz.lays219 : Go.Proofs.Lays.n219 Tryz.prog Tryz.lays219_ren:={
  mixed:=by kernel_rfl
  f217:=Tryz.func181.trans (congrArg some (by kernel_rfl))
  f219:=Tryz.func124.trans (congrArg some (by kernel_rfl))
  f224:=Tryz.func183.trans (congrArg some (by kernel_rfl))
  f225:=Tryz.func182.trans (congrArg some (by kernel_rfl))
  f266:=Tryz.func227.trans (congrArg some (by kernel_rfl))
  f267:=Tryz.func184.trans (congrArg some (by kernel_rfl))
  f314:=Tryz.func228.trans (congrArg some (by kernel_rfl))
  t3:=Tryz.underlying3
  a3:=Tryz.isAgg3
  z3:=Tryz.sizeOf3
  v3:=Tryz.zeroValue3
  t4:=Tryz.underlying4
  a4:=Tryz.isAgg4
  z4:=Tryz.sizeOf4
  v4:=Tryz.zeroValue4
  t5:=Tryz.underlying5
  a5:=Tryz.isAgg5
  z5:=Tryz.sizeOf5
  v5:=Tryz.zeroValue5
  t9:=Tryz.underlying9
  a9:=Tryz.isAgg9
  z9:=Tryz.sizeOf9
  v9:=Tryz.zeroValue9
  t46:=Tryz.underlying258
  a46:=Tryz.isAgg258
  z46:=Tryz.sizeOf258
  v46:=Tryz.zeroValue258
  t51:=Tryz.underlying268
  a51:=Tryz.isAgg268
  z51:=Tryz.sizeOf268
  v51:=Tryz.zeroValue268
  t146:=Tryz.underlying299
  a146:=Tryz.isAgg299
  z146:=Tryz.sizeOf299
  v146:=Tryz.zeroValue299
  g1:=by kernel_rfl }
open Go.RowKit Go.Lib in
theorem Tryz.stringslite_Index_one (s : ByteArray) (c : UInt8) (w : World) :
    Calls Tryz.prog 124 #[.string s,.string ⟨#[c]⟩] w fun e w'=>e = .returned (.int .i64 (Lib.indexByte s.data.toList c))∧w'=w:=Any.stringslite_Index_one Tryz.lays219 s c w
def Tryz.lays143_ren : Go.Shelf.Ren:=⟨fun|143=>71|219=>124|217=>181|225=>182|224=>183|267=>184|266=>227|314=>228|n=>n,fun|9=>9|3=>3|4=>4|5=>5|46=>258|146=>299|51=>268|n=>n,fun|1=>0|n=>n⟩
def Tryz.lays145_ren : Go.Shelf.Ren:=⟨fun|145=>41|220=>85|219=>124|217=>181|225=>182|224=>183|267=>184|266=>227|314=>228|n=>n,fun|9=>9|4=>4|59=>91|3=>3|5=>5|46=>258|146=>299|51=>268|n=>n,fun|1=>0|n=>n⟩
theorem Tryz.lays145 : Go.Proofs.Lays.n145 Tryz.prog Tryz.lays145_ren:={
  mixed:=by kernel_rfl
  f145:=Tryz.func41.trans (congrArg some (by kernel_rfl))
  f217:=Tryz.func181.trans (congrArg some (by kernel_rfl))
  f219:=Tryz.func124.trans (congrArg some (by kernel_rfl))
  f220:=Tryz.func85.trans (congrArg some (by kernel_rfl))
  f224:=Tryz.func183.trans (congrArg some (by kernel_rfl))
  f225:=Tryz.func182.trans (congrArg some (by kernel_rfl))
  f266:=Tryz.func227.trans (congrArg some (by kernel_rfl))
  f267:=Tryz.func184.trans (congrArg some (by kernel_rfl))
  f314:=Tryz.func228.trans (congrArg some (by kernel_rfl))
  t3:=Tryz.underlying3
  a3:=Tryz.isAgg3
  z3:=Tryz.sizeOf3
  v3:=Tryz.zeroValue3
  t4:=Tryz.underlying4
  a4:=Tryz.isAgg4
  z4:=Tryz.sizeOf4
  v4:=Tryz.zeroValue4
  t5:=Tryz.underlying5
  a5:=Tryz.isAgg5
  z5:=Tryz.sizeOf5
  v5:=Tryz.zeroValue5
  t9:=Tryz.underlying9
  a9:=Tryz.isAgg9
  z9:=Tryz.sizeOf9
  v9:=Tryz.zeroValue9
  t46:=Tryz.underlying258
  a46:=Tryz.isAgg258
  z46:=Tryz.sizeOf258
  v46:=Tryz.zeroValue258
  t51:=Tryz.underlying268
  a51:=Tryz.isAgg268
  z51:=Tryz.sizeOf268
  v51:=Tryz.zeroValue268
  t59:=Tryz.underlying91
  a59:=Tryz.isAgg91
  z59:=Tryz.sizeOf91
  v59:=Tryz.zeroValue91
  t146:=Tryz.underlying299
  a146:=Tryz.isAgg299
  z146:=Tryz.sizeOf299
  v146:=Tryz.zeroValue299
  g1:=by kernel_rfl }
open Go.RowKit Go.Lib in
theorem Tryz.strings_Cut (s sep : ByteArray) (m : Int) (w : World) (hs : s.size<4294967281) (hm : w.cell? ⟨0,0,none⟩=some (.int .i64 m)) :
    Calls Tryz.prog 41 #[.string s,.string sep] w fun e w'=>e = .returned (.tuple #[.string ⟨(Lib.cut s.data.toList sep.data.toList).1.toArray⟩,.string ⟨(Lib.cut s.data.toList sep.data.toList).2.1.toArray⟩,.bool (Lib.cut s.data.toList sep.data.toList).2.2])∧∃ n,w'=w.drewN n:=Any.strings_Cut Tryz.lays145 s sep m w hs hm
def Tryz.laysM143_ren : Go.Shelf.Ren:=⟨fun|143=>71|219=>124|217=>181|225=>182|224=>183|267=>184|266=>227|314=>228|n=>n,fun|9=>9|3=>3|4=>4|5=>5|46=>258|146=>299|51=>268|n=>n,fun|1=>0|n=>n⟩
theorem Tryz.laysM143 : Go.Proofs.LaysM.n143 Tryz.prog Tryz.laysM143_ren:={
  mixed:=by kernel_rfl
  f143:=Tryz.func71.trans (congrArg some (by kernel_rfl))
  f217:=Tryz.func181.trans (congrArg some (by kernel_rfl))
  f219:=Tryz.func124.trans (congrArg some (by kernel_rfl))
  f224:=Tryz.func183.trans (congrArg some (by kernel_rfl))
  f225:=Tryz.func182.trans (congrArg some (by kernel_rfl))
  f266:=Tryz.func227.trans (congrArg some (by kernel_rfl))
  f267:=Tryz.func184.trans (congrArg some (by kernel_rfl))
  f314:=Tryz.func228.trans (congrArg some (by kernel_rfl))
  t3:=Tryz.underlying3
  a3:=Tryz.isAgg3
  z3:=Tryz.sizeOf3
  v3:=Tryz.zeroValue3
  t4:=Tryz.underlying4
  a4:=Tryz.isAgg4
  z4:=Tryz.sizeOf4
  v4:=Tryz.zeroValue4
  t5:=Tryz.underlying5
  a5:=Tryz.isAgg5
  z5:=Tryz.sizeOf5
  v5:=Tryz.zeroValue5
  t9:=Tryz.underlying9
  a9:=Tryz.isAgg9
  z9:=Tryz.sizeOf9
  v9:=Tryz.zeroValue9
  t46:=Tryz.underlying258
  a46:=Tryz.isAgg258
  z46:=Tryz.sizeOf258
  v46:=Tryz.zeroValue258
  t51:=Tryz.underlying268
  a51:=Tryz.isAgg268
  z51:=Tryz.sizeOf268
  v51:=Tryz.zeroValue268
  t146:=Tryz.underlying299
  a146:=Tryz.isAgg299
  z146:=Tryz.sizeOf299
  v146:=Tryz.zeroValue299
  g1:=by kernel_rfl
  i3:=by kernel_rfl
  i4:=by kernel_rfl
  i5:=by kernel_rfl
  i9:=by kernel_rfl
  i46:=by kernel_rfl
  i51:=by kernel_rfl
  i146:=by kernel_rfl
  m1:=by kernel_rfl
  s1_3:=fun w h=>Go.Proofs.cell_of_shapedOpen_int (zero:=#[.int .i64 0]) (t:=3) h (of_decide_eq_true (by kernel_rfl)) (by kernel_rfl) rfl (by kernel_rfl) (by kernel_rfl) Tryz.underlying3 }
def Tryz.lays99_ren : Go.Shelf.Ren:=⟨fun|99=>27|206=>68|n=>n,fun|9=>9|4=>4|3=>3|n=>n,fun|n=>n⟩
theorem Tryz.lays99 : Go.Proofs.Lays.n99 Tryz.prog Tryz.lays99_ren:={
  mixed:=by kernel_rfl
  f99:=Tryz.func27.trans (congrArg some (by kernel_rfl))
  f206:=Tryz.func68.trans (congrArg some (by kernel_rfl))
  t3:=Tryz.underlying3
  a3:=Tryz.isAgg3
  z3:=Tryz.sizeOf3
  v3:=Tryz.zeroValue3
  t4:=Tryz.underlying4
  a4:=Tryz.isAgg4
  z4:=Tryz.sizeOf4
  v4:=Tryz.zeroValue4
  t9:=Tryz.underlying9
  a9:=Tryz.isAgg9
  z9:=Tryz.sizeOf9
  v9:=Tryz.zeroValue9 }
open Go.RowKit Go.Lib in
theorem Tryz.strings_HasPrefix (s p : ByteArray) (w : World) :
    Calls Tryz.prog 27 #[.string s,.string p] w fun e w'=>e = .returned (.bool (Lib.hasPrefix s.data.toList p.data.toList))∧w'=w:=Any.strings_HasPrefix Tryz.lays99 s p w
def Tryz.lays221_ren : Go.Shelf.Ren:=⟨fun|221=>46|268=>93|138=>28|143=>71|195=>69|197=>138|218=>70|219=>124|260=>196|217=>181|225=>182|224=>183|267=>184|266=>227|314=>228|n=>n,fun|9=>9|3=>3|31=>25|4=>4|0=>0|105=>220|21=>21|5=>5|46=>258|119=>308|139=>311|138=>310|146=>299|51=>268|n=>n,fun|1=>0|3=>2|4=>3|n=>n⟩
def Tryz.lays147_ren : Go.Shelf.Ren:=⟨fun|147=>125|221=>46|268=>93|138=>28|143=>71|195=>69|197=>138|218=>70|219=>124|260=>196|217=>181|225=>182|224=>183|267=>184|266=>227|314=>228|n=>n,fun|9=>9|3=>3|31=>25|4=>4|0=>0|105=>220|21=>21|5=>5|46=>258|119=>308|139=>311|138=>310|146=>299|51=>268|n=>n,fun|1=>0|3=>2|4=>3|n=>n⟩
theorem Tryz.lays147 : Go.Proofs.Lays.n147 Tryz.prog Tryz.lays147_ren:={
  mixed:=by kernel_rfl
  f138:=Tryz.func28.trans (congrArg some (by kernel_rfl))
  f143:=Tryz.func71.trans (congrArg some (by kernel_rfl))
  f147:=Tryz.func125.trans (congrArg some (by kernel_rfl))
  f195:=Tryz.func69.trans (congrArg some (by kernel_rfl))
  f197:=Tryz.func138.trans (congrArg some (by kernel_rfl))
  f217:=Tryz.func181.trans (congrArg some (by kernel_rfl))
  f218:=Tryz.func70.trans (congrArg some (by kernel_rfl))
  f219:=Tryz.func124.trans (congrArg some (by kernel_rfl))
  f221:=Tryz.func46.trans (congrArg some (by kernel_rfl))
  f224:=Tryz.func183.trans (congrArg some (by kernel_rfl))
  f225:=Tryz.func182.trans (congrArg some (by kernel_rfl))
  f260:=Tryz.func196.trans (congrArg some (by kernel_rfl))
  f266:=Tryz.func227.trans (congrArg some (by kernel_rfl))
  f267:=Tryz.func184.trans (congrArg some (by kernel_rfl))
  f268:=Tryz.func93.trans (congrArg some (by kernel_rfl))
  f314:=Tryz.func228.trans (congrArg some (by kernel_rfl))
  t0:=Tryz.underlying0
  a0:=Tryz.isAgg0
  z0:=Tryz.sizeOf0
  v0:=Tryz.zeroValue0
  t3:=Tryz.underlying3
  a3:=Tryz.isAgg3
  z3:=Tryz.sizeOf3
  v3:=Tryz.zeroValue3
  t4:=Tryz.underlying4
  a4:=Tryz.isAgg4
  z4:=Tryz.sizeOf4
  v4:=Tryz.zeroValue4
  t5:=Tryz.underlying5
  a5:=Tryz.isAgg5
  z5:=Tryz.sizeOf5
  v5:=Tryz.zeroValue5
  t9:=Tryz.underlying9
  a9:=Tryz.isAgg9
  z9:=Tryz.sizeOf9
  v9:=Tryz.zeroValue9
  t21:=Tryz.underlying21
  a21:=Tryz.isAgg21
  z21:=Tryz.sizeOf21
  v21:=Tryz.zeroValue21
  t31:=Tryz.underlying25
  a31:=Tryz.isAgg25
  z31:=Tryz.sizeOf25
  v31:=Tryz.zeroValue25
  t46:=Tryz.underlying258
  a46:=Tryz.isAgg258
  z46:=Tryz.sizeOf258
  v46:=Tryz.zeroValue258
  t51:=Tryz.underlying268
  a51:=Tryz.isAgg268
  z51:=Tryz.sizeOf268
  v51:=Tryz.zeroValue268
  t105:=Tryz.underlying220
  a105:=Tryz.isAgg220
  z105:=Tryz.sizeOf220
  v105:=Tryz.zeroValue220
  t119:=Tryz.underlying308
  a119:=Tryz.isAgg308
  z119:=Tryz.sizeOf308
  t138:=Tryz.underlying310
  a138:=Tryz.isAgg310
  z138:=Tryz.sizeOf310
  v138:=Tryz.zeroValue310
  t139:=Tryz.underlying311
  a139:=Tryz.isAgg311
  z139:=Tryz.sizeOf311
  v139:=Tryz.zeroValue311
  t146:=Tryz.underlying299
  a146:=Tryz.isAgg299
  z146:=Tryz.sizeOf299
  v146:=Tryz.zeroValue299
  g1:=by kernel_rfl
  g3:=by kernel_rfl
  g4:=by kernel_rfl }
open Go.RowKit Go.Lib in
theorem Tryz.strings_SplitN (s sep : ByteArray) (n : Nat) (m : Int) (w : World) (hs : s.size<4294967281) (hm : w.cell? ⟨0,0,none⟩=some (.int .i64 m)) (h1 : 1≤sep.size) (hn : 1≤n) (hn63 : n≤9223372036854775807) :
    Calls Tryz.prog 125 #[.string s,.string sep,.int .i64 n] w fun e w' =>
      e = .returned (.slice (some ⟨w.heap.size,0,none⟩) (Lib.splitB sep 0 (min n (s.size+1) - 1) s).length (min n (s.size+1)))∧w'=w.alloc (.cells (Lib.cellsOf (Lib.splitB sep 0 (min n (s.size+1) - 1) s) (min n (s.size+1))) 9):=Any.strings_SplitN Tryz.lays147 (by kernel_rfl) s sep n m w hs hm h1 hn hn63
end Go.Proofs
