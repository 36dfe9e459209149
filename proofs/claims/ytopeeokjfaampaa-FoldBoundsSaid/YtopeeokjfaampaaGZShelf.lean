/- The library's contracts at this seat, as the kit's command lays them. -/
import Derived.Ground.SlsfProg
import Derived.Shelf.SlSortCmp.WholeK
import Derived.Shelf.Small.Bits
import Derived.Shelf.Small.Strs
import Derived.Shelf.Strconv.Itoa0
import Derived.Test.YtopeeokjfaampaaProg
namespace Go.Proofs
open Go.Shelf
def Try.lays125_ren:Go.Shelf.Ren:=⟨fun|125=>33|128=>46|129=>47|n=>n,fun|46=>46|3=>3|51=>88|53=>45|4=>4|5=>5|9=>9|n=>n,fun|n=>n⟩
theorem Try.lays125:Go.Proofs.Lays.n125 Try.prog Try.lays125_ren:={
 mixed:=by kernel_rfl
 f125:=Try.func33.trans (congrArg some (by kernel_rfl))
 f128:=Try.func46.trans (congrArg some (by kernel_rfl))
 f129:=Try.func47.trans (congrArg some (by kernel_rfl))
 t3:=Try.underlying3
 a3:=Try.isAgg3
 z3:=Try.sizeOf3
 v3:=Try.zeroValue3
 t4:=Try.underlying4
 a4:=Try.isAgg4
 z4:=Try.sizeOf4
 v4:=Try.zeroValue4
 t5:=Try.underlying5
 a5:=Try.isAgg5
 z5:=Try.sizeOf5
 v5:=Try.zeroValue5
 t9:=Try.underlying9
 a9:=Try.isAgg9
 z9:=Try.sizeOf9
 v9:=Try.zeroValue9
 t46:=Try.underlying46
 a46:=Try.isAgg46
 z46:=Try.sizeOf46
 v46:=Try.zeroValue46
 t51:=Try.underlying88
 a51:=Try.isAgg88
 z51:=Try.sizeOf88
 v51:=Try.zeroValue88
 t53:=Try.underlying45
 a53:=Try.isAgg45
 z53:=Try.sizeOf45
 v53:=Try.zeroValue45 }
theorem Try.bits_Len (x:Int)(w:World)(h0:0≤x)(h1:x≤18446744073709551615) :
  Calls Try.prog 33 #[.int .u64 x] w fun e w'=>e=.returned (.int .i64 (Lib.bitLen x.toNat))∧w'=w:=Any.bits_Len Try.lays125 x w h0 h1
def Try.lays213_ren:Go.Shelf.Ren:=⟨fun|213=>48|265=>54|n=>n,fun|9=>9|3=>3|n=>n,fun|n=>n⟩
def Try.lays106_ren:Go.Shelf.Ren:=⟨fun|106=>34|213=>48|265=>54|n=>n,fun|9=>9|3=>3|n=>n,fun|n=>n⟩
theorem Try.lays106:Go.Proofs.Lays.n106 Try.prog Try.lays106_ren:={
 mixed:=by kernel_rfl
 f106:=Try.func34.trans (congrArg some (by kernel_rfl))
 f213:=Try.func48.trans (congrArg some (by kernel_rfl))
 f265:=Try.func54.trans (congrArg some (by kernel_rfl))
 t3:=Try.underlying3
 a3:=Try.isAgg3
 z3:=Try.sizeOf3
 v3:=Try.zeroValue3
 t9:=Try.underlying9
 a9:=Try.isAgg9
 z9:=Try.sizeOf9
 v9:=Try.zeroValue9 }
open Go.RowKit in
theorem Try.strings_Compare (a b:ByteArray)(w:World) :
  Calls Try.prog 34 #[.string a,.string b] w fun e w'=>e=.returned (.int .i64 (Lib.compareBytes a.data.toList b.data.toList))∧w'=w:=Any.strings_Compare Try.lays106 a b w
def Try.laysSort22_ren:Go.Shelf.Ren:=⟨fun|6=>22|15=>33|14=>32|28=>46|29=>47|20=>38|21=>39|22=>40|23=>41|24=>42|25=>43|26=>44|27=>45|46=>49|47=>50|48=>51|49=>52|50=>53|57=>55|n=>n,fun|22=>22|24=>27|25=>64|3=>3|39=>46|0=>0|53=>88|55=>45|4=>4|46=>82|45=>81|50=>28|5=>5|9=>9|66=>90|70=>94|76=>96|77=>97|n=>n,fun|n=>n⟩
theorem Try.laysSort22:Go.Proofs.SlLaysF0.n6 Try.prog Try.laysSort22_ren:={
 mixed:=by kernel_rfl
 f6:=⟨Try.f22.name,by decide,Try.func22.trans (congrArg some (by kernel_rfl))⟩
 f14:=⟨Try.f32.name,by decide,Try.func32.trans (congrArg some (by kernel_rfl))⟩
 f15:=Try.func33.trans (congrArg some (by kernel_rfl))
 f20:=⟨Try.f38.name,by decide,Try.func38.trans (congrArg some (by kernel_rfl))⟩
 f21:=⟨Try.f39.name,by decide,Try.func39.trans (congrArg some (by kernel_rfl))⟩
 f22:=⟨Try.f40.name,by decide,Try.func40.trans (congrArg some (by kernel_rfl))⟩
 f23:=⟨Try.f41.name,by decide,Try.func41.trans (congrArg some (by kernel_rfl))⟩
 f24:=⟨Try.f42.name,by decide,Try.func42.trans (congrArg some (by kernel_rfl))⟩
 f25:=⟨Try.f43.name,by decide,Try.func43.trans (congrArg some (by kernel_rfl))⟩
 f26:=⟨Try.f44.name,by decide,Try.func44.trans (congrArg some (by kernel_rfl))⟩
 f27:=⟨Try.f45.name,by decide,Try.func45.trans (congrArg some (by kernel_rfl))⟩
 f28:=Try.func46.trans (congrArg some (by kernel_rfl))
 f29:=Try.func47.trans (congrArg some (by kernel_rfl))
 f46:=⟨Try.f49.name,by decide,Try.func49.trans (congrArg some (by kernel_rfl))⟩
 f47:=Try.func50.trans (congrArg some (by kernel_rfl))
 f48:=Try.func51.trans (congrArg some (by kernel_rfl))
 f49:=⟨Try.f52.name,by decide,Try.func52.trans (congrArg some (by kernel_rfl))⟩
 f50:=⟨Try.f53.name,by decide,Try.func53.trans (congrArg some (by kernel_rfl))⟩
 f57:=⟨Try.f55.name,by decide,Try.func55.trans (congrArg some (by kernel_rfl))⟩
 t0:=Try.underlying0
 a0:=Try.isAgg0
 z0:=Try.sizeOf0
 v0:=Try.zeroValue0
 t3:=Try.underlying3
 a3:=Try.isAgg3
 z3:=Try.sizeOf3
 v3:=Try.zeroValue3
 t4:=Try.underlying4
 a4:=Try.isAgg4
 z4:=Try.sizeOf4
 v4:=Try.zeroValue4
 t5:=Try.underlying5
 a5:=Try.isAgg5
 z5:=Try.sizeOf5
 v5:=Try.zeroValue5
 t9:=Try.underlying9
 a9:=Try.isAgg9
 z9:=Try.sizeOf9
 v9:=Try.zeroValue9
 t22:=Try.underlying22
 a22:=Try.isAgg22
 z22:=Try.sizeOf22
 v22:=Try.zeroValue22
 t25:=Try.underlying64
 a25:=Try.isAgg64
 z25:=Try.sizeOf64
 v25:=Try.zeroValue64
 t39:=Try.underlying46
 a39:=Try.isAgg46
 z39:=Try.sizeOf46
 v39:=Try.zeroValue46
 t45:=Try.underlying81
 a45:=Try.isAgg81
 z45:=Try.sizeOf81
 v45:=Try.zeroValue81
 t46:=Try.underlying82
 a46:=Try.isAgg82
 z46:=Try.sizeOf82
 v46:=Try.zeroValue82
 t50:=Try.underlying28
 a50:=Try.isAgg28
 z50:=Try.sizeOf28
 v50:=Try.zeroValue28
 t53:=Try.underlying88
 a53:=Try.isAgg88
 z53:=Try.sizeOf88
 v53:=Try.zeroValue88
 t55:=Try.underlying45
 a55:=Try.isAgg45
 z55:=Try.sizeOf45
 v55:=Try.zeroValue45
 t66:=Try.underlying90
 a66:=Try.isAgg90
 z66:=Try.sizeOf90
 v66:=Try.zeroValue90
 t70:=Try.underlying94
 a70:=Try.isAgg94
 z70:=Try.sizeOf94
 v70:=Try.zeroValue94
 t76:=Try.underlying96
 a76:=Try.isAgg96
 z76:=Try.sizeOf96
 v76:=Try.zeroValue96
 t77:=Try.underlying97
 a77:=Try.isAgg97
 z77:=Try.sizeOf97
 v77:=Try.zeroValue97 }
end Go.Proofs
