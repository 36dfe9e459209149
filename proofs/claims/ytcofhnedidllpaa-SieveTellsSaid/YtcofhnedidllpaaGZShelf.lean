/- The library's contracts at this seat, as the kit's command lays them. -/
import Derived.Ground.SlsfProg
import Derived.Shelf.SlSortCmp.WholeK
import Derived.Shelf.Small.Bits
import Derived.Shelf.Strconv.Itoa0
import Derived.Test.YtcofhnedidllpaaProg
namespace Go.Proofs
open Go.Shelf
def Try.lays125_ren:Go.Shelf.Ren:=⟨fun|125=>52|128=>64|129=>65|n=>n,fun|46=>62|3=>3|51=>82|53=>61|4=>4|5=>5|9=>9|n=>n,fun|n=>n⟩
theorem Try.lays125:Go.Proofs.Lays.n125 Try.prog Try.lays125_ren:={
 mixed:=by kernel_rfl
 f125:=Try.func52.trans (congrArg some (by kernel_rfl))
 f128:=Try.func64.trans (congrArg some (by kernel_rfl))
 f129:=Try.func65.trans (congrArg some (by kernel_rfl))
 t3:=Try.underlying3
 a3:=Try.isAgg3
 z3:=Try.sizeOf3
 v3:=Try.zeroValue3
 t4:=Try.underlying4
 a4:=Try.isAgg4
 z4:=Try.sizeOf4
 v4:=Try.zeroValue4
 t5:=Try.underlying5
 a5:=Try.isAgg5
 z5:=Try.sizeOf5
 v5:=Try.zeroValue5
 t9:=Try.underlying9
 a9:=Try.isAgg9
 z9:=Try.sizeOf9
 v9:=Try.zeroValue9
 t46:=Try.underlying62
 a46:=Try.isAgg62
 z46:=Try.sizeOf62
 v46:=Try.zeroValue62
 t51:=Try.underlying82
 a51:=Try.isAgg82
 z51:=Try.sizeOf82
 v51:=Try.zeroValue82
 t53:=Try.underlying61
 a53:=Try.isAgg61
 z53:=Try.sizeOf61
 v53:=Try.zeroValue61 }
theorem Try.bits_Len (x:Int)(w:World)(h0:0≤x)(h1:x≤18446744073709551615) :
  Calls Try.prog 52 #[.int .u64 x] w fun e w'=>e=.returned (.int .i64 (Lib.bitLen x.toNat))∧w'=w:=Any.bits_Len Try.lays125 x w h0 h1
def Try.laysSort40_ren:Go.Shelf.Ren:=⟨fun|6=>40|15=>52|14=>51|28=>64|29=>65|20=>56|21=>57|22=>58|23=>59|24=>60|25=>61|26=>62|27=>63|46=>67|47=>68|48=>69|49=>70|50=>71|57=>73|n=>n,fun|22=>22|24=>40|25=>64|3=>3|39=>62|0=>0|53=>82|55=>61|4=>4|46=>75|45=>74|50=>79|5=>5|9=>9|66=>84|70=>88|76=>91|77=>92|n=>n,fun|n=>n⟩
theorem Try.laysSort40:Go.Proofs.SlLaysF0.n6 Try.prog Try.laysSort40_ren:={
 mixed:=by kernel_rfl
 f6:=⟨Try.f40.name,by decide,Try.func40.trans (congrArg some (by kernel_rfl))⟩
 f14:=⟨Try.f51.name,by decide,Try.func51.trans (congrArg some (by kernel_rfl))⟩
 f15:=Try.func52.trans (congrArg some (by kernel_rfl))
 f20:=⟨Try.f56.name,by decide,Try.func56.trans (congrArg some (by kernel_rfl))⟩
 f21:=⟨Try.f57.name,by decide,Try.func57.trans (congrArg some (by kernel_rfl))⟩
 f22:=⟨Try.f58.name,by decide,Try.func58.trans (congrArg some (by kernel_rfl))⟩
 f23:=⟨Try.f59.name,by decide,Try.func59.trans (congrArg some (by kernel_rfl))⟩
 f24:=⟨Try.f60.name,by decide,Try.func60.trans (congrArg some (by kernel_rfl))⟩
 f25:=⟨Try.f61.name,by decide,Try.func61.trans (congrArg some (by kernel_rfl))⟩
 f26:=⟨Try.f62.name,by decide,Try.func62.trans (congrArg some (by kernel_rfl))⟩
 f27:=⟨Try.f63.name,by decide,Try.func63.trans (congrArg some (by kernel_rfl))⟩
 f28:=Try.func64.trans (congrArg some (by kernel_rfl))
 f29:=Try.func65.trans (congrArg some (by kernel_rfl))
 f46:=⟨Try.f67.name,by decide,Try.func67.trans (congrArg some (by kernel_rfl))⟩
 f47:=Try.func68.trans (congrArg some (by kernel_rfl))
 f48:=Try.func69.trans (congrArg some (by kernel_rfl))
 f49:=⟨Try.f70.name,by decide,Try.func70.trans (congrArg some (by kernel_rfl))⟩
 f50:=⟨Try.f71.name,by decide,Try.func71.trans (congrArg some (by kernel_rfl))⟩
 f57:=⟨Try.f73.name,by decide,Try.func73.trans (congrArg some (by kernel_rfl))⟩
 t0:=Try.underlying0
 a0:=Try.isAgg0
 z0:=Try.sizeOf0
 v0:=Try.zeroValue0
 t3:=Try.underlying3
 a3:=Try.isAgg3
 z3:=Try.sizeOf3
 v3:=Try.zeroValue3
 t4:=Try.underlying4
 a4:=Try.isAgg4
 z4:=Try.sizeOf4
 v4:=Try.zeroValue4
 t5:=Try.underlying5
 a5:=Try.isAgg5
 z5:=Try.sizeOf5
 v5:=Try.zeroValue5
 t9:=Try.underlying9
 a9:=Try.isAgg9
 z9:=Try.sizeOf9
 v9:=Try.zeroValue9
 t22:=Try.underlying22
 a22:=Try.isAgg22
 z22:=Try.sizeOf22
 v22:=Try.zeroValue22
 t25:=Try.underlying64
 a25:=Try.isAgg64
 z25:=Try.sizeOf64
 v25:=Try.zeroValue64
 t39:=Try.underlying62
 a39:=Try.isAgg62
 z39:=Try.sizeOf62
 v39:=Try.zeroValue62
 t45:=Try.underlying74
 a45:=Try.isAgg74
 z45:=Try.sizeOf74
 v45:=Try.zeroValue74
 t46:=Try.underlying75
 a46:=Try.isAgg75
 z46:=Try.sizeOf75
 v46:=Try.zeroValue75
 t50:=Try.underlying79
 a50:=Try.isAgg79
 z50:=Try.sizeOf79
 v50:=Try.zeroValue79
 t53:=Try.underlying82
 a53:=Try.isAgg82
 z53:=Try.sizeOf82
 v53:=Try.zeroValue82
 t55:=Try.underlying61
 a55:=Try.isAgg61
 z55:=Try.sizeOf61
 v55:=Try.zeroValue61
 t66:=Try.underlying84
 a66:=Try.isAgg84
 z66:=Try.sizeOf84
 v66:=Try.zeroValue84
 t70:=Try.underlying88
 a70:=Try.isAgg88
 z70:=Try.sizeOf88
 v70:=Try.zeroValue88
 t76:=Try.underlying91
 a76:=Try.isAgg91
 z76:=Try.sizeOf91
 v76:=Try.zeroValue91
 t77:=Try.underlying92
 a77:=Try.isAgg92
 z77:=Try.sizeOf92
 v77:=Try.zeroValue92 }
end Go.Proofs
