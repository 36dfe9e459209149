/- The library's contracts at this seat, as the kit's command lays them. -/
import Derived.Ground.SlsfProg
import Derived.Shelf.SlSortCmp.WholeK
import Derived.Shelf.Small.Bits
import Derived.Shelf.Strconv.Itoa0
import Derived.Test.YtaoeikeobfllkaaProg
namespace Go.Proofs
open Go.Shelf
def Try.lays125_ren:Go.Shelf.Ren:=⟨fun|125=>36|128=>49|129=>50|n=>n,fun|46=>56|3=>3|51=>78|53=>55|4=>4|5=>5|9=>9|n=>n,fun|n=>n⟩
theorem Try.lays125:Go.Proofs.Lays.n125 Try.prog Try.lays125_ren:={
 mixed:=by kernel_rfl
 f125:=Try.func36.trans (congrArg some (by kernel_rfl))
 f128:=Try.func49.trans (congrArg some (by kernel_rfl))
 f129:=Try.func50.trans (congrArg some (by kernel_rfl))
 t3:=Try.underlying3
 a3:=Try.isAgg3
 z3:=Try.sizeOf3
 v3:=Try.zeroValue3
 t4:=Try.underlying4
 a4:=Try.isAgg4
 z4:=Try.sizeOf4
 v4:=Try.zeroValue4
 t5:=Try.underlying5
 a5:=Try.isAgg5
 z5:=Try.sizeOf5
 v5:=Try.zeroValue5
 t9:=Try.underlying9
 a9:=Try.isAgg9
 z9:=Try.sizeOf9
 v9:=Try.zeroValue9
 t46:=Try.underlying56
 a46:=Try.isAgg56
 z46:=Try.sizeOf56
 v46:=Try.zeroValue56
 t51:=Try.underlying78
 a51:=Try.isAgg78
 z51:=Try.sizeOf78
 v51:=Try.zeroValue78
 t53:=Try.underlying55
 a53:=Try.isAgg55
 z53:=Try.sizeOf55
 v53:=Try.zeroValue55 }
theorem Try.bits_Len (x:Int)(w:World)(h0:0≤x)(h1:x≤18446744073709551615) :
  Calls Try.prog 36 #[.int .u64 x] w fun e w'=>e=.returned (.int .i64 (Lib.bitLen x.toNat))∧w'=w:=Any.bits_Len Try.lays125 x w h0 h1
def Try.laysSort29_ren:Go.Shelf.Ren:=⟨fun|6=>29|15=>36|14=>35|28=>49|29=>50|20=>41|21=>42|22=>43|23=>44|24=>45|25=>46|26=>47|27=>48|46=>53|47=>54|48=>55|49=>56|50=>57|57=>59|n=>n,fun|22=>22|24=>29|25=>59|3=>3|39=>56|0=>0|53=>78|55=>55|4=>4|46=>71|45=>70|50=>75|5=>5|9=>9|66=>81|70=>85|76=>88|77=>89|n=>n,fun|n=>n⟩
theorem Try.laysSort29:Go.Proofs.SlLaysF0.n6 Try.prog Try.laysSort29_ren:={
 mixed:=by kernel_rfl
 f6:=⟨Try.f29.name,by decide,Try.func29.trans (congrArg some (by kernel_rfl))⟩
 f14:=⟨Try.f35.name,by decide,Try.func35.trans (congrArg some (by kernel_rfl))⟩
 f15:=Try.func36.trans (congrArg some (by kernel_rfl))
 f20:=⟨Try.f41.name,by decide,Try.func41.trans (congrArg some (by kernel_rfl))⟩
 f21:=⟨Try.f42.name,by decide,Try.func42.trans (congrArg some (by kernel_rfl))⟩
 f22:=⟨Try.f43.name,by decide,Try.func43.trans (congrArg some (by kernel_rfl))⟩
 f23:=⟨Try.f44.name,by decide,Try.func44.trans (congrArg some (by kernel_rfl))⟩
 f24:=⟨Try.f45.name,by decide,Try.func45.trans (congrArg some (by kernel_rfl))⟩
 f25:=⟨Try.f46.name,by decide,Try.func46.trans (congrArg some (by kernel_rfl))⟩
 f26:=⟨Try.f47.name,by decide,Try.func47.trans (congrArg some (by kernel_rfl))⟩
 f27:=⟨Try.f48.name,by decide,Try.func48.trans (congrArg some (by kernel_rfl))⟩
 f28:=Try.func49.trans (congrArg some (by kernel_rfl))
 f29:=Try.func50.trans (congrArg some (by kernel_rfl))
 f46:=⟨Try.f53.name,by decide,Try.func53.trans (congrArg some (by kernel_rfl))⟩
 f47:=Try.func54.trans (congrArg some (by kernel_rfl))
 f48:=Try.func55.trans (congrArg some (by kernel_rfl))
 f49:=⟨Try.f56.name,by decide,Try.func56.trans (congrArg some (by kernel_rfl))⟩
 f50:=⟨Try.f57.name,by decide,Try.func57.trans (congrArg some (by kernel_rfl))⟩
 f57:=⟨Try.f59.name,by decide,Try.func59.trans (congrArg some (by kernel_rfl))⟩
 t0:=Try.underlying0
 a0:=Try.isAgg0
 z0:=Try.sizeOf0
 v0:=Try.zeroValue0
 t3:=Try.underlying3
 a3:=Try.isAgg3
 z3:=Try.sizeOf3
 v3:=Try.zeroValue3
 t4:=Try.underlying4
 a4:=Try.isAgg4
 z4:=Try.sizeOf4
 v4:=Try.zeroValue4
 t5:=Try.underlying5
 a5:=Try.isAgg5
 z5:=Try.sizeOf5
 v5:=Try.zeroValue5
 t9:=Try.underlying9
 a9:=Try.isAgg9
 z9:=Try.sizeOf9
 v9:=Try.zeroValue9
 t22:=Try.underlying22
 a22:=Try.isAgg22
 z22:=Try.sizeOf22
 v22:=Try.zeroValue22
 t25:=Try.underlying59
 a25:=Try.isAgg59
 z25:=Try.sizeOf59
 v25:=Try.zeroValue59
 t39:=Try.underlying56
 a39:=Try.isAgg56
 z39:=Try.sizeOf56
 v39:=Try.zeroValue56
 t45:=Try.underlying70
 a45:=Try.isAgg70
 z45:=Try.sizeOf70
 v45:=Try.zeroValue70
 t46:=Try.underlying71
 a46:=Try.isAgg71
 z46:=Try.sizeOf71
 v46:=Try.zeroValue71
 t50:=Try.underlying75
 a50:=Try.isAgg75
 z50:=Try.sizeOf75
 v50:=Try.zeroValue75
 t53:=Try.underlying78
 a53:=Try.isAgg78
 z53:=Try.sizeOf78
 v53:=Try.zeroValue78
 t55:=Try.underlying55
 a55:=Try.isAgg55
 z55:=Try.sizeOf55
 v55:=Try.zeroValue55
 t66:=Try.underlying81
 a66:=Try.isAgg81
 z66:=Try.sizeOf81
 v66:=Try.zeroValue81
 t70:=Try.underlying85
 a70:=Try.isAgg85
 z70:=Try.sizeOf85
 v70:=Try.zeroValue85
 t76:=Try.underlying88
 a76:=Try.isAgg88
 z76:=Try.sizeOf88
 v76:=Try.zeroValue88
 t77:=Try.underlying89
 a77:=Try.isAgg89
 z77:=Try.sizeOf89
 v77:=Try.zeroValue89 }
end Go.Proofs
