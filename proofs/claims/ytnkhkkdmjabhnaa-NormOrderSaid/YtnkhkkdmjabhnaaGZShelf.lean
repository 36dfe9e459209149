/- The library's contracts at this seat, as the kit's command lays them. -/
import Derived.Ground.SlsfProg
import Derived.Shelf.SlSortCmp.KitK
import Derived.Shelf.SlSortCmp.SmallK
import Derived.Shelf.Small.Bits
import Derived.Shelf.Small.Strs
import Derived.Shelf.Strconv.Itoa0
import Derived.Test.YtnkhkkdmjabhnaaProg
namespace Go.Proofs
open Go.Shelf
def Try.lays125_ren:Go.Shelf.Ren:=⟨fun|125=>52|128=>64|129=>65|n=>n,fun|46=>64|3=>3|51=>82|53=>46|4=>4|5=>5|9=>9|n=>n,fun|n=>n⟩
theorem Try.lays125:Go.Proofs.Lays.n125 Try.prog Try.lays125_ren:={
 mixed:=by kernel_rfl
 f125:=Try.func52.trans (congrArg some (by kernel_rfl))
 f128:=Try.func64.trans (congrArg some (by kernel_rfl))
 f129:=Try.func65.trans (congrArg some (by kernel_rfl))
 t3:=Try.underlying3
 a3:=Try.isAgg3
 z3:=Try.sizeOf3
 v3:=Try.zeroValue3
 t4:=Try.underlying4
 a4:=Try.isAgg4
 z4:=Try.sizeOf4
 v4:=Try.zeroValue4
 t5:=Try.underlying5
 a5:=Try.isAgg5
 z5:=Try.sizeOf5
 v5:=Try.zeroValue5
 t9:=Try.underlying9
 a9:=Try.isAgg9
 z9:=Try.sizeOf9
 v9:=Try.zeroValue9
 t46:=Try.underlying64
 a46:=Try.isAgg64
 z46:=Try.sizeOf64
 v46:=Try.zeroValue64
 t51:=Try.underlying82
 a51:=Try.isAgg82
 z51:=Try.sizeOf82
 v51:=Try.zeroValue82
 t53:=Try.underlying46
 a53:=Try.isAgg46
 z53:=Try.sizeOf46
 v53:=Try.zeroValue46 }
theorem Try.bits_Len (x:Int)(w:World)(h0:0≤x)(h1:x≤18446744073709551615) :
  Calls Try.prog 52 #[.int .u64 x] w fun e w'=>e=.returned (.int .i64 (Lib.bitLen x.toNat))∧w'=w:=Any.bits_Len Try.lays125 x w h0 h1
def Try.lays213_ren:Go.Shelf.Ren:=⟨fun|213=>55|265=>67|n=>n,fun|9=>9|3=>3|n=>n,fun|n=>n⟩
def Try.lays106_ren:Go.Shelf.Ren:=⟨fun|106=>47|213=>55|265=>67|n=>n,fun|9=>9|3=>3|n=>n,fun|n=>n⟩
theorem Try.lays106:Go.Proofs.Lays.n106 Try.prog Try.lays106_ren:={
 mixed:=by kernel_rfl
 f106:=Try.func47.trans (congrArg some (by kernel_rfl))
 f213:=Try.func55.trans (congrArg some (by kernel_rfl))
 f265:=Try.func67.trans (congrArg some (by kernel_rfl))
 t3:=Try.underlying3
 a3:=Try.isAgg3
 z3:=Try.sizeOf3
 v3:=Try.zeroValue3
 t9:=Try.underlying9
 a9:=Try.isAgg9
 z9:=Try.sizeOf9
 v9:=Try.zeroValue9 }
open Go.RowKit in
theorem Try.strings_Compare (a b:ByteArray)(w:World) :
  Calls Try.prog 47 #[.string a,.string b] w fun e w'=>e=.returned (.int .i64 (Lib.compareBytes a.data.toList b.data.toList))∧w'=w:=Any.strings_Compare Try.lays106 a b w
def Try.laysIns53_ren:Go.Shelf.Ren:=⟨fun|20=>53|n=>n,fun|24=>52|22=>48|3=>3|25=>53|4=>4|0=>0|n=>n,fun|n=>n⟩
theorem Try.laysIns53:Go.Proofs.SlLaysF0.n20 Try.prog Try.laysIns53_ren:={
 mixed:=by kernel_rfl
 f20:=⟨Try.f53.name,by decide,Try.func53.trans (congrArg some (by kernel_rfl))⟩
 t0:=Try.underlying0
 a0:=Try.isAgg0
 z0:=Try.sizeOf0
 v0:=Try.zeroValue0
 t3:=Try.underlying3
 a3:=Try.isAgg3
 z3:=Try.sizeOf3
 v3:=Try.zeroValue3
 t4:=Try.underlying4
 a4:=Try.isAgg4
 z4:=Try.sizeOf4
 v4:=Try.zeroValue4
 t22:=Try.underlying48
 a22:=Try.isAgg48
 z22:=Try.sizeOf48
 v22:=Try.zeroValue48
 t25:=Try.underlying53
 a25:=Try.isAgg53
 z25:=Try.sizeOf53
 v25:=Try.zeroValue53 }
end Go.Proofs
