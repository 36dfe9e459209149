/- The contracts of layer 9's Pick. -/
import Derived.Test.YtopeeokjfaampaaGStrs
import Derived.Test.YtopeeokjfaampaaGTimes
namespace Go.Proofs.Ytopeeokjfaampaa
open Go Go.RowKit
theorem Try.infoP9:(Try.prog.info? 9).map (fun i=>(i.zero,i.size,i.bytes))=some (some (.string ⟨#[]⟩),1,16):=by kernel_rfl
def zeroCells (n:Nat):List Value:=List.replicate n (Value.string ⟨#[]⟩)
end Go.Proofs.Ytopeeokjfaampaa
