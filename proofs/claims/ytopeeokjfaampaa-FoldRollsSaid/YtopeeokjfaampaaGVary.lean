/- Contracts of Print. -/
import Derived.Test.YtopeeokjfaampaaGBase
import Derived.WalkKit
import Derived.ProofKit
import Derived.IntWalk
namespace Go.Proofs.Ytopeeokjfaampaa
open Go
def vp (n:Nat):List UInt8:=if n < 128 then [UInt8.ofNat n] else UInt8.ofNat (n % 128+128)::vp (n / 128)
termination_by n
decreasing_by omega
def val7:List UInt8→Nat
 | []=>0
 | b::l=>b.toNat % 128+128*val7 l
open Go Go.RowKit
def printB (n:Nat):ByteArray:=⟨(vp n).toArray⟩
end Go.Proofs.Ytopeeokjfaampaa
