/- Contracts of Print. -/
import Derived.Test.YtjbpbfhgjldliaaGreatGBase
import Derived.WalkKit
import Derived.ProofKit
import Derived.IntWalk
namespace Go.Proofs.YtjbpbfhgjldliaaGreat
open Go
def vp (n:Nat):List UInt8:=if n < 128 then [UInt8.ofNat n] else UInt8.ofNat (n % 128+128)::vp (n / 128)
termination_by n
decreasing_by omega
def val7:List UInt8→Nat
 | []=>0
 | b::l=>b.toNat % 128+128*val7 l
open Go Go.RowKit
def printB (n:Nat):ByteArray:=⟨(vp n).toArray⟩
theorem not_i64 (n:Int)(h0 : -9223372036854775808≤n)(h1:n≤9223372036854775807):bits .xor .i64 (-1) n = -1-n:=by
 have ha:BitVec.ofInt 64 (-1)=BitVec.allOnes 64:=by decide
 show IntKind.i64.wrap ((BitVec.ofInt 64 (-1) ^^^ BitVec.ofInt 64 n).toNat:Int)=_
 rw [ha,BitVec.allOnes_xor,BitVec.toNat_not,BitVec.toNat_ofInt,IntKind.wrap_i64]
 omega
theorem and_1 (n:Nat)(h:n < 18446744073709551616):bits .and .u64 (n:Int) 1=((n % 2:Nat):Int):=by
 have k:=bits_and_u64_nat n 1 h (by omega)
 rw [Nat.and_one_is_mod] at k
 exact k
end Go.Proofs.YtjbpbfhgjldliaaGreat
