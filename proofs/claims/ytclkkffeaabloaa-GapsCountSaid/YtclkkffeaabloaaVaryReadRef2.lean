/- Contracts of a tape's further methods, of the answer. -/
import Derived.Test.YtclkkffeaabloaaVaryRead
import Derived.Test.YtclkkffeaabloaaVaryReadRef
namespace Go.Proofs.Ytclkkffeaabloaa
open Go Go.RowKit

theorem ref_tnum_calls (b : Nat) (s : ByteArray) (bad : Bool) (m : Int) :
    Takes Try.prog 38 22 [.int .u64 m] b s bad (.int .u64 ((numT s bad m).1 : Nat)) (numT s bad m).2.1 (numT s bad m).2.2 := by
  cases bad with
  | true => exact ref_num_bad b s m
  | false => exact ref_num_good b s m

end Go.Proofs.Ytclkkffeaabloaa
