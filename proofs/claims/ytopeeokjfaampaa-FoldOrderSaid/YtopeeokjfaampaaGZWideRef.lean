/- The contracts of the answer's functions of layer 11. -/
import Derived.Test.YtopeeokjfaampaaGBase
import Derived.Test.YtopeeokjfaampaaGStrs
import Derived.Test.YtopeeokjfaampaaGZWidePure
namespace Go.Proofs.Ytopeeokjfaampaa
open Go Go.RowKit
def wV (a:Wd):Value:=.agg #[.int .i64 a.1,.int .u64 a.2]
end Go.Proofs.Ytopeeokjfaampaa
