/- Contracts of Print. -/
import Derived.Test.YtbegkiffpcedbaaGVary
namespace Go.Proofs.Ytbegkiffpcedbaa
open Go Go.RowKit

end Go.Proofs.Ytbegkiffpcedbaa
