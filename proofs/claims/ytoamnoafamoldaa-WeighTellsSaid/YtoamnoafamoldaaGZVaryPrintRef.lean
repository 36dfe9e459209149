/- Contracts of Print. -/
import Derived.Test.YtoamnoafamoldaaGVary
namespace Go.Proofs.Ytoamnoafamoldaa
open Go Go.RowKit

end Go.Proofs.Ytoamnoafamoldaa
