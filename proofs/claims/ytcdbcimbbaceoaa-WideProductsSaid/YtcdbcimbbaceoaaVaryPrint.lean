/- Contracts of Print. -/
import Derived.Test.YtcdbcimbbaceoaaVaryWalks
namespace Go.Proofs.Ytcdbcimbbaceoaa
open Go Go.RowKit

end Go.Proofs.Ytcdbcimbbaceoaa
