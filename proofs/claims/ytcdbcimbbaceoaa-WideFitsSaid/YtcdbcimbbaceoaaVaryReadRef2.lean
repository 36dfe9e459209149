/- Contracts of a tape's further methods, of the answer. -/
import Derived.Test.YtcdbcimbbaceoaaVaryRead
import Derived.Test.YtcdbcimbbaceoaaVaryReadRef
namespace Go.Proofs.Ytcdbcimbbaceoaa
open Go Go.RowKit

end Go.Proofs.Ytcdbcimbbaceoaa
