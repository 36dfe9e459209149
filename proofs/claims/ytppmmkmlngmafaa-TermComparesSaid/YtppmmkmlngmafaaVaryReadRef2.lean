/- Contracts of a tape's further methods, of the answer. -/
import Derived.Test.YtppmmkmlngmafaaVaryRead
import Derived.Test.YtppmmkmlngmafaaVaryReadRef
namespace Go.Proofs.Ytppmmkmlngmafaa
open Go Go.RowKit

end Go.Proofs.Ytppmmkmlngmafaa
