/- Contracts of Print. -/
import Derived.Test.YtppmmkmlngmafaaVaryWalks
namespace Go.Proofs.Ytppmmkmlngmafaa
open Go Go.RowKit

end Go.Proofs.Ytppmmkmlngmafaa
