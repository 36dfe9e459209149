/- The contracts of layer 15's answer: Size, Same; and of its laws: great, small. -/
import Derived.Test.YtcofhnedidllpaaGZTermRef
namespace Go.Proofs.Ytcofhnedidllpaa
open Go Go.RowKit
end Go.Proofs.Ytcofhnedidllpaa
