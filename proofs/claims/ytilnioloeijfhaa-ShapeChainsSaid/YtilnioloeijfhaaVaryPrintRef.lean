/- Contracts of Print. -/
import Derived.Test.YtilnioloeijfhaaVaryWalks
namespace Go.Proofs.Ytilnioloeijfhaa
open Go Go.RowKit

end Go.Proofs.Ytilnioloeijfhaa
