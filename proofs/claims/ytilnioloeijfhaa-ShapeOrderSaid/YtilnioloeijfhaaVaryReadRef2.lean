/- Contracts of a tape's further methods, of the answer. -/
import Derived.Test.YtilnioloeijfhaaVaryRead
import Derived.Test.YtilnioloeijfhaaVaryReadRef
namespace Go.Proofs.Ytilnioloeijfhaa
open Go Go.RowKit

end Go.Proofs.Ytilnioloeijfhaa
