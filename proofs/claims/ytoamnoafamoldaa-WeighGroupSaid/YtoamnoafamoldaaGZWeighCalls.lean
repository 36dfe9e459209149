/- All contracts of layer 10's own functions together. -/
import Derived.Test.YtoamnoafamoldaaGWeighRef
import Derived.Test.YtoamnoafamoldaaGWeighOwn
import Derived.Test.YtoamnoafamoldaaGZWeighPutOwn
namespace Go.Proofs.Ytoamnoafamoldaa
open Go Go.RowKit
theorem short_lit (l : List Tm) (h : (l.all fun t => decide (t.1.length ≤ 1000000)) = true) : ShortR l := fun t ht => of_decide_eq_true (List.all_eq_true.1 h t ht)
end Go.Proofs.Ytoamnoafamoldaa
