/- The contracts of layer 15's answer: both, not, kid, Eval. -/
import Derived.Test.YtjbpbfhgjldliaaGreatGZCalm
import Derived.Test.YtjbpbfhgjldliaaGreatGTermsE
namespace Go.Proofs.YtjbpbfhgjldliaaGreat
open Go Go.RowKit
end Go.Proofs.YtjbpbfhgjldliaaGreat
