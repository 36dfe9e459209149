/- Rows that a term is yes of, and rows' cells in columns: what each comes to, of rows together too; no program. -/
import Derived.Test.YtjbpbfhgjldliaaGreatGTimes
import Derived.Test.YtjbpbfhgjldliaaGreatGTermsE
namespace Go.Proofs.YtjbpbfhgjldliaaGreat
open Go Go.RowKit
end Go.Proofs.YtjbpbfhgjldliaaGreat
