/- The contracts of layer 15's own none, other, both, known, at, part, Eval, Size. -/
import Derived.Test.YtnkhkkdmjabhnaaGZCalm
import Derived.Test.YtnkhkkdmjabhnaaGZTermBox
import Derived.Test.YtnkhkkdmjabhnaaGZTermRefB
namespace Go.Proofs.Ytnkhkkdmjabhnaa
open Go Go.RowKit
end Go.Proofs.Ytnkhkkdmjabhnaa
