/- The contracts of the answer's Minus and Int of layer 11. -/
import Derived.Test.YtopeeokjfaampaaGStrs
import Derived.Test.YtopeeokjfaampaaGZWideRef
import Derived.Lib.QuietBelow
import Derived.Deep.QuietTactic
import Derived.BigQuiet
import Derived.StillTailTactics
import Derived.Deep.RegionWith
namespace Go.Proofs.Ytopeeokjfaampaa
open Go Go.RowKit
end Go.Proofs.Ytopeeokjfaampaa
