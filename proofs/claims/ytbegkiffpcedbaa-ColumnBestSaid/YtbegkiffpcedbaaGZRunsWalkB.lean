/- The contract of the answer's Runs of layer 4. -/
import Derived.Test.YtbegkiffpcedbaaGZRunsWalkA
namespace Go.Proofs.Ytbegkiffpcedbaa
open Go Go.RowKit

theorem NewRun.made {w : World} {B : Nat} {c n : Value} {rs : List (ByteArray × Nat)} {d : ByteArray} (h1 : Own w B 1 c (rs.length + 1) (cellsV rs ++ [.string d])) (h2 : Own w B 1 n (rs.length + 1) (oftenV rs ++ [.int .i64 1]))
    (h3 : ∀ k, c.ownBlock = some k → n.ownBlock ≠ some k) : OwnRuns w B c n (rs ++ [(d, 1)]) := by
  refine ⟨?_, ?_, h3⟩
  · rw [List.length_append, cellsV_append]; exact h1
  · rw [List.length_append, oftenV_append]; exact h2

end Go.Proofs.Ytbegkiffpcedbaa
