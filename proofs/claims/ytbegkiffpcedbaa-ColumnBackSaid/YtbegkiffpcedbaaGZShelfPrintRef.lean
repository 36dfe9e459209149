/- The contract of the answer's Print of layer 3. -/
import Derived.Test.YtbegkiffpcedbaaGShelf
namespace Go.Proofs.Ytbegkiffpcedbaa
open Go Go.RowKit

theorem low_byte (D j : Nat) : ((D : Int) / 2 ^ (8 * j) % 256) = ((D / 256 ^ j % 256 : Nat) : Int) := by
  have e7 : (256 : Nat) ^ j = 2 ^ (8 * j) := by rw [Nat.pow_mul]
  rw [e7]
  simp

end Go.Proofs.Ytbegkiffpcedbaa
