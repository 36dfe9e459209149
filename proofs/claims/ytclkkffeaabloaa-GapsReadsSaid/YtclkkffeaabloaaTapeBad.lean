/- Whether a tape is bad, as a part of a loop's measure; no program. -/
import Derived.Test.YtclkkffeaabloaaVaryRead
namespace Go.Proofs.Ytclkkffeaabloaa
open Go Go.RowKit

def tapeBad (w : World) (b : Nat) : Bool := match w.cell? ⟨b, 1, none⟩ with
  | some (.bool true) => true
  | _ => false
theorem TapeIn.isBad {T : TypeId} {w : World} {b : Nat} {s : ByteArray} {bad : Bool} (h : TapeIn T w b s bad) : tapeBad w b = bad := by
  unfold tapeBad
  rw [h.c1]; cases bad <;> rfl
end Go.Proofs.Ytclkkffeaabloaa
