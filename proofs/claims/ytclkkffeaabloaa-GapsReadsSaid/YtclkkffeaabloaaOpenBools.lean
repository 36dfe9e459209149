/- An argument that is a slice of yes and no; no program. -/
import Derived.Test.YtclkkffeaabloaaMem
import Derived.ChangeArms
namespace Go.Proofs.Ytclkkffeaabloaa
open Go Go.RowKit

section
variable {H : Type} {enc : TypeId × Value → H} {P : Program} {w : World} {base b0 : Nat} {sp : Nat → Bool} {held : Bool} {r : Reach}
theorem open_bools_in {t e : TypeId} {v : Value} {d : DataW H} {ps : List MemPlace} (ht : P.underlying t = some (.slice e)) (he : P.underlying e = some .bool) (hc : P.cellsOf e = 1)
    (hval : Value.okWide P w r b0 t v) (hd : DataW.Trod enc P w base sp held t v d ps) : ∃ l : List Bool, BoolsIn w v l ∧ ∀ x ∈ l, x = x :=
  open_ones Value.bool _ ht hc (fun n c y h => by
    obtain ⟨x, e1, _⟩ := DataW.trod_bool he h
    simp only [List.cons.injEq, and_true] at e1
    exact ⟨x, e1, rfl⟩) hval hd
end
end Go.Proofs.Ytclkkffeaabloaa
