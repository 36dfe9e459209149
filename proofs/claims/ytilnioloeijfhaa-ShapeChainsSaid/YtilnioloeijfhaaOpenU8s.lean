/- An argument that is a slice of bytes, as numbers; no program. -/
import Derived.Test.YtilnioloeijfhaaMem
namespace Go.Proofs.Ytilnioloeijfhaa
open Go Go.RowKit

def u8V (n : Nat) : Value := .int .u8 (n : Int)
/-- A slice of bytes, as numbers. -/
def U8sIn (w : World) (v : Value) (l : List Nat) : Prop := SliceOf w 1 v l.length (l.map u8V)
theorem U8sIn.kept {w w' : World} {v : Value} {l : List Nat} (h : U8sIn w v l) (hb : Below w.heap.size w w') : U8sIn w' v l := SliceOf.later h hb
section
variable {H : Type} {enc : TypeId × Value → H} {P : Program} {w : World} {base b0 : Nat} {sp : Nat → Bool} {held : Bool} {r : Reach}
theorem open_u8s_in {t e : TypeId} {v : Value} {d : DataW H} {ps : List MemPlace} (ht : P.underlying t = some (.slice e)) (he : P.underlying e = some (.int .u8)) (hc : P.cellsOf e = 1)
    (hval : Value.okWide P w r b0 t v) (hd : DataW.Trod enc P w base sp held t v d ps) : ∃ l : List Nat, U8sIn w v l ∧ ∀ x ∈ l, x < 256 :=
  open_ones u8V (fun x => x < 256) ht hc (fun n c y h => by
    obtain ⟨x, e1, _, hw⟩ := DataW.trod_int he h
    simp only [List.cons.injEq, and_true] at e1
    have := Go.bounds_u8 hw
    refine ⟨x.toNat, ?_, by omega⟩
    rw [e1, show x = ((x.toNat : Nat) : Int) by omega]; rfl) hval hd
end
end Go.Proofs.Ytilnioloeijfhaa
