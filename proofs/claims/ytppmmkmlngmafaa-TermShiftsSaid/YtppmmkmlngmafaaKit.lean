/- Calls that give a value: the contract's form, for all layers. -/
import Derived.Test.YtppmmkmlngmafaaRows
import Derived.WalkKit
import Derived.ProofKit
import Derived.WalkSpells
import Derived.WalkLawsBesides
import Derived.Handy
import Derived.Lib.Hide
namespace Go.Proofs.Ytppmmkmlngmafaa
open Go Go.RowKit

/-- A call that gives a value, and makes but new memory. -/
def Gives (P : Program) (f : FuncId) (args : Array Value) (v : Value) : Prop :=
  ∀ w : World, Calls P f args w fun e w' => e = .returned v ∧ Below w.heap.size w w'
theorem Gives.step {P : Program} {f : FuncId} {args : Array Value} {v : Value} (h : Gives P f args v) {B : Nat} {w0 w : World} (hb : Below B w0 w) (hB : B ≤ w.heap.size)
    {R : Ending → World → Prop} (k : ∀ w', Below B w0 w' → B ≤ w'.heap.size → R (.returned v) w') : Calls P f args w R :=
  (h w).mono fun _ _ ⟨he, hw⟩ => he ▸ k _ (hb.trans (hw.mono hB)) (Nat.le_trans hB hw.size)
theorem Gives.stepB {P : Program} {f : FuncId} {args : Array Value} {v : Value} (h : Gives P f args v) {B : Nat} {w0 w : World} (hb : Below B w0 w) (hB : B ≤ w.heap.size)
    {R : Ending → World → Prop} (k : ∀ w', Below B w0 w' → B ≤ w'.heap.size → Below w.heap.size w w' → R (.returned v) w') : Calls P f args w R :=
  (h w).mono fun _ _ ⟨he, hw⟩ => he ▸ k _ (hb.trans (hw.mono hB)) (Nat.le_trans hB hw.size) hw
theorem start (w : World) : Below w.heap.size w w ∧ w.heap.size ≤ w.heap.size := ⟨.refl _ _, Nat.le_refl _⟩
theorem ret_bool {a b : Bool} (h : a = b) : Ending.returned (.bool a) = .returned (.bool b) := by rw [h]
theorem ret_int {k : IntKind} {a b : Int} (h : a = b) : Ending.returned (.int k a) = .returned (.int k b) := by rw [h]
theorem ret_str {a b : ByteArray} (h : a = b) : Ending.returned (.string a) = .returned (.string b) := by rw [h]
end Go.Proofs.Ytppmmkmlngmafaa
