/-
  No cell of these rows narrows 'for every input' (looked for: loops, veiled, ifaces, maps, wideKeys, modest, calm, conditions, laid).
  DERIVED. THE GIVEN ROWS OF THIS SEAT. 3 by the template 'for every input the law returns true; each argument reads behind the call as it read before'; 0 by the template 'total and deterministic' (their statements: YtilnioloeijfhaaTotals.lean).
  GIVEN WITH THE SEED: the statements are not yours to turn. If you find one false, say at which input.
  Laid BY PROGRAM, IN A SANDBOX (cutbox-rows.mjs): the forced cells as the released guide's own fill.sh prints them over the translation 5e5a746a5a3b093d… (all of the seat's roots in one cut). By AI agents, Wed Nov 11 2026. No macro, syntax, notation, axiom, sorry.
-/
import Derived.Test.YtilnioloeijfhaaChecked
import GoSem.Claim
import GoSem.ClaimJoined
import GoSem.ClaimMapViews
import Derived.JoinedTies
import Derived.KernelRfl
namespace Go.Proofs.Ytilnioloeijfhaa
/- THE CELL 'sum', in the pinned program and in every row, IS THE sha256 OF THE DUMP (.gsa) THAT YtilnioloeijfhaaProg.lean LOADS. Nothing in Lean hashes anything: it is a label: what it is worth is what the hold of that sum in a sandbox is worth. -/
noncomputable def Try.pinned : Pinned := { name := "ytilnioloeijfhaa", sum := "5e5a746a5a3b093df4fd1878d1e32ca519cfb7249f89e8096e8438047bc724ee", checked := Try.checked }
namespace Rows
def none {H : Type} : Left H := { results := [], args := [] }

/-- 'distillerlaw09.ShapePicks': WHATEVER THE INPUT: true; the input reads as it did. -/
def shapePicksSpec : ChangeSpec := { name := "shapePicks", fn := fun _ => fun
  | [d1, d2] => { results := [.lit (.bool true)], args := [d1, d2] }
  | _ => none }
def shapePicksRow : OpenClaim := { program := "ytilnioloeijfhaa", sum := "5e5a746a5a3b093df4fd1878d1e32ca519cfb7249f89e8096e8438047bc724ee", func := "distiller/distillerlaw09.ShapePicks", spec := "shapePicks", apart := false }
def ShapePicksSaid : Prop := shapePicksRow.holds Try.pinned (OpenSpec.ofChange shapePicksSpec)

/-- ITS FALSE NEIGHBOUR: 'it returns false'. Refute it at one input. -/
def shapePicksWrong : ChangeSpec := { name := "shapePicks", fn := fun _ => fun
  | [d1, d2] => { results := [.lit (.bool false)], args := [d1, d2] }
  | _ => none }
def ShapePicksWrongFalsely : Prop := shapePicksRow.holds Try.pinned (OpenSpec.ofChange shapePicksWrong)

/-- 'distillerlaw09.ShapeOrder': WHATEVER THE INPUT: true; the input reads as it did. -/
def shapeOrderSpec : ChangeSpec := { name := "shapeOrder", fn := fun _ => fun
  | [d1, d2, d3] => { results := [.lit (.bool true)], args := [d1, d2, d3] }
  | _ => none }
def shapeOrderRow : OpenClaim := { program := "ytilnioloeijfhaa", sum := "5e5a746a5a3b093df4fd1878d1e32ca519cfb7249f89e8096e8438047bc724ee", func := "distiller/distillerlaw09.ShapeOrder", spec := "shapeOrder", apart := false }
def ShapeOrderSaid : Prop := shapeOrderRow.holds Try.pinned (OpenSpec.ofChange shapeOrderSpec)

/-- ITS FALSE NEIGHBOUR: 'it returns false'. Refute it at one input. -/
def shapeOrderWrong : ChangeSpec := { name := "shapeOrder", fn := fun _ => fun
  | [d1, d2, d3] => { results := [.lit (.bool false)], args := [d1, d2, d3] }
  | _ => none }
def ShapeOrderWrongFalsely : Prop := shapeOrderRow.holds Try.pinned (OpenSpec.ofChange shapeOrderWrong)

/-- 'distillerlaw09.ShapeChains': WHATEVER THE INPUT: true; the input reads as it did. -/
def shapeChainsSpec : ChangeSpec := { name := "shapeChains", fn := fun _ => fun
  | [d1, d2, d3] => { results := [.lit (.bool true)], args := [d1, d2, d3] }
  | _ => none }
def shapeChainsRow : OpenClaim := { program := "ytilnioloeijfhaa", sum := "5e5a746a5a3b093df4fd1878d1e32ca519cfb7249f89e8096e8438047bc724ee", func := "distiller/distillerlaw09.ShapeChains", spec := "shapeChains", apart := false }
def ShapeChainsSaid : Prop := shapeChainsRow.holds Try.pinned (OpenSpec.ofChange shapeChainsSpec)

/-- ITS FALSE NEIGHBOUR: 'it returns false'. Refute it at one input. -/
def shapeChainsWrong : ChangeSpec := { name := "shapeChains", fn := fun _ => fun
  | [d1, d2, d3] => { results := [.lit (.bool false)], args := [d1, d2, d3] }
  | _ => none }
def ShapeChainsWrongFalsely : Prop := shapeChainsRow.holds Try.pinned (OpenSpec.ofChange shapeChainsWrong)

/- THE SECOND FORM. 'bulk': how many values and letters a reading holds, each counted each time it is reached (what is shared counts as often as it is met; a slice's spare places count too). A statement '..UptoSaid' is the law's where the arguments, and the package variables that the reading takes, are together of bulk at most 1048576: NARROWER than '..Said'. Prove '..Said' where nothing that the law and all that it calls make is longer than what came in: it says more and counts as full. Else prove '..UptoSaid'. A law counts once. -/
mutual
def uptoBulk {H : Type} : DataW H → Nat
  | .lit (.string bytes) => bytes.length + 1
  | .lit _ => 1
  | .nil => 1
  | .ptr d => uptoBulk d + 1
  | .slice elems spare => uptoBulkAll elems + uptoBulkAll spare + 1
  | .agg parts => uptoBulkAll parts + 1
  | .iface _ d => uptoBulk d + 1
  | .map entries => uptoBulkEntries entries + 1
  | .held _ => 1
def uptoBulkAll {H : Type} : List (DataW H) → Nat
  | [] => 0
  | d :: r => uptoBulk d + uptoBulkAll r
def uptoBulkEntries {H : Type} : List (Lit × DataW H) → Nat
  | [] => 0
  | x :: r => uptoBulkEntry x + uptoBulkEntries r
def uptoBulkEntry {H : Type} : Lit × DataW H → Nat
  | (.string bytes, d) => bytes.length + uptoBulk d + 1
  | (_, d) => uptoBulk d + 1
 end
def uptoSmall : (H : Type) → List (DataW H) → Bool := fun _ ds => decide (uptoBulkAll ds ≤ 1048576)
def OpenSpec.upto (s : _root_.Go.ChangeSpec) : _root_.Go.OpenSpec := { _root_.Go.OpenSpec.ofChange s with cond := some uptoSmall }

/-- 'distillerlaw09.ShapePicks', WHERE WHAT IT READS IS OF BULK AT MOST 1048576: true; the input reads as it did. -/
def shapePicksUptoRow : OpenClaim := { program := "ytilnioloeijfhaa", sum := "5e5a746a5a3b093df4fd1878d1e32ca519cfb7249f89e8096e8438047bc724ee", func := "distiller/distillerlaw09.ShapePicks", spec := "shapePicks", apart := false, narrowed := true }
def ShapePicksUptoSaid : Prop := shapePicksUptoRow.holds Try.pinned (OpenSpec.upto shapePicksSpec)

/-- 'distillerlaw09.ShapeOrder', WHERE WHAT IT READS IS OF BULK AT MOST 1048576: true; the input reads as it did. -/
def shapeOrderUptoRow : OpenClaim := { program := "ytilnioloeijfhaa", sum := "5e5a746a5a3b093df4fd1878d1e32ca519cfb7249f89e8096e8438047bc724ee", func := "distiller/distillerlaw09.ShapeOrder", spec := "shapeOrder", apart := false, narrowed := true }
def ShapeOrderUptoSaid : Prop := shapeOrderUptoRow.holds Try.pinned (OpenSpec.upto shapeOrderSpec)

/-- 'distillerlaw09.ShapeChains', WHERE WHAT IT READS IS OF BULK AT MOST 1048576: true; the input reads as it did. -/
def shapeChainsUptoRow : OpenClaim := { program := "ytilnioloeijfhaa", sum := "5e5a746a5a3b093df4fd1878d1e32ca519cfb7249f89e8096e8438047bc724ee", func := "distiller/distillerlaw09.ShapeChains", spec := "shapeChains", apart := false, narrowed := true }
def ShapeChainsUptoSaid : Prop := shapeChainsUptoRow.holds Try.pinned (OpenSpec.upto shapeChainsSpec)

end Rows
end Go.Proofs.Ytilnioloeijfhaa
