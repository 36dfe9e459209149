/-
  No cell of these rows narrows 'for every input' (looked for: loops, veiled, ifaces, maps, wideKeys, modest, calm, conditions, laid).
  DERIVED. THE GIVEN ROWS OF THIS SEAT. 3 by the template 'for every input the law returns true; each argument reads behind the call as it read before'; 0 by the template 'total and deterministic' (their statements: YtbpigfpkcflbkaaTotals.lean).
  GIVEN WITH THE SEED: the statements are not yours to turn. If you find one false, say at which input.
  Laid BY PROGRAM, IN A SANDBOX (cutbox-rows.mjs): the forced cells as the released guide's own fill.sh prints them over the translation e1067febf94c5d82… (all of the seat's roots in one cut). By AI agents, Wed Nov 11 2026. No macro, syntax, notation, axiom, sorry.
-/
import Derived.Test.YtbpigfpkcflbkaaChecked
import GoSem.Claim
import GoSem.ClaimJoined
import GoSem.ClaimMapViews
import Derived.JoinedTies
import Derived.KernelRfl
namespace Go.Proofs.Ytbpigfpkcflbkaa
/- THE CELL 'sum', in the pinned program and in every row, IS THE sha256 OF THE DUMP (.gsa) THAT YtbpigfpkcflbkaaProg.lean LOADS. Nothing in Lean hashes anything: it is a label: what it is worth is what the hold of that sum in a sandbox is worth. -/
noncomputable def Try.pinned : Pinned := { name := "ytbpigfpkcflbkaa", sum := "e1067febf94c5d82045b677516de2af60678d1a3cd0a11379c23099afd221e86", checked := Try.checked }
namespace Rows
def none {H : Type} : Left H := { results := [], args := [] }

/-- 'distillerlaw06.StepsTells': WHATEVER THE INPUT: true; the input reads as it did. -/
def stepsTellsSpec : ChangeSpec := { name := "stepsTells", fn := fun _ => fun
  | [d1, d2, d3] => { results := [.lit (.bool true)], args := [d1, d2, d3] }
  | _ => none }
def stepsTellsRow : OpenClaim := { program := "ytbpigfpkcflbkaa", sum := "e1067febf94c5d82045b677516de2af60678d1a3cd0a11379c23099afd221e86", func := "distiller/distillerlaw06.StepsTells", spec := "stepsTells", apart := false }
def StepsTellsSaid : Prop := stepsTellsRow.holds Try.pinned (OpenSpec.ofChange stepsTellsSpec)

/-- ITS FALSE NEIGHBOUR: 'it returns false'. Refute it at one input. -/
def stepsTellsWrong : ChangeSpec := { name := "stepsTells", fn := fun _ => fun
  | [d1, d2, d3] => { results := [.lit (.bool false)], args := [d1, d2, d3] }
  | _ => none }
def StepsTellsWrongFalsely : Prop := stepsTellsRow.holds Try.pinned (OpenSpec.ofChange stepsTellsWrong)

/-- 'distillerlaw06.StepsBack': WHATEVER THE INPUT: true; the input reads as it did. -/
def stepsBackSpec : ChangeSpec := { name := "stepsBack", fn := fun _ => fun
  | [d1, d2, d3] => { results := [.lit (.bool true)], args := [d1, d2, d3] }
  | _ => none }
def stepsBackRow : OpenClaim := { program := "ytbpigfpkcflbkaa", sum := "e1067febf94c5d82045b677516de2af60678d1a3cd0a11379c23099afd221e86", func := "distiller/distillerlaw06.StepsBack", spec := "stepsBack", apart := false }
def StepsBackSaid : Prop := stepsBackRow.holds Try.pinned (OpenSpec.ofChange stepsBackSpec)

/-- ITS FALSE NEIGHBOUR: 'it returns false'. Refute it at one input. -/
def stepsBackWrong : ChangeSpec := { name := "stepsBack", fn := fun _ => fun
  | [d1, d2, d3] => { results := [.lit (.bool false)], args := [d1, d2, d3] }
  | _ => none }
def StepsBackWrongFalsely : Prop := stepsBackRow.holds Try.pinned (OpenSpec.ofChange stepsBackWrong)

/-- 'distillerlaw06.StepsApart': WHATEVER THE INPUT: true; the input reads as it did. -/
def stepsApartSpec : ChangeSpec := { name := "stepsApart", fn := fun _ => fun
  | [d1, d2] => { results := [.lit (.bool true)], args := [d1, d2] }
  | _ => none }
def stepsApartRow : OpenClaim := { program := "ytbpigfpkcflbkaa", sum := "e1067febf94c5d82045b677516de2af60678d1a3cd0a11379c23099afd221e86", func := "distiller/distillerlaw06.StepsApart", spec := "stepsApart", apart := false }
def StepsApartSaid : Prop := stepsApartRow.holds Try.pinned (OpenSpec.ofChange stepsApartSpec)

/-- ITS FALSE NEIGHBOUR: 'it returns false'. Refute it at one input. -/
def stepsApartWrong : ChangeSpec := { name := "stepsApart", fn := fun _ => fun
  | [d1, d2] => { results := [.lit (.bool false)], args := [d1, d2] }
  | _ => none }
def StepsApartWrongFalsely : Prop := stepsApartRow.holds Try.pinned (OpenSpec.ofChange stepsApartWrong)

/- THE SECOND FORM. 'bulk': how many values and letters a reading holds, each counted each time it is reached (what is shared counts as often as it is met; a slice's spare places count too). A statement '..UptoSaid' is the law's where the arguments, and the package variables that the reading takes, are together of bulk at most 1048576: NARROWER than '..Said'. Prove '..Said' where nothing that the law and all that it calls make is longer than what came in: it says more and counts as full. Else prove '..UptoSaid'. A law counts once. -/
mutual
def uptoBulk {H : Type} : DataW H → Nat
  | .lit (.string bytes) => bytes.length + 1
  | .lit _ => 1
  | .nil => 1
  | .ptr d => uptoBulk d + 1
  | .slice elems spare => uptoBulkAll elems + uptoBulkAll spare + 1
  | .agg parts => uptoBulkAll parts + 1
  | .iface _ d => uptoBulk d + 1
  | .map entries => uptoBulkEntries entries + 1
  | .held _ => 1
def uptoBulkAll {H : Type} : List (DataW H) → Nat
  | [] => 0
  | d :: r => uptoBulk d + uptoBulkAll r
def uptoBulkEntries {H : Type} : List (Lit × DataW H) → Nat
  | [] => 0
  | x :: r => uptoBulkEntry x + uptoBulkEntries r
def uptoBulkEntry {H : Type} : Lit × DataW H → Nat
  | (.string bytes, d) => bytes.length + uptoBulk d + 1
  | (_, d) => uptoBulk d + 1
 end
def uptoSmall : (H : Type) → List (DataW H) → Bool := fun _ ds => decide (uptoBulkAll ds ≤ 1048576)
def OpenSpec.upto (s : _root_.Go.ChangeSpec) : _root_.Go.OpenSpec := { _root_.Go.OpenSpec.ofChange s with cond := some uptoSmall }

/-- 'distillerlaw06.StepsTells', WHERE WHAT IT READS IS OF BULK AT MOST 1048576: true; the input reads as it did. -/
def stepsTellsUptoRow : OpenClaim := { program := "ytbpigfpkcflbkaa", sum := "e1067febf94c5d82045b677516de2af60678d1a3cd0a11379c23099afd221e86", func := "distiller/distillerlaw06.StepsTells", spec := "stepsTells", apart := false, narrowed := true }
def StepsTellsUptoSaid : Prop := stepsTellsUptoRow.holds Try.pinned (OpenSpec.upto stepsTellsSpec)

/-- 'distillerlaw06.StepsBack', WHERE WHAT IT READS IS OF BULK AT MOST 1048576: true; the input reads as it did. -/
def stepsBackUptoRow : OpenClaim := { program := "ytbpigfpkcflbkaa", sum := "e1067febf94c5d82045b677516de2af60678d1a3cd0a11379c23099afd221e86", func := "distiller/distillerlaw06.StepsBack", spec := "stepsBack", apart := false, narrowed := true }
def StepsBackUptoSaid : Prop := stepsBackUptoRow.holds Try.pinned (OpenSpec.upto stepsBackSpec)

/-- 'distillerlaw06.StepsApart', WHERE WHAT IT READS IS OF BULK AT MOST 1048576: true; the input reads as it did. -/
def stepsApartUptoRow : OpenClaim := { program := "ytbpigfpkcflbkaa", sum := "e1067febf94c5d82045b677516de2af60678d1a3cd0a11379c23099afd221e86", func := "distiller/distillerlaw06.StepsApart", spec := "stepsApart", apart := false, narrowed := true }
def StepsApartUptoSaid : Prop := stepsApartUptoRow.holds Try.pinned (OpenSpec.upto stepsApartSpec)

end Rows
end Go.Proofs.Ytbpigfpkcflbkaa
