/-
  No cell of these rows narrows 'for every input' (looked for: loops, veiled, ifaces, maps, wideKeys, modest, calm, conditions, laid).
  DERIVED. THE GIVEN ROWS OF THIS SEAT. 4 by the template 'for every input the law returns true; each argument reads behind the call as it read before'; 0 by the template 'total and deterministic' (their statements: YtclkkffeaabloaaTotals.lean).
  GIVEN WITH THE SEED: the statements are not yours to turn. If you find one false, say at which input.
  Laid BY PROGRAM, IN A SANDBOX (cutbox-rows.mjs): the forced cells as the released guide's own fill.sh prints them over the translation cb6debad2e8ed838… (all of the seat's roots in one cut). By AI agents, Wed Nov 11 2026. No macro, syntax, notation, axiom, sorry.
-/
import Derived.Test.YtclkkffeaabloaaChecked
import GoSem.Claim
import GoSem.ClaimJoined
import GoSem.ClaimMapViews
import Derived.JoinedTies
import Derived.KernelRfl
namespace Go.Proofs.Ytclkkffeaabloaa
/- THE CELL 'sum', in the pinned program and in every row, IS THE sha256 OF THE DUMP (.gsa) THAT YtclkkffeaabloaaProg.lean LOADS. Nothing in Lean hashes anything: it is a label: what it is worth is what the hold of that sum in a sandbox is worth. -/
noncomputable def Try.pinned : Pinned := { name := "ytclkkffeaabloaa", sum := "cb6debad2e8ed83863a20e9188c77c71c0bb5655e7eca34833c12f6756443f08", checked := Try.checked }
namespace Rows
def none {H : Type} : Left H := { results := [], args := [] }

/-- 'distillerlaw07.GapsTells': WHATEVER THE INPUT: true; the input reads as it did. -/
def gapsTellsSpec : ChangeSpec := { name := "gapsTells", fn := fun _ => fun
  | [d1, d2] => { results := [.lit (.bool true)], args := [d1, d2] }
  | _ => none }
def gapsTellsRow : OpenClaim := { program := "ytclkkffeaabloaa", sum := "cb6debad2e8ed83863a20e9188c77c71c0bb5655e7eca34833c12f6756443f08", func := "distiller/distillerlaw07.GapsTells", spec := "gapsTells", apart := false }
def GapsTellsSaid : Prop := gapsTellsRow.holds Try.pinned (OpenSpec.ofChange gapsTellsSpec)

/-- ITS FALSE NEIGHBOUR: 'it returns false'. Refute it at one input. -/
def gapsTellsWrong : ChangeSpec := { name := "gapsTells", fn := fun _ => fun
  | [d1, d2] => { results := [.lit (.bool false)], args := [d1, d2] }
  | _ => none }
def GapsTellsWrongFalsely : Prop := gapsTellsRow.holds Try.pinned (OpenSpec.ofChange gapsTellsWrong)

/-- 'distillerlaw07.GapsReads': WHATEVER THE INPUT: true; the input reads as it did. -/
def gapsReadsSpec : ChangeSpec := { name := "gapsReads", fn := fun _ => fun
  | [d1, d2] => { results := [.lit (.bool true)], args := [d1, d2] }
  | _ => none }
def gapsReadsRow : OpenClaim := { program := "ytclkkffeaabloaa", sum := "cb6debad2e8ed83863a20e9188c77c71c0bb5655e7eca34833c12f6756443f08", func := "distiller/distillerlaw07.GapsReads", spec := "gapsReads", apart := false }
def GapsReadsSaid : Prop := gapsReadsRow.holds Try.pinned (OpenSpec.ofChange gapsReadsSpec)

/-- ITS FALSE NEIGHBOUR: 'it returns false'. Refute it at one input. -/
def gapsReadsWrong : ChangeSpec := { name := "gapsReads", fn := fun _ => fun
  | [d1, d2] => { results := [.lit (.bool false)], args := [d1, d2] }
  | _ => none }
def GapsReadsWrongFalsely : Prop := gapsReadsRow.holds Try.pinned (OpenSpec.ofChange gapsReadsWrong)

/-- 'distillerlaw07.GapsBack': WHATEVER THE INPUT: true; the input reads as it did. -/
def gapsBackSpec : ChangeSpec := { name := "gapsBack", fn := fun _ => fun
  | [d1, d2] => { results := [.lit (.bool true)], args := [d1, d2] }
  | _ => none }
def gapsBackRow : OpenClaim := { program := "ytclkkffeaabloaa", sum := "cb6debad2e8ed83863a20e9188c77c71c0bb5655e7eca34833c12f6756443f08", func := "distiller/distillerlaw07.GapsBack", spec := "gapsBack", apart := false }
def GapsBackSaid : Prop := gapsBackRow.holds Try.pinned (OpenSpec.ofChange gapsBackSpec)

/-- ITS FALSE NEIGHBOUR: 'it returns false'. Refute it at one input. -/
def gapsBackWrong : ChangeSpec := { name := "gapsBack", fn := fun _ => fun
  | [d1, d2] => { results := [.lit (.bool false)], args := [d1, d2] }
  | _ => none }
def GapsBackWrongFalsely : Prop := gapsBackRow.holds Try.pinned (OpenSpec.ofChange gapsBackWrong)

/-- 'distillerlaw07.GapsCount': WHATEVER THE INPUT: true; the input reads as it did. -/
def gapsCountSpec : ChangeSpec := { name := "gapsCount", fn := fun _ => fun
  | [d1, d2, d3] => { results := [.lit (.bool true)], args := [d1, d2, d3] }
  | _ => none }
def gapsCountRow : OpenClaim := { program := "ytclkkffeaabloaa", sum := "cb6debad2e8ed83863a20e9188c77c71c0bb5655e7eca34833c12f6756443f08", func := "distiller/distillerlaw07.GapsCount", spec := "gapsCount", apart := false }
def GapsCountSaid : Prop := gapsCountRow.holds Try.pinned (OpenSpec.ofChange gapsCountSpec)

/-- ITS FALSE NEIGHBOUR: 'it returns false'. Refute it at one input. -/
def gapsCountWrong : ChangeSpec := { name := "gapsCount", fn := fun _ => fun
  | [d1, d2, d3] => { results := [.lit (.bool false)], args := [d1, d2, d3] }
  | _ => none }
def GapsCountWrongFalsely : Prop := gapsCountRow.holds Try.pinned (OpenSpec.ofChange gapsCountWrong)

/- THE SECOND FORM. 'bulk': how many values and letters a reading holds, each counted each time it is reached (what is shared counts as often as it is met; a slice's spare places count too). A statement '..UptoSaid' is the law's where the arguments, and the package variables that the reading takes, are together of bulk at most 1048576: NARROWER than '..Said'. Prove '..Said' where nothing that the law and all that it calls make is longer than what came in: it says more and counts as full. Else prove '..UptoSaid'. A law counts once. -/
mutual
def uptoBulk {H : Type} : DataW H → Nat
  | .lit (.string bytes) => bytes.length + 1
  | .lit _ => 1
  | .nil => 1
  | .ptr d => uptoBulk d + 1
  | .slice elems spare => uptoBulkAll elems + uptoBulkAll spare + 1
  | .agg parts => uptoBulkAll parts + 1
  | .iface _ d => uptoBulk d + 1
  | .map entries => uptoBulkEntries entries + 1
  | .held _ => 1
def uptoBulkAll {H : Type} : List (DataW H) → Nat
  | [] => 0
  | d :: r => uptoBulk d + uptoBulkAll r
def uptoBulkEntries {H : Type} : List (Lit × DataW H) → Nat
  | [] => 0
  | x :: r => uptoBulkEntry x + uptoBulkEntries r
def uptoBulkEntry {H : Type} : Lit × DataW H → Nat
  | (.string bytes, d) => bytes.length + uptoBulk d + 1
  | (_, d) => uptoBulk d + 1
 end
def uptoSmall : (H : Type) → List (DataW H) → Bool := fun _ ds => decide (uptoBulkAll ds ≤ 1048576)
def OpenSpec.upto (s : _root_.Go.ChangeSpec) : _root_.Go.OpenSpec := { _root_.Go.OpenSpec.ofChange s with cond := some uptoSmall }

/-- 'distillerlaw07.GapsTells', WHERE WHAT IT READS IS OF BULK AT MOST 1048576: true; the input reads as it did. -/
def gapsTellsUptoRow : OpenClaim := { program := "ytclkkffeaabloaa", sum := "cb6debad2e8ed83863a20e9188c77c71c0bb5655e7eca34833c12f6756443f08", func := "distiller/distillerlaw07.GapsTells", spec := "gapsTells", apart := false, narrowed := true }
def GapsTellsUptoSaid : Prop := gapsTellsUptoRow.holds Try.pinned (OpenSpec.upto gapsTellsSpec)

/-- 'distillerlaw07.GapsReads', WHERE WHAT IT READS IS OF BULK AT MOST 1048576: true; the input reads as it did. -/
def gapsReadsUptoRow : OpenClaim := { program := "ytclkkffeaabloaa", sum := "cb6debad2e8ed83863a20e9188c77c71c0bb5655e7eca34833c12f6756443f08", func := "distiller/distillerlaw07.GapsReads", spec := "gapsReads", apart := false, narrowed := true }
def GapsReadsUptoSaid : Prop := gapsReadsUptoRow.holds Try.pinned (OpenSpec.upto gapsReadsSpec)

/-- 'distillerlaw07.GapsBack', WHERE WHAT IT READS IS OF BULK AT MOST 1048576: true; the input reads as it did. -/
def gapsBackUptoRow : OpenClaim := { program := "ytclkkffeaabloaa", sum := "cb6debad2e8ed83863a20e9188c77c71c0bb5655e7eca34833c12f6756443f08", func := "distiller/distillerlaw07.GapsBack", spec := "gapsBack", apart := false, narrowed := true }
def GapsBackUptoSaid : Prop := gapsBackUptoRow.holds Try.pinned (OpenSpec.upto gapsBackSpec)

/-- 'distillerlaw07.GapsCount', WHERE WHAT IT READS IS OF BULK AT MOST 1048576: true; the input reads as it did. -/
def gapsCountUptoRow : OpenClaim := { program := "ytclkkffeaabloaa", sum := "cb6debad2e8ed83863a20e9188c77c71c0bb5655e7eca34833c12f6756443f08", func := "distiller/distillerlaw07.GapsCount", spec := "gapsCount", apart := false, narrowed := true }
def GapsCountUptoSaid : Prop := gapsCountUptoRow.holds Try.pinned (OpenSpec.upto gapsCountSpec)

end Rows
end Go.Proofs.Ytclkkffeaabloaa
