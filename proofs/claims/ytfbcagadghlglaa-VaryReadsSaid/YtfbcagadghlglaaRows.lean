/-
  No cell of these rows narrows 'for every input' (looked for: loops, veiled, ifaces, maps, wideKeys, modest, calm, conditions, laid).
  DERIVED. THE GIVEN ROWS OF THIS SEAT. 5 by the template 'for every input the law returns true; each argument reads behind the call as it read before'; 0 by the template 'total and deterministic' (their statements: YtfbcagadghlglaaTotals.lean).
  GIVEN WITH THE SEED: the statements are not yours to turn. If you find one false, say at which input.
  Laid BY PROGRAM, IN A SANDBOX (cutbox-rows.mjs): the forced cells as the released guide's own fill.sh prints them over the translation b60e5b04f2335a4d… (all of the seat's roots in one cut). By AI agents, Wed Nov 11 2026. No macro, syntax, notation, axiom, sorry.
-/
import Derived.Test.YtfbcagadghlglaaChecked
import GoSem.Claim
import GoSem.ClaimJoined
import GoSem.ClaimMapViews
import Derived.JoinedTies
import Derived.KernelRfl
namespace Go.Proofs.Ytfbcagadghlglaa
/- THE CELL 'sum', in the pinned program and in every row, IS THE sha256 OF THE DUMP (.gsa) THAT YtfbcagadghlglaaProg.lean LOADS. Nothing in Lean hashes anything: it is a label: what it is worth is what the hold of that sum in a sandbox is worth. -/
noncomputable def Try.pinned : Pinned := { name := "ytfbcagadghlglaa", sum := "b60e5b04f2335a4dc654df4fcaf24c4220b55b23606a259ae41032f8fc704bf2", checked := Try.checked }
namespace Rows
def none {H : Type} : Left H := { results := [], args := [] }

/-- 'distillerlaw02.VaryTells': WHATEVER THE INPUT: true; the input reads as it did. -/
def varyTellsSpec : ChangeSpec := { name := "varyTells", fn := fun _ => fun
  | [d1, d2] => { results := [.lit (.bool true)], args := [d1, d2] }
  | _ => none }
def varyTellsRow : OpenClaim := { program := "ytfbcagadghlglaa", sum := "b60e5b04f2335a4dc654df4fcaf24c4220b55b23606a259ae41032f8fc704bf2", func := "distiller/distillerlaw02.VaryTells", spec := "varyTells", apart := false }
def VaryTellsSaid : Prop := varyTellsRow.holds Try.pinned (OpenSpec.ofChange varyTellsSpec)

/-- ITS FALSE NEIGHBOUR: 'it returns false'. Refute it at one input. -/
def varyTellsWrong : ChangeSpec := { name := "varyTells", fn := fun _ => fun
  | [d1, d2] => { results := [.lit (.bool false)], args := [d1, d2] }
  | _ => none }
def VaryTellsWrongFalsely : Prop := varyTellsRow.holds Try.pinned (OpenSpec.ofChange varyTellsWrong)

/-- 'distillerlaw02.VaryReads': WHATEVER THE INPUT: true; the input reads as it did. -/
def varyReadsSpec : ChangeSpec := { name := "varyReads", fn := fun _ => fun
  | [d1, d2] => { results := [.lit (.bool true)], args := [d1, d2] }
  | _ => none }
def varyReadsRow : OpenClaim := { program := "ytfbcagadghlglaa", sum := "b60e5b04f2335a4dc654df4fcaf24c4220b55b23606a259ae41032f8fc704bf2", func := "distiller/distillerlaw02.VaryReads", spec := "varyReads", apart := false }
def VaryReadsSaid : Prop := varyReadsRow.holds Try.pinned (OpenSpec.ofChange varyReadsSpec)

/-- ITS FALSE NEIGHBOUR: 'it returns false'. Refute it at one input. -/
def varyReadsWrong : ChangeSpec := { name := "varyReads", fn := fun _ => fun
  | [d1, d2] => { results := [.lit (.bool false)], args := [d1, d2] }
  | _ => none }
def VaryReadsWrongFalsely : Prop := varyReadsRow.holds Try.pinned (OpenSpec.ofChange varyReadsWrong)

/-- 'distillerlaw02.VaryBack': WHATEVER THE INPUT: true; the input reads as it did. -/
def varyBackSpec : ChangeSpec := { name := "varyBack", fn := fun _ => fun
  | [d1, d2, d3] => { results := [.lit (.bool true)], args := [d1, d2, d3] }
  | _ => none }
def varyBackRow : OpenClaim := { program := "ytfbcagadghlglaa", sum := "b60e5b04f2335a4dc654df4fcaf24c4220b55b23606a259ae41032f8fc704bf2", func := "distiller/distillerlaw02.VaryBack", spec := "varyBack", apart := false }
def VaryBackSaid : Prop := varyBackRow.holds Try.pinned (OpenSpec.ofChange varyBackSpec)

/-- ITS FALSE NEIGHBOUR: 'it returns false'. Refute it at one input. -/
def varyBackWrong : ChangeSpec := { name := "varyBack", fn := fun _ => fun
  | [d1, d2, d3] => { results := [.lit (.bool false)], args := [d1, d2, d3] }
  | _ => none }
def VaryBackWrongFalsely : Prop := varyBackRow.holds Try.pinned (OpenSpec.ofChange varyBackWrong)

/-- 'distillerlaw02.VaryForms': WHATEVER THE INPUT: true; the input reads as it did. -/
def varyFormsSpec : ChangeSpec := { name := "varyForms", fn := fun _ => fun
  | [d] => { results := [.lit (.bool true)], args := [d] }
  | _ => none }
def varyFormsRow : OpenClaim := { program := "ytfbcagadghlglaa", sum := "b60e5b04f2335a4dc654df4fcaf24c4220b55b23606a259ae41032f8fc704bf2", func := "distiller/distillerlaw02.VaryForms", spec := "varyForms", apart := false }
def VaryFormsSaid : Prop := varyFormsRow.holds Try.pinned (OpenSpec.ofChange varyFormsSpec)

/-- ITS FALSE NEIGHBOUR: 'it returns false'. Refute it at one input. -/
def varyFormsWrong : ChangeSpec := { name := "varyForms", fn := fun _ => fun
  | [d] => { results := [.lit (.bool false)], args := [d] }
  | _ => none }
def VaryFormsWrongFalsely : Prop := varyFormsRow.holds Try.pinned (OpenSpec.ofChange varyFormsWrong)

/-- 'distillerlaw02.VaryLong': WHATEVER THE INPUT: true; the input reads as it did. -/
def varyLongSpec : ChangeSpec := { name := "varyLong", fn := fun _ => fun
  | [d1, d2] => { results := [.lit (.bool true)], args := [d1, d2] }
  | _ => none }
def varyLongRow : OpenClaim := { program := "ytfbcagadghlglaa", sum := "b60e5b04f2335a4dc654df4fcaf24c4220b55b23606a259ae41032f8fc704bf2", func := "distiller/distillerlaw02.VaryLong", spec := "varyLong", apart := false }
def VaryLongSaid : Prop := varyLongRow.holds Try.pinned (OpenSpec.ofChange varyLongSpec)

/-- ITS FALSE NEIGHBOUR: 'it returns false'. Refute it at one input. -/
def varyLongWrong : ChangeSpec := { name := "varyLong", fn := fun _ => fun
  | [d1, d2] => { results := [.lit (.bool false)], args := [d1, d2] }
  | _ => none }
def VaryLongWrongFalsely : Prop := varyLongRow.holds Try.pinned (OpenSpec.ofChange varyLongWrong)

/- THE SECOND FORM. 'bulk': how many values and letters a reading holds, each counted each time it is reached (what is shared counts as often as it is met; a slice's spare places count too). A statement '..UptoSaid' is the law's where the arguments, and the package variables that the reading takes, are together of bulk at most 1048576: NARROWER than '..Said'. Prove '..Said' where nothing that the law and all that it calls make is longer than what came in: it says more and counts as full. Else prove '..UptoSaid'. A law counts once. -/
mutual
def uptoBulk {H : Type} : DataW H → Nat
  | .lit (.string bytes) => bytes.length + 1
  | .lit _ => 1
  | .nil => 1
  | .ptr d => uptoBulk d + 1
  | .slice elems spare => uptoBulkAll elems + uptoBulkAll spare + 1
  | .agg parts => uptoBulkAll parts + 1
  | .iface _ d => uptoBulk d + 1
  | .map entries => uptoBulkEntries entries + 1
  | .held _ => 1
def uptoBulkAll {H : Type} : List (DataW H) → Nat
  | [] => 0
  | d :: r => uptoBulk d + uptoBulkAll r
def uptoBulkEntries {H : Type} : List (Lit × DataW H) → Nat
  | [] => 0
  | x :: r => uptoBulkEntry x + uptoBulkEntries r
def uptoBulkEntry {H : Type} : Lit × DataW H → Nat
  | (.string bytes, d) => bytes.length + uptoBulk d + 1
  | (_, d) => uptoBulk d + 1
 end
def uptoSmall : (H : Type) → List (DataW H) → Bool := fun _ ds => decide (uptoBulkAll ds ≤ 1048576)
def OpenSpec.upto (s : _root_.Go.ChangeSpec) : _root_.Go.OpenSpec := { _root_.Go.OpenSpec.ofChange s with cond := some uptoSmall }

/-- 'distillerlaw02.VaryTells', WHERE WHAT IT READS IS OF BULK AT MOST 1048576: true; the input reads as it did. -/
def varyTellsUptoRow : OpenClaim := { program := "ytfbcagadghlglaa", sum := "b60e5b04f2335a4dc654df4fcaf24c4220b55b23606a259ae41032f8fc704bf2", func := "distiller/distillerlaw02.VaryTells", spec := "varyTells", apart := false, narrowed := true }
def VaryTellsUptoSaid : Prop := varyTellsUptoRow.holds Try.pinned (OpenSpec.upto varyTellsSpec)

/-- 'distillerlaw02.VaryReads', WHERE WHAT IT READS IS OF BULK AT MOST 1048576: true; the input reads as it did. -/
def varyReadsUptoRow : OpenClaim := { program := "ytfbcagadghlglaa", sum := "b60e5b04f2335a4dc654df4fcaf24c4220b55b23606a259ae41032f8fc704bf2", func := "distiller/distillerlaw02.VaryReads", spec := "varyReads", apart := false, narrowed := true }
def VaryReadsUptoSaid : Prop := varyReadsUptoRow.holds Try.pinned (OpenSpec.upto varyReadsSpec)

/-- 'distillerlaw02.VaryBack', WHERE WHAT IT READS IS OF BULK AT MOST 1048576: true; the input reads as it did. -/
def varyBackUptoRow : OpenClaim := { program := "ytfbcagadghlglaa", sum := "b60e5b04f2335a4dc654df4fcaf24c4220b55b23606a259ae41032f8fc704bf2", func := "distiller/distillerlaw02.VaryBack", spec := "varyBack", apart := false, narrowed := true }
def VaryBackUptoSaid : Prop := varyBackUptoRow.holds Try.pinned (OpenSpec.upto varyBackSpec)

/-- 'distillerlaw02.VaryForms', WHERE WHAT IT READS IS OF BULK AT MOST 1048576: true; the input reads as it did. -/
def varyFormsUptoRow : OpenClaim := { program := "ytfbcagadghlglaa", sum := "b60e5b04f2335a4dc654df4fcaf24c4220b55b23606a259ae41032f8fc704bf2", func := "distiller/distillerlaw02.VaryForms", spec := "varyForms", apart := false, narrowed := true }
def VaryFormsUptoSaid : Prop := varyFormsUptoRow.holds Try.pinned (OpenSpec.upto varyFormsSpec)

/-- 'distillerlaw02.VaryLong', WHERE WHAT IT READS IS OF BULK AT MOST 1048576: true; the input reads as it did. -/
def varyLongUptoRow : OpenClaim := { program := "ytfbcagadghlglaa", sum := "b60e5b04f2335a4dc654df4fcaf24c4220b55b23606a259ae41032f8fc704bf2", func := "distiller/distillerlaw02.VaryLong", spec := "varyLong", apart := false, narrowed := true }
def VaryLongUptoSaid : Prop := varyLongUptoRow.holds Try.pinned (OpenSpec.upto varyLongSpec)

end Rows
end Go.Proofs.Ytfbcagadghlglaa
