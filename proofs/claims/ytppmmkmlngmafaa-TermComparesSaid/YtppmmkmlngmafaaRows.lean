/-
  NARROWER THAN 'FOR EVERY INPUT', by the rows' own cells (each row's printed sentence says how): TermTells: loops · TermLogic: loops · TermShifts: loops · TermNothing: loops.
  DERIVED. THE GIVEN ROWS OF THIS SEAT. 5 by the template 'for every input the law returns true; each argument reads behind the call as it read before'; 0 by the template 'total and deterministic' (their statements: YtppmmkmlngmafaaTotals.lean).
  GIVEN WITH THE SEED: the statements are not yours to turn. If you find one false, say at which input.
  Laid BY PROGRAM, IN A SANDBOX (cutbox-rows.mjs): the forced cells as the released guide's own fill.sh prints them over the translation 0d3ace31824d3e29… (all of the seat's roots in one cut). By AI agents, Wed Nov 11 2026. No macro, syntax, notation, axiom, sorry.
-/
import Derived.Test.YtppmmkmlngmafaaChecked
import GoSem.Claim
import GoSem.ClaimJoined
import GoSem.ClaimMapViews
import Derived.JoinedTies
import Derived.KernelRfl
namespace Go.Proofs.Ytppmmkmlngmafaa
/- THE CELL 'sum', in the pinned program and in every row, IS THE sha256 OF THE DUMP (.gsa) THAT YtppmmkmlngmafaaProg.lean LOADS. Nothing in Lean hashes anything: it is a label: what it is worth is what the hold of that sum in a sandbox is worth. -/
noncomputable def Try.pinned : Pinned := { name := "ytppmmkmlngmafaa", sum := "0d3ace31824d3e298a23128158748f613a21fbc3b6810ba01053bd5eaa7400b9", checked := Try.checked }
namespace Rows
def none {H : Type} : Left H := { results := [], args := [] }

/-- 'distillerlaw15.TermTells': WHATEVER THE INPUT: true; the input reads as it did. -/
def termTellsSpec : ChangeSpec := { name := "termTells", fn := fun _ => fun
  | [d1, d2, d3] => { results := [.lit (.bool true)], args := [d1, d2, d3] }
  | _ => none }
def termTellsRow : OpenClaim := { program := "ytppmmkmlngmafaa", sum := "0d3ace31824d3e298a23128158748f613a21fbc3b6810ba01053bd5eaa7400b9", func := "distiller/distillerlaw15.TermTells", spec := "termTells", recurses := true, loops := true, apart := false }
def TermTellsSaid : Prop := termTellsRow.holds Try.pinned (OpenSpec.ofChange termTellsSpec)

/-- ITS FALSE NEIGHBOUR: 'it returns false'. Refute it at one input. -/
def termTellsWrong : ChangeSpec := { name := "termTells", fn := fun _ => fun
  | [d1, d2, d3] => { results := [.lit (.bool false)], args := [d1, d2, d3] }
  | _ => none }
def TermTellsWrongFalsely : Prop := termTellsRow.holds Try.pinned (OpenSpec.ofChange termTellsWrong)

/-- 'distillerlaw15.TermLogic': WHATEVER THE INPUT: true; the input reads as it did. -/
def termLogicSpec : ChangeSpec := { name := "termLogic", fn := fun _ => fun
  | [d1, d2, d3] => { results := [.lit (.bool true)], args := [d1, d2, d3] }
  | _ => none }
def termLogicRow : OpenClaim := { program := "ytppmmkmlngmafaa", sum := "0d3ace31824d3e298a23128158748f613a21fbc3b6810ba01053bd5eaa7400b9", func := "distiller/distillerlaw15.TermLogic", spec := "termLogic", recurses := true, loops := true, apart := false }
def TermLogicSaid : Prop := termLogicRow.holds Try.pinned (OpenSpec.ofChange termLogicSpec)

/-- ITS FALSE NEIGHBOUR: 'it returns false'. Refute it at one input. -/
def termLogicWrong : ChangeSpec := { name := "termLogic", fn := fun _ => fun
  | [d1, d2, d3] => { results := [.lit (.bool false)], args := [d1, d2, d3] }
  | _ => none }
def TermLogicWrongFalsely : Prop := termLogicRow.holds Try.pinned (OpenSpec.ofChange termLogicWrong)

/-- 'distillerlaw15.TermCompares': WHATEVER THE INPUT: true; the input reads as it did. -/
def termComparesSpec : ChangeSpec := { name := "termCompares", fn := fun _ => fun
  | [d1, d2] => { results := [.lit (.bool true)], args := [d1, d2] }
  | _ => none }
def termComparesRow : OpenClaim := { program := "ytppmmkmlngmafaa", sum := "0d3ace31824d3e298a23128158748f613a21fbc3b6810ba01053bd5eaa7400b9", func := "distiller/distillerlaw15.TermCompares", spec := "termCompares", recurses := true, apart := false }
def TermComparesSaid : Prop := termComparesRow.holds Try.pinned (OpenSpec.ofChange termComparesSpec)

/-- ITS FALSE NEIGHBOUR: 'it returns false'. Refute it at one input. -/
def termComparesWrong : ChangeSpec := { name := "termCompares", fn := fun _ => fun
  | [d1, d2] => { results := [.lit (.bool false)], args := [d1, d2] }
  | _ => none }
def TermComparesWrongFalsely : Prop := termComparesRow.holds Try.pinned (OpenSpec.ofChange termComparesWrong)

/-- 'distillerlaw15.TermShifts': WHATEVER THE INPUT: true; the input reads as it did. -/
def termShiftsSpec : ChangeSpec := { name := "termShifts", fn := fun _ => fun
  | [d1, d2, d3] => { results := [.lit (.bool true)], args := [d1, d2, d3] }
  | _ => none }
def termShiftsRow : OpenClaim := { program := "ytppmmkmlngmafaa", sum := "0d3ace31824d3e298a23128158748f613a21fbc3b6810ba01053bd5eaa7400b9", func := "distiller/distillerlaw15.TermShifts", spec := "termShifts", recurses := true, loops := true, apart := false }
def TermShiftsSaid : Prop := termShiftsRow.holds Try.pinned (OpenSpec.ofChange termShiftsSpec)

/-- ITS FALSE NEIGHBOUR: 'it returns false'. Refute it at one input. -/
def termShiftsWrong : ChangeSpec := { name := "termShifts", fn := fun _ => fun
  | [d1, d2, d3] => { results := [.lit (.bool false)], args := [d1, d2, d3] }
  | _ => none }
def TermShiftsWrongFalsely : Prop := termShiftsRow.holds Try.pinned (OpenSpec.ofChange termShiftsWrong)

/-- 'distillerlaw15.TermNothing': WHATEVER THE INPUT: true; the input reads as it did. -/
def termNothingSpec : ChangeSpec := { name := "termNothing", fn := fun _ => fun
  | [d1, d2, d3] => { results := [.lit (.bool true)], args := [d1, d2, d3] }
  | _ => none }
def termNothingRow : OpenClaim := { program := "ytppmmkmlngmafaa", sum := "0d3ace31824d3e298a23128158748f613a21fbc3b6810ba01053bd5eaa7400b9", func := "distiller/distillerlaw15.TermNothing", spec := "termNothing", recurses := true, loops := true, apart := false }
def TermNothingSaid : Prop := termNothingRow.holds Try.pinned (OpenSpec.ofChange termNothingSpec)

/-- ITS FALSE NEIGHBOUR: 'it returns false'. Refute it at one input. -/
def termNothingWrong : ChangeSpec := { name := "termNothing", fn := fun _ => fun
  | [d1, d2, d3] => { results := [.lit (.bool false)], args := [d1, d2, d3] }
  | _ => none }
def TermNothingWrongFalsely : Prop := termNothingRow.holds Try.pinned (OpenSpec.ofChange termNothingWrong)

/- THE SECOND FORM. 'bulk': how many values and letters a reading holds, each counted each time it is reached (what is shared counts as often as it is met; a slice's spare places count too). A statement '..UptoSaid' is the law's where the arguments, and the package variables that the reading takes, are together of bulk at most 1048576: NARROWER than '..Said'. Prove '..Said' where nothing that the law and all that it calls make is longer than what came in: it says more and counts as full. Else prove '..UptoSaid'. A law counts once. -/
mutual
def uptoBulk {H : Type} : DataW H → Nat
  | .lit (.string bytes) => bytes.length + 1
  | .lit _ => 1
  | .nil => 1
  | .ptr d => uptoBulk d + 1
  | .slice elems spare => uptoBulkAll elems + uptoBulkAll spare + 1
  | .agg parts => uptoBulkAll parts + 1
  | .iface _ d => uptoBulk d + 1
  | .map entries => uptoBulkEntries entries + 1
  | .held _ => 1
def uptoBulkAll {H : Type} : List (DataW H) → Nat
  | [] => 0
  | d :: r => uptoBulk d + uptoBulkAll r
def uptoBulkEntries {H : Type} : List (Lit × DataW H) → Nat
  | [] => 0
  | x :: r => uptoBulkEntry x + uptoBulkEntries r
def uptoBulkEntry {H : Type} : Lit × DataW H → Nat
  | (.string bytes, d) => bytes.length + uptoBulk d + 1
  | (_, d) => uptoBulk d + 1
 end
def uptoSmall : (H : Type) → List (DataW H) → Bool := fun _ ds => decide (uptoBulkAll ds ≤ 1048576)
def OpenSpec.upto (s : _root_.Go.ChangeSpec) : _root_.Go.OpenSpec := { _root_.Go.OpenSpec.ofChange s with cond := some uptoSmall }

/-- 'distillerlaw15.TermTells', WHERE WHAT IT READS IS OF BULK AT MOST 1048576: true; the input reads as it did. -/
def termTellsUptoRow : OpenClaim := { program := "ytppmmkmlngmafaa", sum := "0d3ace31824d3e298a23128158748f613a21fbc3b6810ba01053bd5eaa7400b9", func := "distiller/distillerlaw15.TermTells", spec := "termTells", recurses := true, loops := true, apart := false, narrowed := true }
def TermTellsUptoSaid : Prop := termTellsUptoRow.holds Try.pinned (OpenSpec.upto termTellsSpec)

/-- 'distillerlaw15.TermLogic', WHERE WHAT IT READS IS OF BULK AT MOST 1048576: true; the input reads as it did. -/
def termLogicUptoRow : OpenClaim := { program := "ytppmmkmlngmafaa", sum := "0d3ace31824d3e298a23128158748f613a21fbc3b6810ba01053bd5eaa7400b9", func := "distiller/distillerlaw15.TermLogic", spec := "termLogic", recurses := true, loops := true, apart := false, narrowed := true }
def TermLogicUptoSaid : Prop := termLogicUptoRow.holds Try.pinned (OpenSpec.upto termLogicSpec)

/-- 'distillerlaw15.TermCompares', WHERE WHAT IT READS IS OF BULK AT MOST 1048576: true; the input reads as it did. -/
def termComparesUptoRow : OpenClaim := { program := "ytppmmkmlngmafaa", sum := "0d3ace31824d3e298a23128158748f613a21fbc3b6810ba01053bd5eaa7400b9", func := "distiller/distillerlaw15.TermCompares", spec := "termCompares", recurses := true, apart := false, narrowed := true }
def TermComparesUptoSaid : Prop := termComparesUptoRow.holds Try.pinned (OpenSpec.upto termComparesSpec)

/-- 'distillerlaw15.TermShifts', WHERE WHAT IT READS IS OF BULK AT MOST 1048576: true; the input reads as it did. -/
def termShiftsUptoRow : OpenClaim := { program := "ytppmmkmlngmafaa", sum := "0d3ace31824d3e298a23128158748f613a21fbc3b6810ba01053bd5eaa7400b9", func := "distiller/distillerlaw15.TermShifts", spec := "termShifts", recurses := true, loops := true, apart := false, narrowed := true }
def TermShiftsUptoSaid : Prop := termShiftsUptoRow.holds Try.pinned (OpenSpec.upto termShiftsSpec)

/-- 'distillerlaw15.TermNothing', WHERE WHAT IT READS IS OF BULK AT MOST 1048576: true; the input reads as it did. -/
def termNothingUptoRow : OpenClaim := { program := "ytppmmkmlngmafaa", sum := "0d3ace31824d3e298a23128158748f613a21fbc3b6810ba01053bd5eaa7400b9", func := "distiller/distillerlaw15.TermNothing", spec := "termNothing", recurses := true, loops := true, apart := false, narrowed := true }
def TermNothingUptoSaid : Prop := termNothingUptoRow.holds Try.pinned (OpenSpec.upto termNothingSpec)

end Rows
end Go.Proofs.Ytppmmkmlngmafaa
