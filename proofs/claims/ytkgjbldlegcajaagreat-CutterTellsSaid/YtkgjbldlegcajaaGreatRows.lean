/-
  No cell of these rows narrows 'for every input' (looked for: loops, veiled, ifaces, maps, wideKeys, modest, calm, conditions, laid).
  DERIVED. THE GIVEN ROWS OF THIS SEAT. 6 by the template 'for every input the law returns true; each argument reads behind the call as it read before'; 0 by the template 'total and deterministic' (their statements: YtkgjbldlegcajaaGreatTotals.lean).
  GIVEN WITH THE SEED: the statements are not yours to turn. If you find one false, say at which input.
  Laid BY PROGRAM, IN A SANDBOX (cutbox-rows.mjs): the forced cells as the released guide's own fill.sh prints them over the translation 66d6821c5e261c7e… (all of the seat's roots in one cut). By AI agents, Wed Nov 11 2026. No macro, syntax, notation, axiom, sorry.
-/
import Derived.Test.YtkgjbldlegcajaaGreatChecked
import GoSem.Claim
import GoSem.ClaimJoined
import GoSem.ClaimMapViews
import Derived.JoinedTies
import Derived.KernelRfl
namespace Go.Proofs.YtkgjbldlegcajaaGreat
/- THE CELL 'sum', in the pinned program and in every row, IS THE sha256 OF THE DUMP (.gsa) THAT YtkgjbldlegcajaaGreatProg.lean LOADS. Nothing in Lean hashes anything: it is a label: what it is worth is what the hold of that sum in a sandbox is worth. -/
noncomputable def Tryz.pinned : Pinned := { name := "ytkgjbldlegcajaagreat", sum := "66d6821c5e261c7e33bfb608f0b934ed129cfd0d4b56aec1572a35ed5663ab3a", checked := Tryz.checked }
namespace Rows
def none {H : Type} : Left H := { results := [], args := [] }

/-- 'distillerlaw13.CutterTells': WHATEVER THE INPUT: true; the input reads as it did. -/
def cutterTellsSpec : ChangeSpec := { name := "cutterTells", fn := fun _ => fun
  | [d1, d2] => { results := [.lit (.bool true)], args := [d1, d2] }
  | _ => none }
def cutterTellsRow : OpenClaim := { program := "ytkgjbldlegcajaagreat", sum := "66d6821c5e261c7e33bfb608f0b934ed129cfd0d4b56aec1572a35ed5663ab3a", func := "distiller/distillerlaw13.CutterTells", spec := "cutterTells", unfollowed := true, recurses := true, apart := false }
def CutterTellsSaid : Prop := cutterTellsRow.holds Tryz.pinned (OpenSpec.ofChange cutterTellsSpec)

/-- ITS FALSE NEIGHBOUR: 'it returns false'. Refute it at one input. -/
def cutterTellsWrong : ChangeSpec := { name := "cutterTells", fn := fun _ => fun
  | [d1, d2] => { results := [.lit (.bool false)], args := [d1, d2] }
  | _ => none }
def CutterTellsWrongFalsely : Prop := cutterTellsRow.holds Tryz.pinned (OpenSpec.ofChange cutterTellsWrong)

/-- 'distillerlaw13.CutterChanges': WHATEVER THE INPUT: true; the input reads as it did. -/
def cutterChangesSpec : ChangeSpec := { name := "cutterChanges", fn := fun _ => fun
  | [d1, d2, d3] => { results := [.lit (.bool true)], args := [d1, d2, d3] }
  | _ => none }
def cutterChangesRow : OpenClaim := { program := "ytkgjbldlegcajaagreat", sum := "66d6821c5e261c7e33bfb608f0b934ed129cfd0d4b56aec1572a35ed5663ab3a", func := "distiller/distillerlaw13.CutterChanges", spec := "cutterChanges", unfollowed := true, recurses := true, apart := false }
def CutterChangesSaid : Prop := cutterChangesRow.holds Tryz.pinned (OpenSpec.ofChange cutterChangesSpec)

/-- ITS FALSE NEIGHBOUR: 'it returns false'. Refute it at one input. -/
def cutterChangesWrong : ChangeSpec := { name := "cutterChanges", fn := fun _ => fun
  | [d1, d2, d3] => { results := [.lit (.bool false)], args := [d1, d2, d3] }
  | _ => none }
def CutterChangesWrongFalsely : Prop := cutterChangesRow.holds Tryz.pinned (OpenSpec.ofChange cutterChangesWrong)

/-- 'distillerlaw13.CutterAnew': WHATEVER THE INPUT: true; the input reads as it did. -/
def cutterAnewSpec : ChangeSpec := { name := "cutterAnew", fn := fun _ => fun
  | [d1, d2, d3] => { results := [.lit (.bool true)], args := [d1, d2, d3] }
  | _ => none }
def cutterAnewRow : OpenClaim := { program := "ytkgjbldlegcajaagreat", sum := "66d6821c5e261c7e33bfb608f0b934ed129cfd0d4b56aec1572a35ed5663ab3a", func := "distiller/distillerlaw13.CutterAnew", spec := "cutterAnew", unfollowed := true, recurses := true, apart := false }
def CutterAnewSaid : Prop := cutterAnewRow.holds Tryz.pinned (OpenSpec.ofChange cutterAnewSpec)

/-- ITS FALSE NEIGHBOUR: 'it returns false'. Refute it at one input. -/
def cutterAnewWrong : ChangeSpec := { name := "cutterAnew", fn := fun _ => fun
  | [d1, d2, d3] => { results := [.lit (.bool false)], args := [d1, d2, d3] }
  | _ => none }
def CutterAnewWrongFalsely : Prop := cutterAnewRow.holds Tryz.pinned (OpenSpec.ofChange cutterAnewWrong)

/-- 'distillerlaw13.CutterFew': WHATEVER THE INPUT: true; the input reads as it did. -/
def cutterFewSpec : ChangeSpec := { name := "cutterFew", fn := fun _ => fun
  | [d1, d2, d3] => { results := [.lit (.bool true)], args := [d1, d2, d3] }
  | _ => none }
def cutterFewRow : OpenClaim := { program := "ytkgjbldlegcajaagreat", sum := "66d6821c5e261c7e33bfb608f0b934ed129cfd0d4b56aec1572a35ed5663ab3a", func := "distiller/distillerlaw13.CutterFew", spec := "cutterFew", unfollowed := true, recurses := true, apart := false }
def CutterFewSaid : Prop := cutterFewRow.holds Tryz.pinned (OpenSpec.ofChange cutterFewSpec)

/-- ITS FALSE NEIGHBOUR: 'it returns false'. Refute it at one input. -/
def cutterFewWrong : ChangeSpec := { name := "cutterFew", fn := fun _ => fun
  | [d1, d2, d3] => { results := [.lit (.bool false)], args := [d1, d2, d3] }
  | _ => none }
def CutterFewWrongFalsely : Prop := cutterFewRow.holds Tryz.pinned (OpenSpec.ofChange cutterFewWrong)

/-- 'distillerlaw13.CutterPieces': WHATEVER THE INPUT: true; the input reads as it did. -/
def cutterPiecesSpec : ChangeSpec := { name := "cutterPieces", fn := fun _ => fun
  | [d1, d2] => { results := [.lit (.bool true)], args := [d1, d2] }
  | _ => none }
def cutterPiecesRow : OpenClaim := { program := "ytkgjbldlegcajaagreat", sum := "66d6821c5e261c7e33bfb608f0b934ed129cfd0d4b56aec1572a35ed5663ab3a", func := "distiller/distillerlaw13.CutterPieces", spec := "cutterPieces", unfollowed := true, recurses := true, apart := false }
def CutterPiecesSaid : Prop := cutterPiecesRow.holds Tryz.pinned (OpenSpec.ofChange cutterPiecesSpec)

/-- ITS FALSE NEIGHBOUR: 'it returns false'. Refute it at one input. -/
def cutterPiecesWrong : ChangeSpec := { name := "cutterPieces", fn := fun _ => fun
  | [d1, d2] => { results := [.lit (.bool false)], args := [d1, d2] }
  | _ => none }
def CutterPiecesWrongFalsely : Prop := cutterPiecesRow.holds Tryz.pinned (OpenSpec.ofChange cutterPiecesWrong)

/-- 'distillerlaw13.CutterOnce': WHATEVER THE INPUT: true; the input reads as it did. -/
def cutterOnceSpec : ChangeSpec := { name := "cutterOnce", fn := fun _ => fun
  | [d1, d2, d3] => { results := [.lit (.bool true)], args := [d1, d2, d3] }
  | _ => none }
def cutterOnceRow : OpenClaim := { program := "ytkgjbldlegcajaagreat", sum := "66d6821c5e261c7e33bfb608f0b934ed129cfd0d4b56aec1572a35ed5663ab3a", func := "distiller/distillerlaw13.CutterOnce", spec := "cutterOnce", unfollowed := true, recurses := true, apart := false }
def CutterOnceSaid : Prop := cutterOnceRow.holds Tryz.pinned (OpenSpec.ofChange cutterOnceSpec)

/-- ITS FALSE NEIGHBOUR: 'it returns false'. Refute it at one input. -/
def cutterOnceWrong : ChangeSpec := { name := "cutterOnce", fn := fun _ => fun
  | [d1, d2, d3] => { results := [.lit (.bool false)], args := [d1, d2, d3] }
  | _ => none }
def CutterOnceWrongFalsely : Prop := cutterOnceRow.holds Tryz.pinned (OpenSpec.ofChange cutterOnceWrong)

/- THE SECOND FORM. 'bulk': how many values and letters a reading holds, each counted each time it is reached (what is shared counts as often as it is met; a slice's spare places count too). A statement '..UptoSaid' is the law's where the arguments, and the package variables that the reading takes, are together of bulk at most 1048576: NARROWER than '..Said'. Prove '..Said' where nothing that the law and all that it calls make is longer than what came in: it says more and counts as full. Else prove '..UptoSaid'. A law counts once. -/
mutual
def uptoBulk {H : Type} : DataW H → Nat
  | .lit (.string bytes) => bytes.length + 1
  | .lit _ => 1
  | .nil => 1
  | .ptr d => uptoBulk d + 1
  | .slice elems spare => uptoBulkAll elems + uptoBulkAll spare + 1
  | .agg parts => uptoBulkAll parts + 1
  | .iface _ d => uptoBulk d + 1
  | .map entries => uptoBulkEntries entries + 1
  | .held _ => 1
def uptoBulkAll {H : Type} : List (DataW H) → Nat
  | [] => 0
  | d :: r => uptoBulk d + uptoBulkAll r
def uptoBulkEntries {H : Type} : List (Lit × DataW H) → Nat
  | [] => 0
  | x :: r => uptoBulkEntry x + uptoBulkEntries r
def uptoBulkEntry {H : Type} : Lit × DataW H → Nat
  | (.string bytes, d) => bytes.length + uptoBulk d + 1
  | (_, d) => uptoBulk d + 1
 end
def uptoSmall : (H : Type) → List (DataW H) → Bool := fun _ ds => decide (uptoBulkAll ds ≤ 1048576)
def OpenSpec.upto (s : _root_.Go.ChangeSpec) : _root_.Go.OpenSpec := { _root_.Go.OpenSpec.ofChange s with cond := some uptoSmall }

/-- 'distillerlaw13.CutterTells', WHERE WHAT IT READS IS OF BULK AT MOST 1048576: true; the input reads as it did. -/
def cutterTellsUptoRow : OpenClaim := { program := "ytkgjbldlegcajaagreat", sum := "66d6821c5e261c7e33bfb608f0b934ed129cfd0d4b56aec1572a35ed5663ab3a", func := "distiller/distillerlaw13.CutterTells", spec := "cutterTells", unfollowed := true, recurses := true, apart := false, narrowed := true }
def CutterTellsUptoSaid : Prop := cutterTellsUptoRow.holds Tryz.pinned (OpenSpec.upto cutterTellsSpec)

/-- 'distillerlaw13.CutterChanges', WHERE WHAT IT READS IS OF BULK AT MOST 1048576: true; the input reads as it did. -/
def cutterChangesUptoRow : OpenClaim := { program := "ytkgjbldlegcajaagreat", sum := "66d6821c5e261c7e33bfb608f0b934ed129cfd0d4b56aec1572a35ed5663ab3a", func := "distiller/distillerlaw13.CutterChanges", spec := "cutterChanges", unfollowed := true, recurses := true, apart := false, narrowed := true }
def CutterChangesUptoSaid : Prop := cutterChangesUptoRow.holds Tryz.pinned (OpenSpec.upto cutterChangesSpec)

/-- 'distillerlaw13.CutterAnew', WHERE WHAT IT READS IS OF BULK AT MOST 1048576: true; the input reads as it did. -/
def cutterAnewUptoRow : OpenClaim := { program := "ytkgjbldlegcajaagreat", sum := "66d6821c5e261c7e33bfb608f0b934ed129cfd0d4b56aec1572a35ed5663ab3a", func := "distiller/distillerlaw13.CutterAnew", spec := "cutterAnew", unfollowed := true, recurses := true, apart := false, narrowed := true }
def CutterAnewUptoSaid : Prop := cutterAnewUptoRow.holds Tryz.pinned (OpenSpec.upto cutterAnewSpec)

/-- 'distillerlaw13.CutterFew', WHERE WHAT IT READS IS OF BULK AT MOST 1048576: true; the input reads as it did. -/
def cutterFewUptoRow : OpenClaim := { program := "ytkgjbldlegcajaagreat", sum := "66d6821c5e261c7e33bfb608f0b934ed129cfd0d4b56aec1572a35ed5663ab3a", func := "distiller/distillerlaw13.CutterFew", spec := "cutterFew", unfollowed := true, recurses := true, apart := false, narrowed := true }
def CutterFewUptoSaid : Prop := cutterFewUptoRow.holds Tryz.pinned (OpenSpec.upto cutterFewSpec)

/-- 'distillerlaw13.CutterPieces', WHERE WHAT IT READS IS OF BULK AT MOST 1048576: true; the input reads as it did. -/
def cutterPiecesUptoRow : OpenClaim := { program := "ytkgjbldlegcajaagreat", sum := "66d6821c5e261c7e33bfb608f0b934ed129cfd0d4b56aec1572a35ed5663ab3a", func := "distiller/distillerlaw13.CutterPieces", spec := "cutterPieces", unfollowed := true, recurses := true, apart := false, narrowed := true }
def CutterPiecesUptoSaid : Prop := cutterPiecesUptoRow.holds Tryz.pinned (OpenSpec.upto cutterPiecesSpec)

/-- 'distillerlaw13.CutterOnce', WHERE WHAT IT READS IS OF BULK AT MOST 1048576: true; the input reads as it did. -/
def cutterOnceUptoRow : OpenClaim := { program := "ytkgjbldlegcajaagreat", sum := "66d6821c5e261c7e33bfb608f0b934ed129cfd0d4b56aec1572a35ed5663ab3a", func := "distiller/distillerlaw13.CutterOnce", spec := "cutterOnce", unfollowed := true, recurses := true, apart := false, narrowed := true }
def CutterOnceUptoSaid : Prop := cutterOnceUptoRow.holds Tryz.pinned (OpenSpec.upto cutterOnceSpec)

end Rows
end Go.Proofs.YtkgjbldlegcajaaGreat
