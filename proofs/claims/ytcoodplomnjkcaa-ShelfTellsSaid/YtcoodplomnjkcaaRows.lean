/-
  No cell of these rows narrows 'for every input' (looked for: loops, veiled, ifaces, maps, wideKeys, modest, calm, conditions, laid).
  DERIVED. THE GIVEN ROWS OF THIS SEAT. 5 by the template 'for every input the law returns true; each argument reads behind the call as it read before'; 0 by the template 'total and deterministic' (their statements: YtcoodplomnjkcaaTotals.lean).
  GIVEN WITH THE SEED: the statements are not yours to turn. If you find one false, say at which input.
  Laid BY PROGRAM, IN A SANDBOX (cutbox-rows.mjs): the forced cells as the released guide's own fill.sh prints them over the translation 27210b94594f6fa7… (all of the seat's roots in one cut). By AI agents, Wed Nov 11 2026. No macro, syntax, notation, axiom, sorry.
-/
import Derived.Test.YtcoodplomnjkcaaChecked
import GoSem.Claim
import GoSem.ClaimJoined
import GoSem.ClaimMapViews
import Derived.JoinedTies
import Derived.KernelRfl
namespace Go.Proofs.Ytcoodplomnjkcaa
/- THE CELL 'sum', in the pinned program and in every row, IS THE sha256 OF THE DUMP (.gsa) THAT YtcoodplomnjkcaaProg.lean LOADS. Nothing in Lean hashes anything: it is a label: what it is worth is what the hold of that sum in a sandbox is worth. -/
noncomputable def Try.pinned : Pinned := { name := "ytcoodplomnjkcaa", sum := "27210b94594f6fa7797d5e43cf8ec67c2c79059563b411f7419caafe5086072d", checked := Try.checked }
namespace Rows
def none {H : Type} : Left H := { results := [], args := [] }

/-- 'distillerlaw03.ShelfTells': WHATEVER THE INPUT: true; the input reads as it did. -/
def shelfTellsSpec : ChangeSpec := { name := "shelfTells", fn := fun _ => fun
  | [d] => { results := [.lit (.bool true)], args := [d] }
  | _ => none }
def shelfTellsRow : OpenClaim := { program := "ytcoodplomnjkcaa", sum := "27210b94594f6fa7797d5e43cf8ec67c2c79059563b411f7419caafe5086072d", func := "distiller/distillerlaw03.ShelfTells", spec := "shelfTells", apart := false }
def ShelfTellsSaid : Prop := shelfTellsRow.holds Try.pinned (OpenSpec.ofChange shelfTellsSpec)

/-- ITS FALSE NEIGHBOUR: 'it returns false'. Refute it at one input. -/
def shelfTellsWrong : ChangeSpec := { name := "shelfTells", fn := fun _ => fun
  | [d] => { results := [.lit (.bool false)], args := [d] }
  | _ => none }
def ShelfTellsWrongFalsely : Prop := shelfTellsRow.holds Try.pinned (OpenSpec.ofChange shelfTellsWrong)

/-- 'distillerlaw03.ShelfReads': WHATEVER THE INPUT: true; the input reads as it did. -/
def shelfReadsSpec : ChangeSpec := { name := "shelfReads", fn := fun _ => fun
  | [d1, d2] => { results := [.lit (.bool true)], args := [d1, d2] }
  | _ => none }
def shelfReadsRow : OpenClaim := { program := "ytcoodplomnjkcaa", sum := "27210b94594f6fa7797d5e43cf8ec67c2c79059563b411f7419caafe5086072d", func := "distiller/distillerlaw03.ShelfReads", spec := "shelfReads", apart := false }
def ShelfReadsSaid : Prop := shelfReadsRow.holds Try.pinned (OpenSpec.ofChange shelfReadsSpec)

/-- ITS FALSE NEIGHBOUR: 'it returns false'. Refute it at one input. -/
def shelfReadsWrong : ChangeSpec := { name := "shelfReads", fn := fun _ => fun
  | [d1, d2] => { results := [.lit (.bool false)], args := [d1, d2] }
  | _ => none }
def ShelfReadsWrongFalsely : Prop := shelfReadsRow.holds Try.pinned (OpenSpec.ofChange shelfReadsWrong)

/-- 'distillerlaw03.ShelfBack': WHATEVER THE INPUT: true; the input reads as it did. -/
def shelfBackSpec : ChangeSpec := { name := "shelfBack", fn := fun _ => fun
  | [d1, d2, d3] => { results := [.lit (.bool true)], args := [d1, d2, d3] }
  | _ => none }
def shelfBackRow : OpenClaim := { program := "ytcoodplomnjkcaa", sum := "27210b94594f6fa7797d5e43cf8ec67c2c79059563b411f7419caafe5086072d", func := "distiller/distillerlaw03.ShelfBack", spec := "shelfBack", apart := false }
def ShelfBackSaid : Prop := shelfBackRow.holds Try.pinned (OpenSpec.ofChange shelfBackSpec)

/-- ITS FALSE NEIGHBOUR: 'it returns false'. Refute it at one input. -/
def shelfBackWrong : ChangeSpec := { name := "shelfBack", fn := fun _ => fun
  | [d1, d2, d3] => { results := [.lit (.bool false)], args := [d1, d2, d3] }
  | _ => none }
def ShelfBackWrongFalsely : Prop := shelfBackRow.holds Try.pinned (OpenSpec.ofChange shelfBackWrong)

/-- 'distillerlaw03.ShelfFew': WHATEVER THE INPUT: true; the input reads as it did. -/
def shelfFewSpec : ChangeSpec := { name := "shelfFew", fn := fun _ => fun
  | [d] => { results := [.lit (.bool true)], args := [d] }
  | _ => none }
def shelfFewRow : OpenClaim := { program := "ytcoodplomnjkcaa", sum := "27210b94594f6fa7797d5e43cf8ec67c2c79059563b411f7419caafe5086072d", func := "distiller/distillerlaw03.ShelfFew", spec := "shelfFew", apart := false }
def ShelfFewSaid : Prop := shelfFewRow.holds Try.pinned (OpenSpec.ofChange shelfFewSpec)

/-- ITS FALSE NEIGHBOUR: 'it returns false'. Refute it at one input. -/
def shelfFewWrong : ChangeSpec := { name := "shelfFew", fn := fun _ => fun
  | [d] => { results := [.lit (.bool false)], args := [d] }
  | _ => none }
def ShelfFewWrongFalsely : Prop := shelfFewRow.holds Try.pinned (OpenSpec.ofChange shelfFewWrong)

/-- 'distillerlaw03.ShelfApart': WHATEVER THE INPUT: true; the input reads as it did. -/
def shelfApartSpec : ChangeSpec := { name := "shelfApart", fn := fun _ => fun
  | [d1, d2, d3] => { results := [.lit (.bool true)], args := [d1, d2, d3] }
  | _ => none }
def shelfApartRow : OpenClaim := { program := "ytcoodplomnjkcaa", sum := "27210b94594f6fa7797d5e43cf8ec67c2c79059563b411f7419caafe5086072d", func := "distiller/distillerlaw03.ShelfApart", spec := "shelfApart", apart := false }
def ShelfApartSaid : Prop := shelfApartRow.holds Try.pinned (OpenSpec.ofChange shelfApartSpec)

/-- ITS FALSE NEIGHBOUR: 'it returns false'. Refute it at one input. -/
def shelfApartWrong : ChangeSpec := { name := "shelfApart", fn := fun _ => fun
  | [d1, d2, d3] => { results := [.lit (.bool false)], args := [d1, d2, d3] }
  | _ => none }
def ShelfApartWrongFalsely : Prop := shelfApartRow.holds Try.pinned (OpenSpec.ofChange shelfApartWrong)

/- THE SECOND FORM. 'bulk': how many values and letters a reading holds, each counted each time it is reached (what is shared counts as often as it is met; a slice's spare places count too). A statement '..UptoSaid' is the law's where the arguments, and the package variables that the reading takes, are together of bulk at most 1048576: NARROWER than '..Said'. Prove '..Said' where nothing that the law and all that it calls make is longer than what came in: it says more and counts as full. Else prove '..UptoSaid'. A law counts once. -/
mutual
def uptoBulk {H : Type} : DataW H → Nat
  | .lit (.string bytes) => bytes.length + 1
  | .lit _ => 1
  | .nil => 1
  | .ptr d => uptoBulk d + 1
  | .slice elems spare => uptoBulkAll elems + uptoBulkAll spare + 1
  | .agg parts => uptoBulkAll parts + 1
  | .iface _ d => uptoBulk d + 1
  | .map entries => uptoBulkEntries entries + 1
  | .held _ => 1
def uptoBulkAll {H : Type} : List (DataW H) → Nat
  | [] => 0
  | d :: r => uptoBulk d + uptoBulkAll r
def uptoBulkEntries {H : Type} : List (Lit × DataW H) → Nat
  | [] => 0
  | x :: r => uptoBulkEntry x + uptoBulkEntries r
def uptoBulkEntry {H : Type} : Lit × DataW H → Nat
  | (.string bytes, d) => bytes.length + uptoBulk d + 1
  | (_, d) => uptoBulk d + 1
 end
def uptoSmall : (H : Type) → List (DataW H) → Bool := fun _ ds => decide (uptoBulkAll ds ≤ 1048576)
def OpenSpec.upto (s : _root_.Go.ChangeSpec) : _root_.Go.OpenSpec := { _root_.Go.OpenSpec.ofChange s with cond := some uptoSmall }

/-- 'distillerlaw03.ShelfTells', WHERE WHAT IT READS IS OF BULK AT MOST 1048576: true; the input reads as it did. -/
def shelfTellsUptoRow : OpenClaim := { program := "ytcoodplomnjkcaa", sum := "27210b94594f6fa7797d5e43cf8ec67c2c79059563b411f7419caafe5086072d", func := "distiller/distillerlaw03.ShelfTells", spec := "shelfTells", apart := false, narrowed := true }
def ShelfTellsUptoSaid : Prop := shelfTellsUptoRow.holds Try.pinned (OpenSpec.upto shelfTellsSpec)

/-- 'distillerlaw03.ShelfReads', WHERE WHAT IT READS IS OF BULK AT MOST 1048576: true; the input reads as it did. -/
def shelfReadsUptoRow : OpenClaim := { program := "ytcoodplomnjkcaa", sum := "27210b94594f6fa7797d5e43cf8ec67c2c79059563b411f7419caafe5086072d", func := "distiller/distillerlaw03.ShelfReads", spec := "shelfReads", apart := false, narrowed := true }
def ShelfReadsUptoSaid : Prop := shelfReadsUptoRow.holds Try.pinned (OpenSpec.upto shelfReadsSpec)

/-- 'distillerlaw03.ShelfBack', WHERE WHAT IT READS IS OF BULK AT MOST 1048576: true; the input reads as it did. -/
def shelfBackUptoRow : OpenClaim := { program := "ytcoodplomnjkcaa", sum := "27210b94594f6fa7797d5e43cf8ec67c2c79059563b411f7419caafe5086072d", func := "distiller/distillerlaw03.ShelfBack", spec := "shelfBack", apart := false, narrowed := true }
def ShelfBackUptoSaid : Prop := shelfBackUptoRow.holds Try.pinned (OpenSpec.upto shelfBackSpec)

/-- 'distillerlaw03.ShelfFew', WHERE WHAT IT READS IS OF BULK AT MOST 1048576: true; the input reads as it did. -/
def shelfFewUptoRow : OpenClaim := { program := "ytcoodplomnjkcaa", sum := "27210b94594f6fa7797d5e43cf8ec67c2c79059563b411f7419caafe5086072d", func := "distiller/distillerlaw03.ShelfFew", spec := "shelfFew", apart := false, narrowed := true }
def ShelfFewUptoSaid : Prop := shelfFewUptoRow.holds Try.pinned (OpenSpec.upto shelfFewSpec)

/-- 'distillerlaw03.ShelfApart', WHERE WHAT IT READS IS OF BULK AT MOST 1048576: true; the input reads as it did. -/
def shelfApartUptoRow : OpenClaim := { program := "ytcoodplomnjkcaa", sum := "27210b94594f6fa7797d5e43cf8ec67c2c79059563b411f7419caafe5086072d", func := "distiller/distillerlaw03.ShelfApart", spec := "shelfApart", apart := false, narrowed := true }
def ShelfApartUptoSaid : Prop := shelfApartUptoRow.holds Try.pinned (OpenSpec.upto shelfApartSpec)

end Rows
end Go.Proofs.Ytcoodplomnjkcaa
