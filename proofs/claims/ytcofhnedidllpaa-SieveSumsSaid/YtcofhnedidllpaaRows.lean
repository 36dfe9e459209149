/-
  NARROWER THAN 'FOR EVERY INPUT', by the rows' own cells (each row's printed sentence says how): SieveTells: loops · SieveSums: loops · SieveParts: loops · SieveBoth: loops.
  DERIVED. THE GIVEN ROWS OF THIS SEAT. 5 by the template 'for every input the law returns true; each argument reads behind the call as it read before'; 0 by the template 'total and deterministic' (their statements: YtcofhnedidllpaaTotals.lean).
  GIVEN WITH THE SEED: the statements are not yours to turn. If you find one false, say at which input.
  Laid BY PROGRAM, IN A SANDBOX (cutbox-rows.mjs): the forced cells as the released guide's own fill.sh prints them over the translation 86e65c198ae91728… (all of the seat's roots in one cut). By AI agents, Wed Nov 11 2026. No macro, syntax, notation, axiom, sorry.
-/
import Derived.Test.YtcofhnedidllpaaChecked
import GoSem.Claim
import GoSem.ClaimJoined
import GoSem.ClaimMapViews
import Derived.JoinedTies
import Derived.KernelRfl
namespace Go.Proofs.Ytcofhnedidllpaa
/- THE CELL 'sum', in the pinned program and in every row, IS THE sha256 OF THE DUMP (.gsa) THAT YtcofhnedidllpaaProg.lean LOADS. Nothing in Lean hashes anything: it is a label: what it is worth is what the hold of that sum in a sandbox is worth. -/
noncomputable def Try.pinned : Pinned := { name := "ytcofhnedidllpaa", sum := "86e65c198ae91728d30a9cc9763068f99cf23d83b0723ea461de973ebd2e253d", checked := Try.checked }
namespace Rows
def none {H : Type} : Left H := { results := [], args := [] }

/-- 'distillerlaw18.SieveTells': WHATEVER THE INPUT: true; the input reads as it did. -/
def sieveTellsSpec : ChangeSpec := { name := "sieveTells", fn := fun _ => fun
  | [d1, d2, d3] => { results := [.lit (.bool true)], args := [d1, d2, d3] }
  | _ => none }
def sieveTellsRow : OpenClaim := { program := "ytcofhnedidllpaa", sum := "86e65c198ae91728d30a9cc9763068f99cf23d83b0723ea461de973ebd2e253d", func := "distiller/distillerlaw18.SieveTells", spec := "sieveTells", unfollowed := true, recurses := true, loops := true, apart := false }
def SieveTellsSaid : Prop := sieveTellsRow.holds Try.pinned (OpenSpec.ofChange sieveTellsSpec)

/-- ITS FALSE NEIGHBOUR: 'it returns false'. Refute it at one input. -/
def sieveTellsWrong : ChangeSpec := { name := "sieveTells", fn := fun _ => fun
  | [d1, d2, d3] => { results := [.lit (.bool false)], args := [d1, d2, d3] }
  | _ => none }
def SieveTellsWrongFalsely : Prop := sieveTellsRow.holds Try.pinned (OpenSpec.ofChange sieveTellsWrong)

/-- 'distillerlaw18.SieveSums': WHATEVER THE INPUT: true; the input reads as it did. -/
def sieveSumsSpec : ChangeSpec := { name := "sieveSums", fn := fun _ => fun
  | [d1, d2, d3] => { results := [.lit (.bool true)], args := [d1, d2, d3] }
  | _ => none }
def sieveSumsRow : OpenClaim := { program := "ytcofhnedidllpaa", sum := "86e65c198ae91728d30a9cc9763068f99cf23d83b0723ea461de973ebd2e253d", func := "distiller/distillerlaw18.SieveSums", spec := "sieveSums", unfollowed := true, recurses := true, loops := true, apart := false }
def SieveSumsSaid : Prop := sieveSumsRow.holds Try.pinned (OpenSpec.ofChange sieveSumsSpec)

/-- ITS FALSE NEIGHBOUR: 'it returns false'. Refute it at one input. -/
def sieveSumsWrong : ChangeSpec := { name := "sieveSums", fn := fun _ => fun
  | [d1, d2, d3] => { results := [.lit (.bool false)], args := [d1, d2, d3] }
  | _ => none }
def SieveSumsWrongFalsely : Prop := sieveSumsRow.holds Try.pinned (OpenSpec.ofChange sieveSumsWrong)

/-- 'distillerlaw18.SieveParts': WHATEVER THE INPUT: true; the input reads as it did. -/
def sievePartsSpec : ChangeSpec := { name := "sieveParts", fn := fun _ => fun
  | [d1, d2] => { results := [.lit (.bool true)], args := [d1, d2] }
  | _ => none }
def sievePartsRow : OpenClaim := { program := "ytcofhnedidllpaa", sum := "86e65c198ae91728d30a9cc9763068f99cf23d83b0723ea461de973ebd2e253d", func := "distiller/distillerlaw18.SieveParts", spec := "sieveParts", unfollowed := true, recurses := true, loops := true, apart := false }
def SievePartsSaid : Prop := sievePartsRow.holds Try.pinned (OpenSpec.ofChange sievePartsSpec)

/-- ITS FALSE NEIGHBOUR: 'it returns false'. Refute it at one input. -/
def sievePartsWrong : ChangeSpec := { name := "sieveParts", fn := fun _ => fun
  | [d1, d2] => { results := [.lit (.bool false)], args := [d1, d2] }
  | _ => none }
def SievePartsWrongFalsely : Prop := sievePartsRow.holds Try.pinned (OpenSpec.ofChange sievePartsWrong)

/-- 'distillerlaw18.SieveCounts': WHATEVER THE INPUT: true; the input reads as it did. -/
def sieveCountsSpec : ChangeSpec := { name := "sieveCounts", fn := fun _ => fun
  | [d1, d2] => { results := [.lit (.bool true)], args := [d1, d2] }
  | _ => none }
def sieveCountsRow : OpenClaim := { program := "ytcofhnedidllpaa", sum := "86e65c198ae91728d30a9cc9763068f99cf23d83b0723ea461de973ebd2e253d", func := "distiller/distillerlaw18.SieveCounts", spec := "sieveCounts", unfollowed := true, recurses := true, apart := false }
def SieveCountsSaid : Prop := sieveCountsRow.holds Try.pinned (OpenSpec.ofChange sieveCountsSpec)

/-- ITS FALSE NEIGHBOUR: 'it returns false'. Refute it at one input. -/
def sieveCountsWrong : ChangeSpec := { name := "sieveCounts", fn := fun _ => fun
  | [d1, d2] => { results := [.lit (.bool false)], args := [d1, d2] }
  | _ => none }
def SieveCountsWrongFalsely : Prop := sieveCountsRow.holds Try.pinned (OpenSpec.ofChange sieveCountsWrong)

/-- 'distillerlaw18.SieveBoth': WHATEVER THE INPUT: true; the input reads as it did. -/
def sieveBothSpec : ChangeSpec := { name := "sieveBoth", fn := fun _ => fun
  | [d1, d2, d3] => { results := [.lit (.bool true)], args := [d1, d2, d3] }
  | _ => none }
def sieveBothRow : OpenClaim := { program := "ytcofhnedidllpaa", sum := "86e65c198ae91728d30a9cc9763068f99cf23d83b0723ea461de973ebd2e253d", func := "distiller/distillerlaw18.SieveBoth", spec := "sieveBoth", unfollowed := true, recurses := true, loops := true, apart := false }
def SieveBothSaid : Prop := sieveBothRow.holds Try.pinned (OpenSpec.ofChange sieveBothSpec)

/-- ITS FALSE NEIGHBOUR: 'it returns false'. Refute it at one input. -/
def sieveBothWrong : ChangeSpec := { name := "sieveBoth", fn := fun _ => fun
  | [d1, d2, d3] => { results := [.lit (.bool false)], args := [d1, d2, d3] }
  | _ => none }
def SieveBothWrongFalsely : Prop := sieveBothRow.holds Try.pinned (OpenSpec.ofChange sieveBothWrong)

/- THE SECOND FORM. 'bulk': how many values and letters a reading holds, each counted each time it is reached (what is shared counts as often as it is met; a slice's spare places count too). A statement '..UptoSaid' is the law's where the arguments, and the package variables that the reading takes, are together of bulk at most 1048576: NARROWER than '..Said'. Prove '..Said' where nothing that the law and all that it calls make is longer than what came in: it says more and counts as full. Else prove '..UptoSaid'. A law counts once. -/
mutual
def uptoBulk {H : Type} : DataW H → Nat
  | .lit (.string bytes) => bytes.length + 1
  | .lit _ => 1
  | .nil => 1
  | .ptr d => uptoBulk d + 1
  | .slice elems spare => uptoBulkAll elems + uptoBulkAll spare + 1
  | .agg parts => uptoBulkAll parts + 1
  | .iface _ d => uptoBulk d + 1
  | .map entries => uptoBulkEntries entries + 1
  | .held _ => 1
def uptoBulkAll {H : Type} : List (DataW H) → Nat
  | [] => 0
  | d :: r => uptoBulk d + uptoBulkAll r
def uptoBulkEntries {H : Type} : List (Lit × DataW H) → Nat
  | [] => 0
  | x :: r => uptoBulkEntry x + uptoBulkEntries r
def uptoBulkEntry {H : Type} : Lit × DataW H → Nat
  | (.string bytes, d) => bytes.length + uptoBulk d + 1
  | (_, d) => uptoBulk d + 1
 end
def uptoSmall : (H : Type) → List (DataW H) → Bool := fun _ ds => decide (uptoBulkAll ds ≤ 1048576)
def OpenSpec.upto (s : _root_.Go.ChangeSpec) : _root_.Go.OpenSpec := { _root_.Go.OpenSpec.ofChange s with cond := some uptoSmall }

/-- 'distillerlaw18.SieveTells', WHERE WHAT IT READS IS OF BULK AT MOST 1048576: true; the input reads as it did. -/
def sieveTellsUptoRow : OpenClaim := { program := "ytcofhnedidllpaa", sum := "86e65c198ae91728d30a9cc9763068f99cf23d83b0723ea461de973ebd2e253d", func := "distiller/distillerlaw18.SieveTells", spec := "sieveTells", unfollowed := true, recurses := true, loops := true, apart := false, narrowed := true }
def SieveTellsUptoSaid : Prop := sieveTellsUptoRow.holds Try.pinned (OpenSpec.upto sieveTellsSpec)

/-- 'distillerlaw18.SieveSums', WHERE WHAT IT READS IS OF BULK AT MOST 1048576: true; the input reads as it did. -/
def sieveSumsUptoRow : OpenClaim := { program := "ytcofhnedidllpaa", sum := "86e65c198ae91728d30a9cc9763068f99cf23d83b0723ea461de973ebd2e253d", func := "distiller/distillerlaw18.SieveSums", spec := "sieveSums", unfollowed := true, recurses := true, loops := true, apart := false, narrowed := true }
def SieveSumsUptoSaid : Prop := sieveSumsUptoRow.holds Try.pinned (OpenSpec.upto sieveSumsSpec)

/-- 'distillerlaw18.SieveParts', WHERE WHAT IT READS IS OF BULK AT MOST 1048576: true; the input reads as it did. -/
def sievePartsUptoRow : OpenClaim := { program := "ytcofhnedidllpaa", sum := "86e65c198ae91728d30a9cc9763068f99cf23d83b0723ea461de973ebd2e253d", func := "distiller/distillerlaw18.SieveParts", spec := "sieveParts", unfollowed := true, recurses := true, loops := true, apart := false, narrowed := true }
def SievePartsUptoSaid : Prop := sievePartsUptoRow.holds Try.pinned (OpenSpec.upto sievePartsSpec)

/-- 'distillerlaw18.SieveCounts', WHERE WHAT IT READS IS OF BULK AT MOST 1048576: true; the input reads as it did. -/
def sieveCountsUptoRow : OpenClaim := { program := "ytcofhnedidllpaa", sum := "86e65c198ae91728d30a9cc9763068f99cf23d83b0723ea461de973ebd2e253d", func := "distiller/distillerlaw18.SieveCounts", spec := "sieveCounts", unfollowed := true, recurses := true, apart := false, narrowed := true }
def SieveCountsUptoSaid : Prop := sieveCountsUptoRow.holds Try.pinned (OpenSpec.upto sieveCountsSpec)

/-- 'distillerlaw18.SieveBoth', WHERE WHAT IT READS IS OF BULK AT MOST 1048576: true; the input reads as it did. -/
def sieveBothUptoRow : OpenClaim := { program := "ytcofhnedidllpaa", sum := "86e65c198ae91728d30a9cc9763068f99cf23d83b0723ea461de973ebd2e253d", func := "distiller/distillerlaw18.SieveBoth", spec := "sieveBoth", unfollowed := true, recurses := true, loops := true, apart := false, narrowed := true }
def SieveBothUptoSaid : Prop := sieveBothUptoRow.holds Try.pinned (OpenSpec.upto sieveBothSpec)

end Rows
end Go.Proofs.Ytcofhnedidllpaa
