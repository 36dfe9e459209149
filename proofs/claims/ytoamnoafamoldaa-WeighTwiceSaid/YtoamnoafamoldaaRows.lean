/-
  No cell of these rows narrows 'for every input' (looked for: loops, veiled, ifaces, maps, wideKeys, modest, calm, conditions, laid).
  DERIVED. THE GIVEN ROWS OF THIS SEAT. 5 by the template 'for every input the law returns true; each argument reads behind the call as it read before'; 0 by the template 'total and deterministic' (their statements: YtoamnoafamoldaaTotals.lean).
  GIVEN WITH THE SEED: the statements are not yours to turn. If you find one false, say at which input.
  Laid BY PROGRAM, IN A SANDBOX (cutbox-rows.mjs): the forced cells as the released guide's own fill.sh prints them over the translation ac6d02155f704bf4… (all of the seat's roots in one cut). By AI agents, Wed Nov 11 2026. No macro, syntax, notation, axiom, sorry.
-/
import Derived.Test.YtoamnoafamoldaaChecked
import GoSem.Claim
import GoSem.ClaimJoined
import GoSem.ClaimMapViews
import Derived.JoinedTies
import Derived.KernelRfl
namespace Go.Proofs.Ytoamnoafamoldaa
/- THE CELL 'sum', in the pinned program and in every row, IS THE sha256 OF THE DUMP (.gsa) THAT YtoamnoafamoldaaProg.lean LOADS. Nothing in Lean hashes anything: it is a label: what it is worth is what the hold of that sum in a sandbox is worth. -/
noncomputable def Try.pinned : Pinned := { name := "ytoamnoafamoldaa", sum := "ac6d02155f704bf4437e8b64143ed6280d33fe4c0ccc3e0c30f37e2e89aded47", checked := Try.checked }
namespace Rows
def none {H : Type} : Left H := { results := [], args := [] }

/-- 'distillerlaw10.WeighTells': WHATEVER THE INPUT: true; the input reads as it did. -/
def weighTellsSpec : ChangeSpec := { name := "weighTells", fn := fun _ => fun
  | [d1, d2] => { results := [.lit (.bool true)], args := [d1, d2] }
  | _ => none }
def weighTellsRow : OpenClaim := { program := "ytoamnoafamoldaa", sum := "ac6d02155f704bf4437e8b64143ed6280d33fe4c0ccc3e0c30f37e2e89aded47", func := "distiller/distillerlaw10.WeighTells", spec := "weighTells", unfollowed := true, recurses := true, apart := false }
def WeighTellsSaid : Prop := weighTellsRow.holds Try.pinned (OpenSpec.ofChange weighTellsSpec)

/-- ITS FALSE NEIGHBOUR: 'it returns false'. Refute it at one input. -/
def weighTellsWrong : ChangeSpec := { name := "weighTells", fn := fun _ => fun
  | [d1, d2] => { results := [.lit (.bool false)], args := [d1, d2] }
  | _ => none }
def WeighTellsWrongFalsely : Prop := weighTellsRow.holds Try.pinned (OpenSpec.ofChange weighTellsWrong)

/-- 'distillerlaw10.WeighSums': WHATEVER THE INPUT: true; the input reads as it did. -/
def weighSumsSpec : ChangeSpec := { name := "weighSums", fn := fun _ => fun
  | [d1, d2, d3] => { results := [.lit (.bool true)], args := [d1, d2, d3] }
  | _ => none }
def weighSumsRow : OpenClaim := { program := "ytoamnoafamoldaa", sum := "ac6d02155f704bf4437e8b64143ed6280d33fe4c0ccc3e0c30f37e2e89aded47", func := "distiller/distillerlaw10.WeighSums", spec := "weighSums", unfollowed := true, recurses := true, apart := false }
def WeighSumsSaid : Prop := weighSumsRow.holds Try.pinned (OpenSpec.ofChange weighSumsSpec)

/-- ITS FALSE NEIGHBOUR: 'it returns false'. Refute it at one input. -/
def weighSumsWrong : ChangeSpec := { name := "weighSums", fn := fun _ => fun
  | [d1, d2, d3] => { results := [.lit (.bool false)], args := [d1, d2, d3] }
  | _ => none }
def WeighSumsWrongFalsely : Prop := weighSumsRow.holds Try.pinned (OpenSpec.ofChange weighSumsWrong)

/-- 'distillerlaw10.WeighGroup': WHATEVER THE INPUT: true; the input reads as it did. -/
def weighGroupSpec : ChangeSpec := { name := "weighGroup", fn := fun _ => fun
  | [d1, d2, d3] => { results := [.lit (.bool true)], args := [d1, d2, d3] }
  | _ => none }
def weighGroupRow : OpenClaim := { program := "ytoamnoafamoldaa", sum := "ac6d02155f704bf4437e8b64143ed6280d33fe4c0ccc3e0c30f37e2e89aded47", func := "distiller/distillerlaw10.WeighGroup", spec := "weighGroup", unfollowed := true, recurses := true, apart := false }
def WeighGroupSaid : Prop := weighGroupRow.holds Try.pinned (OpenSpec.ofChange weighGroupSpec)

/-- ITS FALSE NEIGHBOUR: 'it returns false'. Refute it at one input. -/
def weighGroupWrong : ChangeSpec := { name := "weighGroup", fn := fun _ => fun
  | [d1, d2, d3] => { results := [.lit (.bool false)], args := [d1, d2, d3] }
  | _ => none }
def WeighGroupWrongFalsely : Prop := weighGroupRow.holds Try.pinned (OpenSpec.ofChange weighGroupWrong)

/-- 'distillerlaw10.WeighFinds': WHATEVER THE INPUT: true; the input reads as it did. -/
def weighFindsSpec : ChangeSpec := { name := "weighFinds", fn := fun _ => fun
  | [d] => { results := [.lit (.bool true)], args := [d] }
  | _ => none }
def weighFindsRow : OpenClaim := { program := "ytoamnoafamoldaa", sum := "ac6d02155f704bf4437e8b64143ed6280d33fe4c0ccc3e0c30f37e2e89aded47", func := "distiller/distillerlaw10.WeighFinds", spec := "weighFinds", unfollowed := true, recurses := true, apart := false }
def WeighFindsSaid : Prop := weighFindsRow.holds Try.pinned (OpenSpec.ofChange weighFindsSpec)

/-- ITS FALSE NEIGHBOUR: 'it returns false'. Refute it at one input. -/
def weighFindsWrong : ChangeSpec := { name := "weighFinds", fn := fun _ => fun
  | [d] => { results := [.lit (.bool false)], args := [d] }
  | _ => none }
def WeighFindsWrongFalsely : Prop := weighFindsRow.holds Try.pinned (OpenSpec.ofChange weighFindsWrong)

/-- 'distillerlaw10.WeighTwice': WHATEVER THE INPUT: true; the input reads as it did. -/
def weighTwiceSpec : ChangeSpec := { name := "weighTwice", fn := fun _ => fun
  | [d1, d2] => { results := [.lit (.bool true)], args := [d1, d2] }
  | _ => none }
def weighTwiceRow : OpenClaim := { program := "ytoamnoafamoldaa", sum := "ac6d02155f704bf4437e8b64143ed6280d33fe4c0ccc3e0c30f37e2e89aded47", func := "distiller/distillerlaw10.WeighTwice", spec := "weighTwice", unfollowed := true, recurses := true, apart := false }
def WeighTwiceSaid : Prop := weighTwiceRow.holds Try.pinned (OpenSpec.ofChange weighTwiceSpec)

/-- ITS FALSE NEIGHBOUR: 'it returns false'. Refute it at one input. -/
def weighTwiceWrong : ChangeSpec := { name := "weighTwice", fn := fun _ => fun
  | [d1, d2] => { results := [.lit (.bool false)], args := [d1, d2] }
  | _ => none }
def WeighTwiceWrongFalsely : Prop := weighTwiceRow.holds Try.pinned (OpenSpec.ofChange weighTwiceWrong)

/- THE SECOND FORM. 'bulk': how many values and letters a reading holds, each counted each time it is reached (what is shared counts as often as it is met; a slice's spare places count too). A statement '..UptoSaid' is the law's where the arguments, and the package variables that the reading takes, are together of bulk at most 1048576: NARROWER than '..Said'. Prove '..Said' where nothing that the law and all that it calls make is longer than what came in: it says more and counts as full. Else prove '..UptoSaid'. A law counts once. -/
mutual
def uptoBulk {H : Type} : DataW H → Nat
  | .lit (.string bytes) => bytes.length + 1
  | .lit _ => 1
  | .nil => 1
  | .ptr d => uptoBulk d + 1
  | .slice elems spare => uptoBulkAll elems + uptoBulkAll spare + 1
  | .agg parts => uptoBulkAll parts + 1
  | .iface _ d => uptoBulk d + 1
  | .map entries => uptoBulkEntries entries + 1
  | .held _ => 1
def uptoBulkAll {H : Type} : List (DataW H) → Nat
  | [] => 0
  | d :: r => uptoBulk d + uptoBulkAll r
def uptoBulkEntries {H : Type} : List (Lit × DataW H) → Nat
  | [] => 0
  | x :: r => uptoBulkEntry x + uptoBulkEntries r
def uptoBulkEntry {H : Type} : Lit × DataW H → Nat
  | (.string bytes, d) => bytes.length + uptoBulk d + 1
  | (_, d) => uptoBulk d + 1
 end
def uptoSmall : (H : Type) → List (DataW H) → Bool := fun _ ds => decide (uptoBulkAll ds ≤ 1048576)
def OpenSpec.upto (s : _root_.Go.ChangeSpec) : _root_.Go.OpenSpec := { _root_.Go.OpenSpec.ofChange s with cond := some uptoSmall }

/-- 'distillerlaw10.WeighTells', WHERE WHAT IT READS IS OF BULK AT MOST 1048576: true; the input reads as it did. -/
def weighTellsUptoRow : OpenClaim := { program := "ytoamnoafamoldaa", sum := "ac6d02155f704bf4437e8b64143ed6280d33fe4c0ccc3e0c30f37e2e89aded47", func := "distiller/distillerlaw10.WeighTells", spec := "weighTells", unfollowed := true, recurses := true, apart := false, narrowed := true }
def WeighTellsUptoSaid : Prop := weighTellsUptoRow.holds Try.pinned (OpenSpec.upto weighTellsSpec)

/-- 'distillerlaw10.WeighSums', WHERE WHAT IT READS IS OF BULK AT MOST 1048576: true; the input reads as it did. -/
def weighSumsUptoRow : OpenClaim := { program := "ytoamnoafamoldaa", sum := "ac6d02155f704bf4437e8b64143ed6280d33fe4c0ccc3e0c30f37e2e89aded47", func := "distiller/distillerlaw10.WeighSums", spec := "weighSums", unfollowed := true, recurses := true, apart := false, narrowed := true }
def WeighSumsUptoSaid : Prop := weighSumsUptoRow.holds Try.pinned (OpenSpec.upto weighSumsSpec)

/-- 'distillerlaw10.WeighGroup', WHERE WHAT IT READS IS OF BULK AT MOST 1048576: true; the input reads as it did. -/
def weighGroupUptoRow : OpenClaim := { program := "ytoamnoafamoldaa", sum := "ac6d02155f704bf4437e8b64143ed6280d33fe4c0ccc3e0c30f37e2e89aded47", func := "distiller/distillerlaw10.WeighGroup", spec := "weighGroup", unfollowed := true, recurses := true, apart := false, narrowed := true }
def WeighGroupUptoSaid : Prop := weighGroupUptoRow.holds Try.pinned (OpenSpec.upto weighGroupSpec)

/-- 'distillerlaw10.WeighFinds', WHERE WHAT IT READS IS OF BULK AT MOST 1048576: true; the input reads as it did. -/
def weighFindsUptoRow : OpenClaim := { program := "ytoamnoafamoldaa", sum := "ac6d02155f704bf4437e8b64143ed6280d33fe4c0ccc3e0c30f37e2e89aded47", func := "distiller/distillerlaw10.WeighFinds", spec := "weighFinds", unfollowed := true, recurses := true, apart := false, narrowed := true }
def WeighFindsUptoSaid : Prop := weighFindsUptoRow.holds Try.pinned (OpenSpec.upto weighFindsSpec)

/-- 'distillerlaw10.WeighTwice', WHERE WHAT IT READS IS OF BULK AT MOST 1048576: true; the input reads as it did. -/
def weighTwiceUptoRow : OpenClaim := { program := "ytoamnoafamoldaa", sum := "ac6d02155f704bf4437e8b64143ed6280d33fe4c0ccc3e0c30f37e2e89aded47", func := "distiller/distillerlaw10.WeighTwice", spec := "weighTwice", unfollowed := true, recurses := true, apart := false, narrowed := true }
def WeighTwiceUptoSaid : Prop := weighTwiceUptoRow.holds Try.pinned (OpenSpec.upto weighTwiceSpec)

end Rows
end Go.Proofs.Ytoamnoafamoldaa
