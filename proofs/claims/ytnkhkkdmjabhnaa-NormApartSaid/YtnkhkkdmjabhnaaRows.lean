/-
  NARROWER THAN 'FOR EVERY INPUT', by the rows' own cells (each row's printed sentence says how): NormTells: loops · NormMeans: loops · NormOrder: loops · NormApart: loops · NormLess: loops.
  DERIVED. THE GIVEN ROWS OF THIS SEAT. 5 by the template 'for every input the law returns true; each argument reads behind the call as it read before'; 0 by the template 'total and deterministic' (their statements: YtnkhkkdmjabhnaaTotals.lean).
  GIVEN WITH THE SEED: the statements are not yours to turn. If you find one false, say at which input.
  Laid BY PROGRAM, IN A SANDBOX (cutbox-rows.mjs): the forced cells as the released guide's own fill.sh prints them over the translation 1a6856bac2f1b078… (all of the seat's roots in one cut). By AI agents, Wed Nov 11 2026. No macro, syntax, notation, axiom, sorry.
-/
import Derived.Test.YtnkhkkdmjabhnaaChecked
import GoSem.Claim
import GoSem.ClaimJoined
import GoSem.ClaimMapViews
import Derived.JoinedTies
import Derived.KernelRfl
namespace Go.Proofs.Ytnkhkkdmjabhnaa
/- THE CELL 'sum', in the pinned program and in every row, IS THE sha256 OF THE DUMP (.gsa) THAT YtnkhkkdmjabhnaaProg.lean LOADS. Nothing in Lean hashes anything: it is a label: what it is worth is what the hold of that sum in a sandbox is worth. -/
noncomputable def Try.pinned : Pinned := { name := "ytnkhkkdmjabhnaa", sum := "1a6856bac2f1b078afdb8730a77bc17a6ae64dbcb94671a4feec3169b808542c", checked := Try.checked }
namespace Rows
def none {H : Type} : Left H := { results := [], args := [] }

/-- 'distillerlaw17.NormTells': WHATEVER THE INPUT: true; the input reads as it did. -/
def normTellsSpec : ChangeSpec := { name := "normTells", fn := fun _ => fun
  | [d1, d2] => { results := [.lit (.bool true)], args := [d1, d2] }
  | _ => none }
def normTellsRow : OpenClaim := { program := "ytnkhkkdmjabhnaa", sum := "1a6856bac2f1b078afdb8730a77bc17a6ae64dbcb94671a4feec3169b808542c", func := "distiller/distillerlaw17.NormTells", spec := "normTells", inPlace := ["internal/bytealg.abigen_runtime_cmpstring"], unfollowed := true, recurses := true, loops := true, apart := false }
def NormTellsSaid : Prop := normTellsRow.holds Try.pinned (OpenSpec.ofChange normTellsSpec)

/-- ITS FALSE NEIGHBOUR: 'it returns false'. Refute it at one input. -/
def normTellsWrong : ChangeSpec := { name := "normTells", fn := fun _ => fun
  | [d1, d2] => { results := [.lit (.bool false)], args := [d1, d2] }
  | _ => none }
def NormTellsWrongFalsely : Prop := normTellsRow.holds Try.pinned (OpenSpec.ofChange normTellsWrong)

/-- 'distillerlaw17.NormMeans': WHATEVER THE INPUT: true; the input reads as it did. -/
def normMeansSpec : ChangeSpec := { name := "normMeans", fn := fun _ => fun
  | [d1, d2] => { results := [.lit (.bool true)], args := [d1, d2] }
  | _ => none }
def normMeansRow : OpenClaim := { program := "ytnkhkkdmjabhnaa", sum := "1a6856bac2f1b078afdb8730a77bc17a6ae64dbcb94671a4feec3169b808542c", func := "distiller/distillerlaw17.NormMeans", spec := "normMeans", inPlace := ["internal/bytealg.abigen_runtime_cmpstring"], unfollowed := true, recurses := true, loops := true, apart := false }
def NormMeansSaid : Prop := normMeansRow.holds Try.pinned (OpenSpec.ofChange normMeansSpec)

/-- ITS FALSE NEIGHBOUR: 'it returns false'. Refute it at one input. -/
def normMeansWrong : ChangeSpec := { name := "normMeans", fn := fun _ => fun
  | [d1, d2] => { results := [.lit (.bool false)], args := [d1, d2] }
  | _ => none }
def NormMeansWrongFalsely : Prop := normMeansRow.holds Try.pinned (OpenSpec.ofChange normMeansWrong)

/-- 'distillerlaw17.NormOrder': WHATEVER THE INPUT: true; the input reads as it did. -/
def normOrderSpec : ChangeSpec := { name := "normOrder", fn := fun _ => fun
  | [d1, d2, d3] => { results := [.lit (.bool true)], args := [d1, d2, d3] }
  | _ => none }
def normOrderRow : OpenClaim := { program := "ytnkhkkdmjabhnaa", sum := "1a6856bac2f1b078afdb8730a77bc17a6ae64dbcb94671a4feec3169b808542c", func := "distiller/distillerlaw17.NormOrder", spec := "normOrder", inPlace := ["internal/bytealg.abigen_runtime_cmpstring"], unfollowed := true, recurses := true, loops := true, apart := false }
def NormOrderSaid : Prop := normOrderRow.holds Try.pinned (OpenSpec.ofChange normOrderSpec)

/-- ITS FALSE NEIGHBOUR: 'it returns false'. Refute it at one input. -/
def normOrderWrong : ChangeSpec := { name := "normOrder", fn := fun _ => fun
  | [d1, d2, d3] => { results := [.lit (.bool false)], args := [d1, d2, d3] }
  | _ => none }
def NormOrderWrongFalsely : Prop := normOrderRow.holds Try.pinned (OpenSpec.ofChange normOrderWrong)

/-- 'distillerlaw17.NormApart': WHATEVER THE INPUT: true; the input reads as it did. -/
def normApartSpec : ChangeSpec := { name := "normApart", fn := fun _ => fun
  | [d1, d2] => { results := [.lit (.bool true)], args := [d1, d2] }
  | _ => none }
def normApartRow : OpenClaim := { program := "ytnkhkkdmjabhnaa", sum := "1a6856bac2f1b078afdb8730a77bc17a6ae64dbcb94671a4feec3169b808542c", func := "distiller/distillerlaw17.NormApart", spec := "normApart", inPlace := ["internal/bytealg.abigen_runtime_cmpstring"], unfollowed := true, recurses := true, loops := true, apart := false }
def NormApartSaid : Prop := normApartRow.holds Try.pinned (OpenSpec.ofChange normApartSpec)

/-- ITS FALSE NEIGHBOUR: 'it returns false'. Refute it at one input. -/
def normApartWrong : ChangeSpec := { name := "normApart", fn := fun _ => fun
  | [d1, d2] => { results := [.lit (.bool false)], args := [d1, d2] }
  | _ => none }
def NormApartWrongFalsely : Prop := normApartRow.holds Try.pinned (OpenSpec.ofChange normApartWrong)

/-- 'distillerlaw17.NormLess': WHATEVER THE INPUT: true; the input reads as it did. -/
def normLessSpec : ChangeSpec := { name := "normLess", fn := fun _ => fun
  | [d1, d2] => { results := [.lit (.bool true)], args := [d1, d2] }
  | _ => none }
def normLessRow : OpenClaim := { program := "ytnkhkkdmjabhnaa", sum := "1a6856bac2f1b078afdb8730a77bc17a6ae64dbcb94671a4feec3169b808542c", func := "distiller/distillerlaw17.NormLess", spec := "normLess", inPlace := ["internal/bytealg.abigen_runtime_cmpstring"], unfollowed := true, recurses := true, loops := true, apart := false }
def NormLessSaid : Prop := normLessRow.holds Try.pinned (OpenSpec.ofChange normLessSpec)

/-- ITS FALSE NEIGHBOUR: 'it returns false'. Refute it at one input. -/
def normLessWrong : ChangeSpec := { name := "normLess", fn := fun _ => fun
  | [d1, d2] => { results := [.lit (.bool false)], args := [d1, d2] }
  | _ => none }
def NormLessWrongFalsely : Prop := normLessRow.holds Try.pinned (OpenSpec.ofChange normLessWrong)

/- THE SECOND FORM. 'bulk': how many values and letters a reading holds, each counted each time it is reached (what is shared counts as often as it is met; a slice's spare places count too). A statement '..UptoSaid' is the law's where the arguments, and the package variables that the reading takes, are together of bulk at most 1048576: NARROWER than '..Said'. Prove '..Said' where nothing that the law and all that it calls make is longer than what came in: it says more and counts as full. Else prove '..UptoSaid'. A law counts once. -/
mutual
def uptoBulk {H : Type} : DataW H → Nat
  | .lit (.string bytes) => bytes.length + 1
  | .lit _ => 1
  | .nil => 1
  | .ptr d => uptoBulk d + 1
  | .slice elems spare => uptoBulkAll elems + uptoBulkAll spare + 1
  | .agg parts => uptoBulkAll parts + 1
  | .iface _ d => uptoBulk d + 1
  | .map entries => uptoBulkEntries entries + 1
  | .held _ => 1
def uptoBulkAll {H : Type} : List (DataW H) → Nat
  | [] => 0
  | d :: r => uptoBulk d + uptoBulkAll r
def uptoBulkEntries {H : Type} : List (Lit × DataW H) → Nat
  | [] => 0
  | x :: r => uptoBulkEntry x + uptoBulkEntries r
def uptoBulkEntry {H : Type} : Lit × DataW H → Nat
  | (.string bytes, d) => bytes.length + uptoBulk d + 1
  | (_, d) => uptoBulk d + 1
 end
def uptoSmall : (H : Type) → List (DataW H) → Bool := fun _ ds => decide (uptoBulkAll ds ≤ 1048576)
def OpenSpec.upto (s : _root_.Go.ChangeSpec) : _root_.Go.OpenSpec := { _root_.Go.OpenSpec.ofChange s with cond := some uptoSmall }

/-- 'distillerlaw17.NormTells', WHERE WHAT IT READS IS OF BULK AT MOST 1048576: true; the input reads as it did. -/
def normTellsUptoRow : OpenClaim := { program := "ytnkhkkdmjabhnaa", sum := "1a6856bac2f1b078afdb8730a77bc17a6ae64dbcb94671a4feec3169b808542c", func := "distiller/distillerlaw17.NormTells", spec := "normTells", inPlace := ["internal/bytealg.abigen_runtime_cmpstring"], unfollowed := true, recurses := true, loops := true, apart := false, narrowed := true }
def NormTellsUptoSaid : Prop := normTellsUptoRow.holds Try.pinned (OpenSpec.upto normTellsSpec)

/-- 'distillerlaw17.NormMeans', WHERE WHAT IT READS IS OF BULK AT MOST 1048576: true; the input reads as it did. -/
def normMeansUptoRow : OpenClaim := { program := "ytnkhkkdmjabhnaa", sum := "1a6856bac2f1b078afdb8730a77bc17a6ae64dbcb94671a4feec3169b808542c", func := "distiller/distillerlaw17.NormMeans", spec := "normMeans", inPlace := ["internal/bytealg.abigen_runtime_cmpstring"], unfollowed := true, recurses := true, loops := true, apart := false, narrowed := true }
def NormMeansUptoSaid : Prop := normMeansUptoRow.holds Try.pinned (OpenSpec.upto normMeansSpec)

/-- 'distillerlaw17.NormOrder', WHERE WHAT IT READS IS OF BULK AT MOST 1048576: true; the input reads as it did. -/
def normOrderUptoRow : OpenClaim := { program := "ytnkhkkdmjabhnaa", sum := "1a6856bac2f1b078afdb8730a77bc17a6ae64dbcb94671a4feec3169b808542c", func := "distiller/distillerlaw17.NormOrder", spec := "normOrder", inPlace := ["internal/bytealg.abigen_runtime_cmpstring"], unfollowed := true, recurses := true, loops := true, apart := false, narrowed := true }
def NormOrderUptoSaid : Prop := normOrderUptoRow.holds Try.pinned (OpenSpec.upto normOrderSpec)

/-- 'distillerlaw17.NormApart', WHERE WHAT IT READS IS OF BULK AT MOST 1048576: true; the input reads as it did. -/
def normApartUptoRow : OpenClaim := { program := "ytnkhkkdmjabhnaa", sum := "1a6856bac2f1b078afdb8730a77bc17a6ae64dbcb94671a4feec3169b808542c", func := "distiller/distillerlaw17.NormApart", spec := "normApart", inPlace := ["internal/bytealg.abigen_runtime_cmpstring"], unfollowed := true, recurses := true, loops := true, apart := false, narrowed := true }
def NormApartUptoSaid : Prop := normApartUptoRow.holds Try.pinned (OpenSpec.upto normApartSpec)

/-- 'distillerlaw17.NormLess', WHERE WHAT IT READS IS OF BULK AT MOST 1048576: true; the input reads as it did. -/
def normLessUptoRow : OpenClaim := { program := "ytnkhkkdmjabhnaa", sum := "1a6856bac2f1b078afdb8730a77bc17a6ae64dbcb94671a4feec3169b808542c", func := "distiller/distillerlaw17.NormLess", spec := "normLess", inPlace := ["internal/bytealg.abigen_runtime_cmpstring"], unfollowed := true, recurses := true, loops := true, apart := false, narrowed := true }
def NormLessUptoSaid : Prop := normLessUptoRow.holds Try.pinned (OpenSpec.upto normLessSpec)

end Rows
end Go.Proofs.Ytnkhkkdmjabhnaa
