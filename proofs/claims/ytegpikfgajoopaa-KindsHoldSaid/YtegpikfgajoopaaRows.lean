/-
  NARROWER THAN 'FOR EVERY INPUT', by the rows' own cells (each row's printed sentence says how): KindsTells: loops · KindsHold: loops · KindsParts: loops · KindsMore: loops.
  DERIVED. THE GIVEN ROWS OF THIS SEAT. 4 by the template 'for every input the law returns true; each argument reads behind the call as it read before'; 0 by the template 'total and deterministic' (their statements: YtegpikfgajoopaaTotals.lean).
  GIVEN WITH THE SEED: the statements are not yours to turn. If you find one false, say at which input.
  Laid BY PROGRAM, IN A SANDBOX (cutbox-rows.mjs): the forced cells as the released guide's own fill.sh prints them over the translation bd18bf6529614e3b… (all of the seat's roots in one cut). By AI agents, Wed Nov 11 2026. No macro, syntax, notation, axiom, sorry.
-/
import Derived.Test.YtegpikfgajoopaaChecked
import GoSem.Claim
import GoSem.ClaimJoined
import GoSem.ClaimMapViews
import Derived.JoinedTies
import Derived.KernelRfl
namespace Go.Proofs.Ytegpikfgajoopaa
/- THE CELL 'sum', in the pinned program and in every row, IS THE sha256 OF THE DUMP (.gsa) THAT YtegpikfgajoopaaProg.lean LOADS. Nothing in Lean hashes anything: it is a label: what it is worth is what the hold of that sum in a sandbox is worth. -/
noncomputable def Try.pinned : Pinned := { name := "ytegpikfgajoopaa", sum := "bd18bf6529614e3b78da6d0c8bd4be9c24fa60de40105ccd074c3a3b6416ac7d", checked := Try.checked }
namespace Rows
def none {H : Type} : Left H := { results := [], args := [] }

/-- 'distillerlaw16.KindsTells': WHATEVER THE INPUT: true; the input reads as it did. -/
def kindsTellsSpec : ChangeSpec := { name := "kindsTells", fn := fun _ => fun
  | [d1, d2] => { results := [.lit (.bool true)], args := [d1, d2] }
  | _ => none }
def kindsTellsRow : OpenClaim := { program := "ytegpikfgajoopaa", sum := "bd18bf6529614e3b78da6d0c8bd4be9c24fa60de40105ccd074c3a3b6416ac7d", func := "distiller/distillerlaw16.KindsTells", spec := "kindsTells", recurses := true, loops := true, apart := false }
def KindsTellsSaid : Prop := kindsTellsRow.holds Try.pinned (OpenSpec.ofChange kindsTellsSpec)

/-- ITS FALSE NEIGHBOUR: 'it returns false'. Refute it at one input. -/
def kindsTellsWrong : ChangeSpec := { name := "kindsTells", fn := fun _ => fun
  | [d1, d2] => { results := [.lit (.bool false)], args := [d1, d2] }
  | _ => none }
def KindsTellsWrongFalsely : Prop := kindsTellsRow.holds Try.pinned (OpenSpec.ofChange kindsTellsWrong)

/-- 'distillerlaw16.KindsHold': WHATEVER THE INPUT: true; the input reads as it did. -/
def kindsHoldSpec : ChangeSpec := { name := "kindsHold", fn := fun _ => fun
  | [d1, d2, d3] => { results := [.lit (.bool true)], args := [d1, d2, d3] }
  | _ => none }
def kindsHoldRow : OpenClaim := { program := "ytegpikfgajoopaa", sum := "bd18bf6529614e3b78da6d0c8bd4be9c24fa60de40105ccd074c3a3b6416ac7d", func := "distiller/distillerlaw16.KindsHold", spec := "kindsHold", recurses := true, loops := true, apart := false }
def KindsHoldSaid : Prop := kindsHoldRow.holds Try.pinned (OpenSpec.ofChange kindsHoldSpec)

/-- ITS FALSE NEIGHBOUR: 'it returns false'. Refute it at one input. -/
def kindsHoldWrong : ChangeSpec := { name := "kindsHold", fn := fun _ => fun
  | [d1, d2, d3] => { results := [.lit (.bool false)], args := [d1, d2, d3] }
  | _ => none }
def KindsHoldWrongFalsely : Prop := kindsHoldRow.holds Try.pinned (OpenSpec.ofChange kindsHoldWrong)

/-- 'distillerlaw16.KindsParts': WHATEVER THE INPUT: true; the input reads as it did. -/
def kindsPartsSpec : ChangeSpec := { name := "kindsParts", fn := fun _ => fun
  | [d1, d2, d3] => { results := [.lit (.bool true)], args := [d1, d2, d3] }
  | _ => none }
def kindsPartsRow : OpenClaim := { program := "ytegpikfgajoopaa", sum := "bd18bf6529614e3b78da6d0c8bd4be9c24fa60de40105ccd074c3a3b6416ac7d", func := "distiller/distillerlaw16.KindsParts", spec := "kindsParts", recurses := true, loops := true, apart := false }
def KindsPartsSaid : Prop := kindsPartsRow.holds Try.pinned (OpenSpec.ofChange kindsPartsSpec)

/-- ITS FALSE NEIGHBOUR: 'it returns false'. Refute it at one input. -/
def kindsPartsWrong : ChangeSpec := { name := "kindsParts", fn := fun _ => fun
  | [d1, d2, d3] => { results := [.lit (.bool false)], args := [d1, d2, d3] }
  | _ => none }
def KindsPartsWrongFalsely : Prop := kindsPartsRow.holds Try.pinned (OpenSpec.ofChange kindsPartsWrong)

/-- 'distillerlaw16.KindsMore': WHATEVER THE INPUT: true; the input reads as it did. -/
def kindsMoreSpec : ChangeSpec := { name := "kindsMore", fn := fun _ => fun
  | [d1, d2, d3] => { results := [.lit (.bool true)], args := [d1, d2, d3] }
  | _ => none }
def kindsMoreRow : OpenClaim := { program := "ytegpikfgajoopaa", sum := "bd18bf6529614e3b78da6d0c8bd4be9c24fa60de40105ccd074c3a3b6416ac7d", func := "distiller/distillerlaw16.KindsMore", spec := "kindsMore", recurses := true, loops := true, apart := false }
def KindsMoreSaid : Prop := kindsMoreRow.holds Try.pinned (OpenSpec.ofChange kindsMoreSpec)

/-- ITS FALSE NEIGHBOUR: 'it returns false'. Refute it at one input. -/
def kindsMoreWrong : ChangeSpec := { name := "kindsMore", fn := fun _ => fun
  | [d1, d2, d3] => { results := [.lit (.bool false)], args := [d1, d2, d3] }
  | _ => none }
def KindsMoreWrongFalsely : Prop := kindsMoreRow.holds Try.pinned (OpenSpec.ofChange kindsMoreWrong)

/- THE SECOND FORM. 'bulk': how many values and letters a reading holds, each counted each time it is reached (what is shared counts as often as it is met; a slice's spare places count too). A statement '..UptoSaid' is the law's where the arguments, and the package variables that the reading takes, are together of bulk at most 1048576: NARROWER than '..Said'. Prove '..Said' where nothing that the law and all that it calls make is longer than what came in: it says more and counts as full. Else prove '..UptoSaid'. A law counts once. -/
mutual
def uptoBulk {H : Type} : DataW H → Nat
  | .lit (.string bytes) => bytes.length + 1
  | .lit _ => 1
  | .nil => 1
  | .ptr d => uptoBulk d + 1
  | .slice elems spare => uptoBulkAll elems + uptoBulkAll spare + 1
  | .agg parts => uptoBulkAll parts + 1
  | .iface _ d => uptoBulk d + 1
  | .map entries => uptoBulkEntries entries + 1
  | .held _ => 1
def uptoBulkAll {H : Type} : List (DataW H) → Nat
  | [] => 0
  | d :: r => uptoBulk d + uptoBulkAll r
def uptoBulkEntries {H : Type} : List (Lit × DataW H) → Nat
  | [] => 0
  | x :: r => uptoBulkEntry x + uptoBulkEntries r
def uptoBulkEntry {H : Type} : Lit × DataW H → Nat
  | (.string bytes, d) => bytes.length + uptoBulk d + 1
  | (_, d) => uptoBulk d + 1
 end
def uptoSmall : (H : Type) → List (DataW H) → Bool := fun _ ds => decide (uptoBulkAll ds ≤ 1048576)
def OpenSpec.upto (s : _root_.Go.ChangeSpec) : _root_.Go.OpenSpec := { _root_.Go.OpenSpec.ofChange s with cond := some uptoSmall }

/-- 'distillerlaw16.KindsTells', WHERE WHAT IT READS IS OF BULK AT MOST 1048576: true; the input reads as it did. -/
def kindsTellsUptoRow : OpenClaim := { program := "ytegpikfgajoopaa", sum := "bd18bf6529614e3b78da6d0c8bd4be9c24fa60de40105ccd074c3a3b6416ac7d", func := "distiller/distillerlaw16.KindsTells", spec := "kindsTells", recurses := true, loops := true, apart := false, narrowed := true }
def KindsTellsUptoSaid : Prop := kindsTellsUptoRow.holds Try.pinned (OpenSpec.upto kindsTellsSpec)

/-- 'distillerlaw16.KindsHold', WHERE WHAT IT READS IS OF BULK AT MOST 1048576: true; the input reads as it did. -/
def kindsHoldUptoRow : OpenClaim := { program := "ytegpikfgajoopaa", sum := "bd18bf6529614e3b78da6d0c8bd4be9c24fa60de40105ccd074c3a3b6416ac7d", func := "distiller/distillerlaw16.KindsHold", spec := "kindsHold", recurses := true, loops := true, apart := false, narrowed := true }
def KindsHoldUptoSaid : Prop := kindsHoldUptoRow.holds Try.pinned (OpenSpec.upto kindsHoldSpec)

/-- 'distillerlaw16.KindsParts', WHERE WHAT IT READS IS OF BULK AT MOST 1048576: true; the input reads as it did. -/
def kindsPartsUptoRow : OpenClaim := { program := "ytegpikfgajoopaa", sum := "bd18bf6529614e3b78da6d0c8bd4be9c24fa60de40105ccd074c3a3b6416ac7d", func := "distiller/distillerlaw16.KindsParts", spec := "kindsParts", recurses := true, loops := true, apart := false, narrowed := true }
def KindsPartsUptoSaid : Prop := kindsPartsUptoRow.holds Try.pinned (OpenSpec.upto kindsPartsSpec)

/-- 'distillerlaw16.KindsMore', WHERE WHAT IT READS IS OF BULK AT MOST 1048576: true; the input reads as it did. -/
def kindsMoreUptoRow : OpenClaim := { program := "ytegpikfgajoopaa", sum := "bd18bf6529614e3b78da6d0c8bd4be9c24fa60de40105ccd074c3a3b6416ac7d", func := "distiller/distillerlaw16.KindsMore", spec := "kindsMore", recurses := true, loops := true, apart := false, narrowed := true }
def KindsMoreUptoSaid : Prop := kindsMoreUptoRow.holds Try.pinned (OpenSpec.upto kindsMoreSpec)

end Rows
end Go.Proofs.Ytegpikfgajoopaa
