/- The contracts of layer 9's Kind, Right, Fits and Row. -/
import Derived.Test.YtofepmdfciijeaaGreatGCell
import Derived.Test.YtofepmdfciijeaaGreatGZCols
import Derived.Lib.QuietBelow
namespace Go.Proofs.YtofepmdfciijeaaGreat
open Go Go.RowKit

def kindB (k : Int) : Bool := k == 98 || k == 105 || k == 116
/-- May there be such columns? -/
def rightC (l : List (Int × Bool)) : Bool := decide (0 < l.length) && decide (l.length ≤ 6) && l.all fun c => kindB c.1
/-- Does a cell fit in a column? -/
def fitsC (c : Int × Bool) (s : ByteArray) : Bool := if s.toList.isEmpty then c.2 else rightB s && (kindI s == c.1)
def fitsL (l : List (Int × Bool)) (r : List ByteArray) : Bool := (l.zip r).all fun p => fitsC p.1 p.2
/-- May a row stand under columns? 1: it has another number of cells; 5: one doesn't fit. -/
def rowN (l : List (Int × Bool)) (r : List ByteArray) : Int := if r.length = l.length then (if fitsL l r then 0 else 5) else 1

theorem rightC_no {l : List (Int × Bool)} {c : Int × Bool} (hc : c ∈ l) (h : kindB c.1 = false) : rightC l = false := by
  have : (l.all fun c => kindB c.1) = false := by
    cases ha : l.all fun c => kindB c.1 with
    | false => rfl
    | true => rw [List.all_eq_true] at ha; rw [ha c hc] at h; exact absurd h (by decide)
  unfold rightC
  rw [this, Bool.and_false]
theorem rightC_yes {l : List (Int × Bool)} (h0 : 0 < l.length) (h1 : l.length ≤ 6) (h : ∀ c ∈ l, kindB c.1 = true) : rightC l = true := by
  unfold rightC
  rw [decide_eq_true h0, decide_eq_true h1, List.all_eq_true.2 h]; rfl

end Go.Proofs.YtofepmdfciijeaaGreat
