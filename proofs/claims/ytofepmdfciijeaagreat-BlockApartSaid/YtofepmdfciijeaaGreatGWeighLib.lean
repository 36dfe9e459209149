/- The contracts of the library's IndexFunc and ContainsFunc at rows, and of layer 10's own Whole. -/
import Derived.Test.YtofepmdfciijeaaGreatGWeighRef
import Derived.Test.YtofepmdfciijeaaGreatGWeighFns
import Derived.Shelf.Abstract
namespace Go.Proofs.YtofepmdfciijeaaGreat
open Go Go.RowKit

/-- A predicate on how often a row is there. -/
def PredN (P : Program) (g : FuncId) (q : Int → Bool) : Prop := ∀ (A : Option Addr) (c p : Nat) (n : Int), Gives P g #[.agg #[.slice A c p, .int .i64 n]] (.bool (q n))
/-- None of the first ones. -/
def NoneOf (q : Int → Bool) (l : List Tm) : Prop := ∀ t ∈ l, q t.2 = false
/-- Where the first one is of which it holds; -1 if there is none. -/
def IdxEnd (q : Int → Bool) (l : List Tm) (z : Int) : Prop := (z = -1 ∧ NoneOf q l) ∨ ∃ k : Nat, ∃ h : k < l.length, z = (k : Int) ∧ q (l[k]'h).2 = true ∧ NoneOf q (l.take k)
theorem enters_none : ∀ args w, (callFunc 56 args).run Tryz.prog w = .ok (.enter 56 args) w := enters_of Tryz.func56 (by kernel_rfl) rfl
theorem enters_compare : ∀ args w, (callFunc 57 args).run Tryz.prog w = .ok (.enter 57 args) w := enters_of Tryz.func57 (by kernel_rfl) rfl
theorem pred_none : PredN Tryz.prog 56 (fun n => n == 0) := wnone_calls
theorem whole_idx {l : List Tm} {z : Int} (h : IdxEnd (fun n => decide (n < 0)) l z) : decide (0 ≤ z) = !wholeW l := by
  rcases h with ⟨rfl, h⟩ | ⟨k, hk, rfl, h, _⟩
  · rw [wholeW_yes fun t ht => by have := h t ht; simpa using this]; rfl
  · rw [wholeW_no (List.getElem_mem hk) (by simpa using h)]
    simp
end Go.Proofs.YtofepmdfciijeaaGreat
