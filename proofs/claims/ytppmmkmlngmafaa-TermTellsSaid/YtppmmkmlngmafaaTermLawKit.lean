/- What layer 15's laws stand on: how Shift ends, a struct of it; zero terms. -/
import Derived.Test.YtppmmkmlngmafaaTermLaws
namespace Go.Proofs.Ytppmmkmlngmafaa
open Go Go.RowKit

/-- The term that comes; zero, if none does. -/
def resT (r : Option Trm) : Trm := match r with
  | some t => t
  | none => zeroT
theorem ShiftAny.out {w w' : World} {r : Option Trm} {e : Ending} (h : ShiftAny w r e w') : ∃ A cap, e = .returned (.tuple #[.agg #[.int .u8 (resT r).op, .int .i64 (resT r).col, .string (resT r).cell, .slice A (resT r).kids.length cap], .bool r.isSome]) ∧
    TermIn w' (.agg #[.int .u8 (resT r).op, .int .i64 (resT r).col, .string (resT r).cell, .slice A (resT r).kids.length cap]) (resT r) ∧ Below w.heap.size w w' := by
  cases r with
  | none =>
    obtain ⟨rfl, hb⟩ := h
    exact ⟨none, 0, rfl, zeroT_in _, hb⟩
  | some t =>
    obtain ⟨v, rfl, ⟨kv, rfl, ho, hk⟩, hb⟩ := h
    obtain ⟨A, cap, rfl, -⟩ := kids_at hk
    exact ⟨A, cap, rfl, ⟨_, rfl, ho, hk⟩, hb⟩
/-- What the law TermCompares holds against one another, three times. -/
def cmpV (x y : ByteArray) (k : Nat) : ByteArray := if x = noC ∨ y = noC then noC else boolCell (if k = 0 then ltB x y else if k = 1 then decide (x = y) else ltB y x)
def cntV (x y : ByteArray) : Nat → Nat
  | 0 => 0
  | k + 1 => cntV x y k + (if cmpV x y k = boolCell true then 1 else 0)
theorem cmpV_empty (x y : ByteArray) (k : Nat) : (cmpV x y k).toList.isEmpty = (x.toList.isEmpty || y.toList.isEmpty) := by
  rw [← empty_no, ← empty_no x, ← empty_no y, cmpV]
  have hb : ∀ b : Bool, boolCell b ≠ noC := by decide +kernel
  by_cases h : x = noC ∨ y = noC
  · rw [if_pos h, decide_eq_true rfl]
    rcases h with h | h
    · rw [decide_eq_true h]; rfl
    · rw [decide_eq_true h]; simp
  · rw [if_neg h, decide_eq_false (hb _), decide_eq_false (fun e => h (.inl e)), decide_eq_false (fun e => h (.inr e))]; rfl
theorem bool_yes (b : Bool) : (boolCell b = boolCell true) = (b = true) := by
  cases b
  · exact eq_false (by decide +kernel) |>.trans (by simp)
  · simp
theorem cntV_three {x y : ByteArray} : cntV x y 3 = if x = noC ∨ y = noC then 0 else 1 := by
  show 0 + (if cmpV x y 0 = boolCell true then 1 else 0) + (if cmpV x y 1 = boolCell true then 1 else 0) + (if cmpV x y 2 = boolCell true then 1 else 0) = _
  unfold cmpV
  by_cases h : x = noC ∨ y = noC
  · simp only [if_pos h]
    have : noC ≠ boolCell true := by decide +kernel
    simp only [if_neg this]
  · simp only [if_neg h, bool_yes, Nat.one_ne_zero, if_true, if_false, decide_eq_true_eq]
    rcases lt_three x y with e | e | e
    · subst e
      have h0 : ltB x x = false := ltB_irrefl x
      simp [h0]
    · have h0 := ltB_asym e
      have h1 := ltB_ne e
      simp [e, h0, h1]
    · have h0 := ltB_asym e
      have h1 := (ltB_ne e).symm
      simp [e, h0, h1]
theorem cntV_le (x y : ByteArray) : ∀ k, cntV x y k ≤ k
  | 0 => Nat.le_refl _
  | k + 1 => by
    have := cntV_le x y k
    rw [cntV]
    split <;> omega
theorem cmp_zero (x y : ByteArray) : evalT [] (twoT15 60 (constT x) (constT y)) = cmpV x y 0 := by rw [eval_lt15, eval_const, eval_const]; rfl
theorem cmp_one (x y : ByteArray) : evalT [] (twoT15 61 (constT x) (constT y)) = cmpV x y 1 := by rw [eval_eq15, eval_const, eval_const]; rfl
theorem cmp_two (x y : ByteArray) : evalT [] (twoT15 60 (constT y) (constT x)) = cmpV x y 2 := by
  rw [eval_lt15, eval_const, eval_const, cmpV]
  by_cases h : x = noC ∨ y = noC
  · rw [if_pos h, if_pos h.symm]
  · rw [if_neg h, if_neg (fun k => h k.symm)]; rfl
end Go.Proofs.Ytppmmkmlngmafaa
