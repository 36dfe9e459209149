/- Plain facts on numbers by their steps: no program. -/
import Derived.Test.YtbpigfpkcflbkaaShelfPure
namespace Go.Proofs.Ytbpigfpkcflbkaa
open Go Go.RowKit

/-- A step's number. -/
def stepN (p x : Int) : Nat := (foldI (wrap64 (x - p))).toNat
theorem wrap64_range (x : Int) : -9223372036854775808 ≤ wrap64 x ∧ wrap64 x ≤ 9223372036854775807 := by unfold wrap64; omega
theorem stepN_lt (p x : Int) : stepN p x < 18446744073709551616 := by
  have h := wrap64_range (x - p)
  have := foldI_range _ h.1 h.2
  unfold stepN
  omega
theorem step_back (p x : Int) (h0 : -9223372036854775808 ≤ x) (h1 : x ≤ 9223372036854775807) : wrap64 (p + openI (stepN p x)) = x := by
  unfold stepN
  rw [open_fold]
  unfold wrap64
  omega
theorem step_forth (p : Int) (u : Nat) (hu : u < 18446744073709551616) : stepN p (wrap64 (p + openI u)) = u := by
  have h := openI_range u hu
  have e : wrap64 (wrap64 (p + openI u) - p) = openI u := by unfold wrap64; omega
  unfold stepN
  rw [e, fold_open]
  rfl

def stepsB : Int → List Int → List UInt8
  | _, [] => []
  | p, x :: l => vp (stepN p x) ++ stepsB x l
def lastI (p : Int) (l : List Int) : Int := l.getLast?.getD p
def stepsP (l : List Int) : List UInt8 := stepsB 0 l
theorem lastI_nil (p : Int) : lastI p [] = p := rfl
theorem lastI_cons (p x : Int) (l : List Int) : lastI p (x :: l) = lastI x l := by
  cases l with
  | nil => rfl
  | cons y l =>
    unfold lastI
    rw [List.getLast?_cons_cons]
    cases h : (y :: l).getLast? with
    | none => simp at h
    | some z => rfl
theorem lastI_snoc (p x : Int) (l : List Int) : lastI p (l ++ [x]) = x := by simp [lastI]
theorem stepsB_append : ∀ (p : Int) (l m : List Int), stepsB p (l ++ m) = stepsB p l ++ stepsB (lastI p l) m
  | p, [], m => by rw [lastI_nil]; rfl
  | p, x :: l, m => by
    rw [lastI_cons]
    simp only [List.cons_append, stepsB]
    rw [stepsB_append x l m, List.append_assoc]
theorem stepsB_snoc (p x : Int) (l : List Int) : stepsB p (l ++ [x]) = stepsB p l ++ vp (stepN (lastI p l) x) := by
  rw [stepsB_append]; simp [stepsB]
theorem stepsB_prefix : ∀ (p : Int) (l l' : List Int) (r r' : List UInt8), InR l → InR l' → l.length ≤ l'.length → stepsB p l ++ r = stepsB p l' ++ r' → ∃ tl, l' = l ++ tl ∧ r = stepsB (lastI p l) tl ++ r'
  | p, [], l', r, r', _, _, _, h => ⟨l', rfl, h⟩
  | p, x :: l, [], r, r', _, _, hl, _ => absurd hl (by simp)
  | p, x :: l, y :: l', r, r', h1, h2, hl, h => by
    simp only [stepsB, List.append_assoc] at h
    obtain ⟨e, k⟩ := vp_prefix (stepN_lt p x) (stepN_lt p y) h
    have hx := h1 x List.mem_cons_self
    have hy := h2 y List.mem_cons_self
    have bx := step_back p x hx.1 hx.2
    have by' := step_back p y hy.1 hy.2
    rw [e, by'] at bx
    subst bx
    obtain ⟨tl, e1, e2⟩ := stepsB_prefix y l l' r r' (fun z hz => h1 z (List.mem_cons_of_mem _ hz)) (fun z hz => h2 z (List.mem_cons_of_mem _ hz)) (by simpa using hl) k
    exact ⟨tl, by rw [e1]; rfl, by rw [lastI_cons]; exact e2⟩

def StepsAt (s : List UInt8) (many : Int) (l : List Int) (r : List UInt8) : Prop := 0 ≤ many ∧ many ≤ 4096 ∧ (l.length : Int) = many ∧ InR l ∧ s = stepsP l ++ r
theorem StepsAt.same {s : List UInt8} {many : Int} {l l' : List Int} {r r' : List UInt8} (h : StepsAt s many l r) (k : StepsAt s many l' r') : l = l' ∧ r = r' := by
  obtain ⟨_, _, h3, h4, h5⟩ := h
  obtain ⟨_, _, k3, k4, k5⟩ := k
  obtain ⟨tl, e1, e2⟩ := stepsB_prefix 0 l l' r r' h4 k4 (by omega) (h5.symm.trans k5)
  have ht : tl = [] := by
    have := congrArg List.length e1
    rw [List.length_append] at this
    exact List.eq_nil_of_length_eq_zero (by omega)
  subst ht
  exact ⟨by simpa using e1.symm, by simpa [stepsB] using e2⟩
/-- Where some are read, and one more is to be, one more stands there. -/
theorem StepsAt.more {s r0 : List UInt8} {many : Int} {l l0 : List Int} {r : List UInt8} (h : StepsAt s many l r) (h0 : InR l0) (e0 : s = stepsP l0 ++ r0) (hl : (l0.length : Int) < many) :
    ∃ u rest, u < 18446744073709551616 ∧ r0 = vp u ++ rest := by
  obtain ⟨_, _, h3, h4, h5⟩ := h
  obtain ⟨tl, e1, e2⟩ := stepsB_prefix 0 l0 l r0 r h0 h4 (by omega) (e0.symm.trans h5)
  cases tl with
  | nil => rw [List.append_nil] at e1; subst e1; omega
  | cons x tl => exact ⟨stepN (lastI 0 l0) x, stepsB x tl ++ r, stepN_lt _ _, by rw [e2]; simp [stepsB]⟩
end Go.Proofs.Ytbpigfpkcflbkaa
