/- Plain facts on columns and rows: rows in order, cells picked; no program. -/
import Derived.Test.YtppmmkmlngmafaaTextOrder
namespace Go.Proofs.Ytppmmkmlngmafaa
open Go Go.RowKit

/-- Which of two rows stands ahead. -/
def cmpL : List ByteArray → List ByteArray → Int
  | [], [] => 0
  | [], _ :: _ => -1
  | _ :: _, [] => 1
  | a :: x, b :: y => if a = b then cmpL x y else if ltB a b then -1 else 1
theorem cmpL_self : ∀ a : List ByteArray, cmpL a a = 0
  | [] => rfl
  | x :: a => by unfold cmpL; rw [if_pos rfl]; exact cmpL_self a
theorem cmpL_front (x : ByteArray) (a b : List ByteArray) : cmpL (x :: a) (x :: b) = cmpL a b := by
  show (if x = x then cmpL a b else _) = _
  rw [if_pos rfl]
theorem cmpL_less (x y : ByteArray) (a b : List ByteArray) (h : ltB x y = true) : cmpL (x :: a) (y :: b) = -1 := by
  show (if x = y then cmpL a b else if ltB x y then -1 else 1) = _
  rw [if_neg (ltB_ne h), if_pos h]
theorem cmpL_more (x y : ByteArray) (a b : List ByteArray) (h : ltB y x = true) : cmpL (x :: a) (y :: b) = 1 := by
  show (if x = y then cmpL a b else if ltB x y then -1 else 1) = _
  rw [if_neg (ltB_ne h).symm, if_neg (by rw [ltB_asym h]; decide)]
theorem lt_three (x y : ByteArray) : x = y ∨ ltB x y = true ∨ ltB y x = true := by
  cases h : ltB x y with
  | true => exact .inr (.inl rfl)
  | false =>
    cases k : ltB y x with
    | true => exact .inr (.inr rfl)
    | false => exact .inl (ltB_tri h k)
theorem cmpL_append : ∀ c a b : List ByteArray, cmpL (c ++ a) (c ++ b) = cmpL a b
  | [], _, _ => rfl
  | x :: c, a, b => (cmpL_front x (c ++ a) (c ++ b)).trans (cmpL_append c a b)
theorem cmpL_range : ∀ a b : List ByteArray, -1 ≤ cmpL a b ∧ cmpL a b ≤ 1
  | [], [] => by decide
  | [], _ :: _ => by show -1 ≤ (-1 : Int) ∧ (-1 : Int) ≤ 1; decide
  | _ :: _, [] => by show -1 ≤ (1 : Int) ∧ (1 : Int) ≤ 1; decide
  | x :: a, y :: b => by
    rcases lt_three x y with rfl | h | h
    · rw [cmpL_front]; exact cmpL_range a b
    · rw [cmpL_less _ _ _ _ h]; decide
    · rw [cmpL_more _ _ _ _ h]; decide
theorem cmpL_swap : ∀ a b : List ByteArray, cmpL b a = - cmpL a b
  | [], [] => rfl
  | [], _ :: _ => rfl
  | _ :: _, [] => rfl
  | x :: a, y :: b => by
    rcases lt_three x y with rfl | h | h
    · rw [cmpL_front, cmpL_front]; exact cmpL_swap a b
    · rw [cmpL_less _ _ _ _ h, cmpL_more _ _ _ _ h]; rfl
    · rw [cmpL_less _ _ _ _ h, cmpL_more _ _ _ _ h]
theorem cmpL_zero : ∀ a b : List ByteArray, cmpL a b = 0 ↔ a = b
  | [], [] => by simp [cmpL]
  | [], _ :: _ => by simp [cmpL]
  | _ :: _, [] => by simp [cmpL]
  | x :: a, y :: b => by
    rcases lt_three x y with rfl | h | h
    · rw [cmpL_front, cmpL_zero a b, List.cons.injEq]; simp
    · rw [cmpL_less _ _ _ _ h, List.cons.injEq]
      have := ltB_ne h
      constructor
      · intro h; exact absurd h (by decide)
      · intro h; exact absurd h.1 this
    · rw [cmpL_more _ _ _ _ h, List.cons.injEq]
      have := (ltB_ne h).symm
      constructor
      · intro h; exact absurd h (by decide)
      · intro h; exact absurd h.1 this
theorem cmpL_chain : ∀ a b c : List ByteArray, cmpL a b = -1 → cmpL b c = -1 → cmpL a c = -1
  | [], [], _, h, _ => absurd h (by decide)
  | _ :: _, [], _, h, _ => absurd h (by show ¬ (1 : Int) = -1; decide)
  | _, _ :: _, [], _, h => absurd h (by show ¬ (1 : Int) = -1; decide)
  | [], _ :: _, _ :: _, _, _ => rfl
  | x :: a, y :: b, z :: c, h, k => by
    rcases lt_three x y with rfl | h1 | h1
    · rw [cmpL_front] at h
      rcases lt_three x z with rfl | k1 | k1
      · rw [cmpL_front] at k ⊢; exact cmpL_chain a b c h k
      · exact cmpL_less _ _ _ _ k1
      · rw [cmpL_more _ _ _ _ k1] at k; exact absurd k (by decide)
    · rcases lt_three y z with rfl | k1 | k1
      · exact cmpL_less _ _ _ _ h1
      · exact cmpL_less _ _ _ _ (ltB_trans h1 k1)
      · rw [cmpL_more _ _ _ _ k1] at k; exact absurd k (by decide)
    · rw [cmpL_more _ _ _ _ h1] at h; exact absurd h (by decide)

/-- A row's cells in columns, if it has each. -/
def pickOk (row : List ByteArray) (cols : List Int) : Bool := cols.all fun c => decide (0 ≤ c) && decide (c < row.length)
def pickF (row : List ByteArray) (cols : List Int) : List ByteArray := cols.map fun c => row.getD c.toNat ⟨#[]⟩
def pickL (row : List ByteArray) (cols : List Int) : List ByteArray := if pickOk row cols then pickF row cols else []
theorem pickF_length (row : List ByteArray) (cols : List Int) : (pickF row cols).length = cols.length := List.length_map _
theorem pickL_length (row : List ByteArray) (cols : List Int) : (pickL row cols).length ≤ cols.length := by
  unfold pickL; split
  · rw [pickF_length]; exact Nat.le_refl _
  · simp
theorem pickL_yes {row : List ByteArray} {cols : List Int} (h : pickOk row cols = true) : pickL row cols = pickF row cols := if_pos h
theorem pickL_no {row : List ByteArray} {cols : List Int} (h : pickOk row cols = false) : pickL row cols = [] := by unfold pickL; rw [h]; rfl
theorem pickOk_of {row : List ByteArray} {cols : List Int} (h : ∀ c ∈ cols, 0 ≤ c ∧ c < row.length) : pickOk row cols = true := by
  unfold pickOk
  rw [List.all_eq_true]
  intro c hc
  rw [decide_eq_true (h c hc).1, decide_eq_true (h c hc).2]; rfl
theorem pickOk_not {row : List ByteArray} {cols : List Int} {c : Int} (hc : c ∈ cols) (h : ¬ (0 ≤ c ∧ c < row.length)) : pickOk row cols = false := by
  cases hp : pickOk row cols with
  | false => rfl
  | true =>
    unfold pickOk at hp
    rw [List.all_eq_true] at hp
    have := hp c hc
    rw [Bool.and_eq_true, decide_eq_true_eq, decide_eq_true_eq] at this
    exact absurd this h
theorem pickF_get (row : List ByteArray) (cols : List Int) (k : Nat) (hk : k < cols.length) (j : Nat) (hj : j < row.length) (e : cols[k] = j) : ((pickF row cols).map Value.string)[k]? = some (.string row[j]) := by
  unfold pickF
  rw [List.getElem?_map, List.getElem?_map, List.getElem?_eq_getElem hk, e]
  simp only [Option.map_some, Int.toNat_natCast]
  rw [List.getD_eq_getElem?_getD, List.getElem?_eq_getElem hj]; rfl
theorem pickF_snoc (row : List ByteArray) (cols : List Int) (k : Nat) (hk : k < cols.length) (j : Nat) (hj : j < row.length) (e : cols[k] = j) : pickF row (cols.take (k + 1)) = pickF row (cols.take k) ++ [row[j]] := by
  unfold pickF
  rw [List.take_add_one, List.getElem?_eq_getElem hk, List.map_append, e]
  simp only [Option.toList_some, List.map_cons, List.map_nil, Int.toNat_natCast]
  rw [List.getD_eq_getElem?_getD, List.getElem?_eq_getElem hj]; rfl
end Go.Proofs.Ytppmmkmlngmafaa
