/- Terms: what they are, how many parts, what they come to of a row, with other columns; no program. -/
import Derived.Test.YtppmmkmlngmafaaCellWalks
import Derived.Test.YtppmmkmlngmafaaTextOrder
namespace Go.Proofs.Ytppmmkmlngmafaa
open Go Go.RowKit

/-- A term: its sign, its column, its cell, its parts. -/
inductive Trm where
  | mk (op col : Int) (cell : ByteArray) (kids : List Trm)
def Trm.op : Trm → Int
  | .mk o _ _ _ => o
def Trm.col : Trm → Int
  | .mk _ c _ _ => c
def Trm.cell : Trm → ByteArray
  | .mk _ _ b _ => b
def Trm.kids : Trm → List Trm
  | .mk _ _ _ ks => ks
theorem Trm.eta (t : Trm) : Trm.mk t.op t.col t.cell t.kids = t := by cases t; rfl
theorem Trm.kid_lt {t k : Trm} (h : k ∈ t.kids) : SizeOf.sizeOf k < SizeOf.sizeOf t := by
  cases t with
  | mk o c b ks =>
    have h1 := List.sizeOf_lt_of_mem (show k ∈ ks from h)
    simp only [Trm.mk.sizeOf_spec]
    omega
/-- By parts. -/
theorem Trm.ind {P : Trm → Prop} (h : ∀ t, (∀ k ∈ t.kids, P k) → P t) (t : Trm) : P t := by
  have : ∀ n (t : Trm), SizeOf.sizeOf t ≤ n → P t := by
    intro n
    induction n with
    | zero => intro t ht; cases t; simp at ht
    | succ n ih => intro t ht; exact h t fun k hk => ih k (by have := Trm.kid_lt hk; omega)
  exact this _ t (Nat.le_refl _)
/-- What a term's sign, column and number may be. -/
def okT (t : Trm) : Prop := 0 ≤ t.op ∧ t.op ≤ 255 ∧ -9223372036854775808 ≤ t.col ∧ t.col ≤ 9223372036854775807

/-- Nothing. -/
def noC : ByteArray := ⟨#[]⟩
def yesC : ByteArray := boolCell true
def nayC : ByteArray := boolCell false
def bothC (a b : ByteArray) : ByteArray := if a = nayC ∨ b = nayC then nayC else if a = yesC ∧ b = yesC then yesC else noC
def notC (a : ByteArray) : ByteArray := if a = noC then noC else boolCell (!decide (a = yesC))
/-- A row's cell; nothing, if there is none. -/
def atC (row : List ByteArray) (c : Int) : ByteArray := if 0 ≤ c ∧ c < row.length then row.getD c.toNat noC else noC
/-- What a term comes to, by what its first two parts do. -/
def opC (row : List ByteArray) (op col : Int) (cell a b : ByteArray) : ByteArray :=
  if op = 99 then atC row col
  else if op = 107 then cell
  else if op = 61 then (if a = noC ∨ b = noC then noC else boolCell (decide (a = b)))
  else if op = 60 then (if a = noC ∨ b = noC then noC else boolCell (ltB a b))
  else if op = 38 then bothC a b
  else if op = 124 then notC (bothC (notC a) (notC b))
  else if op = 33 then notC a
  else if op = 63 then boolCell (decide (a = noC))
  else noC
mutual
def evalT (row : List ByteArray) : Trm → ByteArray
  | .mk op col cell ks => opC row op col cell ((evalTs row ks).getD 0 noC) ((evalTs row ks).getD 1 noC)
def evalTs (row : List ByteArray) : List Trm → List ByteArray
  | [] => []
  | k :: ks => evalT row k :: evalTs row ks
end
theorem evalTs_map (row : List ByteArray) : ∀ ks, evalTs row ks = ks.map (evalT row)
  | [] => rfl
  | k :: ks => by rw [evalTs, evalTs_map row ks]; rfl
/-- What a part comes to; nothing, if there is none. -/
def kidC (row : List ByteArray) (t : Trm) (i : Nat) : ByteArray := (t.kids.map (evalT row)).getD i noC
theorem eval_eq (row : List ByteArray) (t : Trm) : evalT row t = opC row t.op t.col t.cell (kidC row t 0) (kidC row t 1) := by
  cases t with
  | mk o c b ks => rw [evalT, evalTs_map]; rfl
theorem kidC_some {row : List ByteArray} {t : Trm} {i : Nat} (h : i < t.kids.length) : kidC row t i = evalT row t.kids[i] := by
  unfold kidC
  rw [List.getD_eq_getElem?_getD, List.getElem?_map, List.getElem?_eq_getElem h]
  rfl
theorem kidC_none {row : List ByteArray} {t : Trm} {i : Nat} (h : t.kids.length ≤ i) : kidC row t i = noC := by
  unfold kidC
  rw [List.getD_eq_getElem?_getD, List.getElem?_eq_none (by simpa using h)]
  rfl

mutual
def sizeT : Trm → Nat
  | .mk _ _ _ ks => 1 + sizeTs ks
def sizeTs : List Trm → Nat
  | [] => 0
  | k :: ks => sizeT k + sizeTs ks
end
theorem sizeT_eq (t : Trm) : sizeT t = 1 + sizeTs t.kids := by cases t; rw [sizeT]; rfl
theorem sizeTs_append : ∀ a b : List Trm, sizeTs (a ++ b) = sizeTs a + sizeTs b
  | [], b => by rw [List.nil_append, sizeTs, Nat.zero_add]
  | k :: a, b => by rw [List.cons_append, sizeTs, sizeTs, sizeTs_append a b, Nat.add_assoc]
theorem sizeTs_step {ks : List Trm} {j : Nat} (h : j < ks.length) : sizeTs (ks.take (j + 1)) = sizeTs (ks.take j) + sizeT ks[j] := by
  have e : ks.take (j + 1) = ks.take j ++ [ks[j]] := by rw [List.take_add_one, List.getElem?_eq_getElem h]; rfl
  rw [e, sizeTs_append, sizeTs, sizeTs, Nat.add_zero]

/-- The number that stands in a place; none, if there is none or it is below 0. -/
def toT (to : List Int) (c : Int) : Option Int := if 0 ≤ c ∧ c < to.length then (if 0 ≤ to.getD c.toNat 0 then some (to.getD c.toNat 0) else none) else none
mutual
def shiftT (to : List Int) : Trm → Option Trm
  | .mk op col cell ks => match (if op = 99 then toT to col else some col), shiftTs to ks with
    | some c, some l => some (.mk op c cell l)
    | _, _ => none
def shiftTs (to : List Int) : List Trm → Option (List Trm)
  | [] => some []
  | k :: ks => match shiftT to k, shiftTs to ks with
    | some x, some l => some (x :: l)
    | _, _ => none
end
/-- A term's own column, turned. -/
def colT (to : List Int) (op col : Int) : Option Int := if op = 99 then toT to col else some col
theorem shift_eq (to : List Int) (t : Trm) : shiftT to t = match colT to t.op t.col, shiftTs to t.kids with
    | some c, some l => some (.mk t.op c t.cell l)
    | _, _ => none := by
  cases t with
  | mk o c b ks => rw [shiftT]; rfl
theorem shiftTs_append (to : List Int) : ∀ a b : List Trm, shiftTs to (a ++ b) = match shiftTs to a, shiftTs to b with
    | some x, some y => some (x ++ y)
    | _, _ => none
  | [], b => by
    rw [List.nil_append, shiftTs]
    cases shiftTs to b <;> rfl
  | k :: a, b => by
    rw [List.cons_append, shiftTs, shiftTs, shiftTs_append to a b]
    cases shiftT to k <;> cases shiftTs to a <;> cases shiftTs to b <;> rfl
theorem shiftTs_step {to : List Int} {ks l : List Trm} {x : Trm} {j : Nat} (h : j < ks.length) (hl : shiftTs to (ks.take j) = some l) (hx : shiftT to ks[j] = some x) : shiftTs to (ks.take (j + 1)) = some (l ++ [x]) := by
  have e : ks.take (j + 1) = ks.take j ++ [ks[j]] := by rw [List.take_add_one, List.getElem?_eq_getElem h]; rfl
  rw [e, shiftTs_append, hl, shiftTs, hx, shiftTs]
theorem shiftTs_stop {to : List Int} {ks : List Trm} {j : Nat} (h : j < ks.length) (hx : shiftT to ks[j] = none) : shiftTs to ks = none := by
  have e : ks = ks.take j ++ ks[j] :: ks.drop (j + 1) := by rw [← List.drop_eq_getElem_cons h, List.take_append_drop]
  rw [e, shiftTs_append, shiftTs, hx]
  cases shiftTs to (ks.take j) <;> rfl
theorem shiftTs_len {to : List Int} : ∀ {ks l : List Trm}, shiftTs to ks = some l → l.length = ks.length
  | [], l, h => by rw [shiftTs] at h; rw [← Option.some.inj h]
  | k :: ks, l, h => by
    rw [shiftTs] at h
    cases h1 : shiftT to k with
    | none => rw [h1] at h; exact absurd h (by simp)
    | some x =>
      cases h2 : shiftTs to ks with
      | none => rw [h1, h2] at h; exact absurd h (by simp)
      | some m =>
        rw [h1, h2] at h
        rw [← Option.some.inj h, List.length_cons, List.length_cons, shiftTs_len h2]
theorem wrap_plus (a b : Nat) : wrap64 (wrap64 (a : Int) + wrap64 (b : Int)) = wrap64 ((a + b : Nat) : Int) := by
  unfold wrap64
  omega
end Go.Proofs.Ytppmmkmlngmafaa
