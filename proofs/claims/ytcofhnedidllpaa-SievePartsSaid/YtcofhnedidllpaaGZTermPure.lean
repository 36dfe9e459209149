/- Terms: what they are, how many parts, what they come to of a row, with other columns; no program. -/
import Derived.Test.YtcofhnedidllpaaGCell
namespace Go.Proofs.Ytcofhnedidllpaa
open Go Go.RowKit
inductive Trm where
 | mk (op col:Int) (cell:ByteArray) (kids:List Trm)
def Trm.op:Trm→Int
 | .mk o _ _ _=>o
def Trm.col:Trm→Int
 | .mk _ c _ _=>c
def Trm.cell:Trm→ByteArray
 | .mk _ _ b _=>b
def Trm.kids:Trm→List Trm
 | .mk _ _ _ ks=>ks
theorem Trm.kid_lt {t k:Trm}(h:k∈t.kids):SizeOf.sizeOf k < SizeOf.sizeOf t:=by
 cases t with
 | mk o c b ks =>
  have h1:=List.sizeOf_lt_of_mem (show k∈ks from h)
  simp only [Trm.mk.sizeOf_spec]
  omega
theorem Trm.ind {P:Trm→Prop}(h:∀ t,(∀ k∈t.kids,P k)→P t)(t:Trm):P t:=by
 have:∀ n (t:Trm),SizeOf.sizeOf t≤n→P t:=by
  intro n
  induction n with
  | zero=>intro t ht;cases t;simp at ht
  | succ n ih=>intro t ht;exact h t fun k hk=>ih k (by have:=Trm.kid_lt hk;omega)
 exact this _ t (Nat.le_refl _)
def okT (t:Trm):Prop:=0≤t.op∧t.op≤255∧-9223372036854775808≤t.col∧t.col≤9223372036854775807
def noC:ByteArray:=⟨#[]⟩
def yesC:ByteArray:=boolCell true
def nayC:ByteArray:=boolCell false
def bothC (a b:ByteArray):ByteArray:=if a=nayC∨b=nayC then nayC else if a=yesC∧b=yesC then yesC else noC
def notC (a:ByteArray):ByteArray:=if a=noC then noC else boolCell (!decide (a=yesC))
def atC (row:List ByteArray)(c:Int):ByteArray:=if 0≤c∧c < row.length then row.getD c.toNat noC else noC
def opC (row:List ByteArray)(op col:Int)(cell a b:ByteArray):ByteArray :=
 if op=99 then atC row col
 else if op=107 then cell
 else if op=61 then (if a=noC∨b=noC then noC else boolCell (decide (a=b)))
 else if op=60 then (if a=noC∨b=noC then noC else boolCell (ltB a b))
 else if op=38 then bothC a b
 else if op=124 then notC (bothC (notC a) (notC b))
 else if op=33 then notC a
 else if op=63 then boolCell (decide (a=noC))
 else noC
mutual
def evalT (row:List ByteArray):Trm→ByteArray
 | .mk op col cell ks=>opC row op col cell ((evalTs row ks).getD 0 noC) ((evalTs row ks).getD 1 noC)
def evalTs (row:List ByteArray):List Trm→List ByteArray
 | []=>[]
 | k::ks=>evalT row k::evalTs row ks
end
theorem evalTs_map (row:List ByteArray):∀ ks,evalTs row ks=ks.map (evalT row)
 | []=>rfl
 | k::ks=>by rw [evalTs,evalTs_map row ks];rfl
def kidC (row:List ByteArray)(t:Trm)(i:Nat):ByteArray:=(t.kids.map (evalT row)).getD i noC
theorem eval_eq (row:List ByteArray)(t:Trm):evalT row t=opC row t.op t.col t.cell (kidC row t 0) (kidC row t 1):=by
 cases t with
 | mk o c b ks=>rw [evalT,evalTs_map];rfl
theorem kidC_some {row:List ByteArray}{t:Trm}{i:Nat}(h:i < t.kids.length):kidC row t i=evalT row t.kids[i]:=by
 unfold kidC
 rw [List.getD_eq_getElem?_getD,List.getElem?_map,List.getElem?_eq_getElem h]
 rfl
theorem kidC_none {row:List ByteArray}{t:Trm}{i:Nat}(h:t.kids.length≤i):kidC row t i=noC:=by
 unfold kidC
 rw [List.getD_eq_getElem?_getD,List.getElem?_eq_none (by simpa using h)]
 rfl
end Go.Proofs.Ytcofhnedidllpaa
