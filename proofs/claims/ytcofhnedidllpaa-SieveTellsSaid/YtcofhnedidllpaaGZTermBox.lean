/- A term in a box; texts of cells held against one another; no program. -/
import Derived.Test.YtcofhnedidllpaaGStrs
import Derived.Test.YtcofhnedidllpaaGZTerms
namespace Go.Proofs.Ytcofhnedidllpaa
open Go Go.RowKit
def TrmBox (w:World)(B:Nat)(op col:Int)(cell:ByteArray)(kv:Value):Prop:=Own w B 4 (.slice (some ⟨B,0,none⟩) 1 1) 1 [.int .u8 op,.int .i64 col,.string cell,kv]
section
variable {w w':World}{B:Nat}{op col:Int}{cell:ByteArray}{kv:Value}
theorem TrmBox.cells (h:TrmBox w B op col cell kv):w.cell? ⟨B,0,none⟩=some (.int .u8 op)∧w.cell? ⟨B,1,none⟩=some (.int .i64 col)∧w.cell? ⟨B,2,none⟩=some (.string cell)∧w.cell? ⟨B,3,none⟩=some kv∧B < w.heap.size:=by
 obtain ⟨_,h2,_,hc,_⟩:=Own.parts h
 have e0:=hc 0 _ rfl
 have e1:=hc 1 _ rfl
 have e2:=hc 2 _ rfl
 have e3:=hc 3 _ rfl
 rw [Nat.zero_add] at e0 e1 e2 e3
 exact ⟨e0,e1,e2,e3,h2⟩
theorem TrmBox.later (h:TrmBox w B op col cell kv)(hb:Below w.heap.size w w'):TrmBox w' B op col cell kv:=Own.later h hb
theorem TrmBox.other (h:TrmBox w B op col cell kv){row:Option Nat}(hg:w.grownBy w' row)(hne:row≠some B):TrmBox w' B op col cell kv :=
 Own.other h hg fun k hk e=>by
  simp only [Value.ownBlock,Option.some.injEq] at hk
  subst hk
  exact hne e.symm
theorem trmbox_lit (w:World)(T:TypeId)(op col:Int)(cell:ByteArray)(kv:Value):TrmBox (w.alloc (.cells #[.int .u8 op,.int .i64 col,.string cell,kv] T)) w.heap.size op col cell kv :=
 Own.lit (size:=4) w #[.int .u8 op,.int .i64 col,.string cell,kv] T 1 (Nat.le_refl _) (by unfold maxLen;omega) rfl
theorem TrmBox.mono {B':Nat}(h:TrmBox w B op col cell kv):Own w (min B B') 4 (.slice (some ⟨B,0,none⟩) 1 1) 1 [.int .u8 op,.int .i64 col,.string cell,kv]:=Own.mono h (Nat.min_le_left _ _)
end
theorem TermQ.parts15 {Q:Value→Prop}{w:World}{v:Value}{t:Trm}(h:TermQ Q w v t):∃ A cap,v=.agg #[.int .u8 t.op,.int .i64 t.col,.string t.cell,.slice A t.kids.length cap]:=by
 obtain ⟨kv,rfl,_,hk⟩:=h
 obtain ⟨A,cap,rfl,-⟩:=kids_at hk
 exact ⟨A,cap,rfl⟩
theorem no_cases (a:ByteArray):(a=noC∧a.toList.isEmpty=true∧(!a.toList.isEmpty)=false)∨(a≠noC∧a.toList.isEmpty=false∧(!a.toList.isEmpty)=true):=by
 have e0:noC.toList=[]:=by decide +kernel
 by_cases h:a=noC
 ·left;subst h;rw [e0];exact ⟨rfl,rfl,rfl⟩
 ·right
  have hn:¬a.toList=[]:=fun e=>h (bytes_ext (by rw [←e0] at e;rwa [ByteArray.toList_eq,ByteArray.toList_eq] at e))
  have:a.toList.isEmpty=false:=by
   cases ha:a.toList with
   | nil=>exact absurd ha hn
   | cons x l=>rfl
  exact ⟨h,this,by rw [this];rfl⟩
theorem notC_no:notC noC=noC:=by unfold notC;rw [if_pos rfl]
theorem notC_some {a:ByteArray}(h:a≠noC):notC a=boolCell (!(a.toList==(boolCell true).toList)):=by
 unfold notC
 rw [if_neg h]
 congr 2
 rcases str_ne_cases a (boolCell true) with ⟨h1,h2,_⟩ | ⟨h1,h2,_⟩
 ·rw [h2];exact decide_eq_true h1
 ·rw [h2];exact decide_eq_false h1
theorem yes_at {a:ByteArray}:(a.toList==(boolCell true).toList)=decide (a=yesC):=by
 rcases str_ne_cases a (boolCell true) with ⟨h1,h2,_⟩ | ⟨h1,h2,_⟩
 ·rw [h2];exact (decide_eq_true h1).symm
 ·rw [h2];exact (decide_eq_false h1).symm
theorem both_no {a b:ByteArray}(h:a=nayC∨b=nayC):bothC a b=boolCell false:=by unfold bothC;rw [if_pos h];rfl
end Go.Proofs.Ytcofhnedidllpaa
