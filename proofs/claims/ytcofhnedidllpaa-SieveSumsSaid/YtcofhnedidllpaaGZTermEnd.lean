/- Calls that give a term; the laws' terms; literals of parts. -/
import Derived.Test.YtcofhnedidllpaaGZTermRef
namespace Go.Proofs.Ytcofhnedidllpaa
open Go Go.RowKit
def TermEndQ (Q:Value→Prop)(w:World)(t:Trm)(e:Ending)(w':World):Prop:=∃ v,e=.returned v∧TermQ Q w' v t∧Below w.heap.size w w'
abbrev TermEnd (w:World) (t:Trm) (e:Ending) (w':World):Prop:=TermEndQ (fun _=>True) w t e w'
theorem TermEndQ.out {Q:Value→Prop}{w w':World}{t:Trm}{e:Ending}(h:TermEndQ Q w t e w'):∃ A cap,e=.returned (.agg #[.int .u8 t.op,.int .i64 t.col,.string t.cell,.slice A t.kids.length cap])∧TermQ Q w' (.agg #[.int .u8 t.op,.int .i64 t.col,.string t.cell,.slice A t.kids.length cap]) t∧Below w.heap.size w w':=by
 obtain ⟨v,rfl,⟨kv,rfl,ho,hk⟩,hb⟩:=h
 obtain ⟨A,cap,rfl,-⟩:=kids_at hk
 exact ⟨A,cap,rfl,⟨_,rfl,ho,hk⟩,hb⟩
theorem TermEnd.out {w w':World}{t:Trm}{e:Ending}(h:TermEnd w t e w'):∃ A cap,e=.returned (.agg #[.int .u8 t.op,.int .i64 t.col,.string t.cell,.slice A t.kids.length cap])∧TermIn w' (.agg #[.int .u8 t.op,.int .i64 t.col,.string t.cell,.slice A t.kids.length cap]) t∧Below w.heap.size w w':=TermEndQ.out h
def colT15 (c:Int):Trm:=.mk 99 c noC []
def oneT15 (op:Int)(a:Trm):Trm:=.mk op 0 noC [a]
def twoT15 (op:Int)(a b:Trm):Trm:=.mk op 0 noC [a,b]
theorem kids_lit {w:World}(T:TypeId)(tv:List (Value×Trm)){l:List Trm}{N n:Nat}(hr:∀ t∈tv,okT t.2∧KidsIn w t.1 t.2.kids)(h:tv.length≤1000)(hl:tv.map Prod.snd=l)(hN:w.heap.size=N)(hn:tv.length=n)(cs:Array Value)(hcs:(trmsV tv).toArray=cs) :
  KidsIn (w.alloc (.cells cs T)) (.slice (some ⟨N,0,none⟩) n n) l:=by
 subst hl hN hn hcs
 exact lit_kids w T tv hr h trivial
end Go.Proofs.Ytcofhnedidllpaa
