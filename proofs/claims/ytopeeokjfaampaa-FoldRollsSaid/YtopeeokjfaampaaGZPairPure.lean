/- Rows of two tables joined: what meets, what comes of it, of rows together too; no program. -/
import Derived.Test.YtopeeokjfaampaaGTimes
namespace Go.Proofs.Ytopeeokjfaampaa
open Go Go.RowKit
abbrev Cl:=Int×Int
def atF (a:List ByteArray)(c:Int):ByteArray:=if 0≤c∧c < (a.length:Int) then a.getD c.toNat ⟨#[]⟩ else ⟨#[]⟩
def meet1 (a b:List ByteArray)(c:Cl):Bool:=decide (atF a c.1≠⟨#[]⟩)&&decide (atF a c.1=atF b c.2)
def linI (f:List ByteArray→Int):List Tm→Int
 | []=>0
 | t::l=>t.2*f t.1+linI f l
def Two (l:List Tm):Prop:=∀ x∈l,x.1.length=2
def swap4 (r:List ByteArray):List ByteArray:=r.drop 2++r.take 2
theorem swap_swap {r:List ByteArray}(h:r.length=4):swap4 (swap4 r)=r:=by
 unfold swap4
 match r,h with
 | [a,b,c,d],_=>rfl
def manyW (l:List Tm):Int:=linI (fun _=>1) l
theorem many_nil:manyW []=0:=rfl
end Go.Proofs.Ytopeeokjfaampaa
