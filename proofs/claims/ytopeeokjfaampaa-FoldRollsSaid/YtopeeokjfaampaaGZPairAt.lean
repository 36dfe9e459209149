/- The contracts of layer 19's at and Meets. -/
import Derived.Test.YtopeeokjfaampaaGStrs
import Derived.Test.YtopeeokjfaampaaGZPairOn
namespace Go.Proofs.Ytopeeokjfaampaa
open Go Go.RowKit
theorem box_cell (w:World)(T:TypeId)(cs:Array Value)(j:Nat)(u:Value)(h:cs[j]? = some u):(w.alloc (.cells cs T)).cell? ⟨w.heap.size,j,none⟩=some u:=by
 unfold World.cell?
 rw [(MapKept.heap_alloc w _).1]
 exact h
theorem text_some {s:ByteArray}(h:s≠⟨#[]⟩):s.toList.isEmpty=false:=by
 cases e:s.toList.isEmpty with
 | false=>rfl
 | true =>
  refine absurd (bytes_ext ?_) h
  have:s.toList=[]:=List.isEmpty_iff.1 e
  rw [ByteArray.toList_eq] at this
  rw [this]
theorem meet1_eq (a b:List ByteArray)(c:Cl):meet1 a b c=(decide (atF a c.1≠⟨#[]⟩)&&decide (atF a c.1=atF b c.2)):=rfl
end Go.Proofs.Ytopeeokjfaampaa
