/- The contracts of layer 9's Pick. -/
import Derived.Test.YtaoeikeobfllkaaGStrs
import Derived.Test.YtaoeikeobfllkaaGTimes
namespace Go.Proofs.Ytaoeikeobfllkaa
open Go Go.RowKit
theorem Try.infoP9:(Try.prog.info? 9).map (fun i=>(i.zero,i.size,i.bytes))=some (some (.string ⟨#[]⟩),1,16):=by kernel_rfl
def zeroCells (n:Nat):List Value:=List.replicate n (Value.string ⟨#[]⟩)
def PickNew (w:World)(row:List ByteArray)(cols:List Int)(e:Ending)(w':World):Prop :=
 ∃ v,e=.returned (.tuple #[v,.bool (pickOk row cols)])∧StrsIn w' v (pickL row cols)∧Fresh w.heap.size v∧Below w.heap.size w w'
theorem pick_no {w w':World}{row:List ByteArray}{cols:List Int}(h:pickOk row cols=false)(hb:Below w.heap.size w w'):PickNew w row cols (.returned (.tuple #[.slice none 0 0,.bool false])) w' :=
 ⟨_,by rw [h],by rw [pickL_no h];exact SliceOf.nil_ _ _ _ _,fresh_nil _,hb⟩
theorem pick_yes {w w':World}{row:List ByteArray}{cols:List Int}{v:Value}(h:pickOk row cols=true)(hv:StrsIn w' v (pickF row cols))(hf:Fresh w.heap.size v)(hb:Below w.heap.size w w'):PickNew w row cols (.returned (.tuple #[v,.bool true])) w' :=
 ⟨_,by rw [h],by rw [pickL_yes h];exact hv,hf,hb⟩
end Go.Proofs.Ytaoeikeobfllkaa
