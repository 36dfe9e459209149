/- The contract of layer 15's answer: Shift. -/
import Derived.Test.YtnkhkkdmjabhnaaGZTermRefB
import Derived.Test.YtnkhkkdmjabhnaaGZTermsOwn
namespace Go.Proofs.Ytnkhkkdmjabhnaa
open Go Go.RowKit
theorem Try.infoCe24:(Try.prog.info? 24).map (fun i=>(i.zero,i.size,i.bytes))=some (some (.agg #[.int .u8 0,.int .i64 0,.string ⟨#[]⟩,.slice none 0 0]),4,56):=by kernel_rfl
def ShiftEnd (w:World)(r:Option Trm)(e:Ending)(w':World):Prop:=match r with
 | some t'=>∃ v',e=.returned (.tuple #[v',.bool true])∧TermQ (Fresh w.heap.size) w' v' t'∧Below w.heap.size w w'
 | none=>e=.returned (.tuple #[.agg #[.int .u8 0,.int .i64 0,.string ⟨#[]⟩,.slice none 0 0],.bool false])∧Below w.heap.size w w'
def ShiftAny (w:World)(r:Option Trm)(e:Ending)(w':World):Prop:=match r with
 | some t'=>∃ v',e=.returned (.tuple #[v',.bool true])∧TermIn w' v' t'∧Below w.heap.size w w'
 | none=>e=.returned (.tuple #[.agg #[.int .u8 0,.int .i64 0,.string ⟨#[]⟩,.slice none 0 0],.bool false])∧Below w.heap.size w w'
theorem ShiftEnd.any {w w':World}{r:Option Trm}{e:Ending}(h:ShiftEnd w r e w'):ShiftAny w r e w':=by
 cases r with
 | none=>exact h
 | some t =>
  obtain ⟨v,he,ht,hb⟩:=h
  exact ⟨v,he,ht.any,hb⟩
end Go.Proofs.Ytnkhkkdmjabhnaa
