/- The contract of Done of the answer's tape. -/
import Derived.Test.YtofepmdfciijeaaGreatGVaryRead
namespace Go.Proofs.YtofepmdfciijeaaGreat
open Go Go.RowKit

set_option maxHeartbeats 400000 in
theorem ref_tdone_calls (b : Nat) (s : ByteArray) (bad : Bool) (w : World) (hT : TapeIn 59 w b s bad) :
    Calls Tryz.prog 28 #[.pointer (some ⟨b, 0, none⟩)] w fun e w' => e = .returned (.bool (!bad && s.toList.isEmpty)) ∧ w = w' := by
  have hc0 := hT.c0
  have hc1 := hT.c1
  cases bad
  all_goals
    go_enter Tryz.func28, Tryz.ntmps28
    go_wp2
    go_ret
    exact ⟨by simp, rfl⟩

end Go.Proofs.YtofepmdfciijeaaGreat
