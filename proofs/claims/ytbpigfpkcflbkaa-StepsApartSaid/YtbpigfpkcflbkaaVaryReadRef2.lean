/- Contracts of a tape's further methods, of the answer. -/
import Derived.Test.YtbpigfpkcflbkaaVaryRead
import Derived.Test.YtbpigfpkcflbkaaVaryReadRef
namespace Go.Proofs.Ytbpigfpkcflbkaa
open Go Go.RowKit

theorem ref_tnum_calls (b : Nat) (s : ByteArray) (bad : Bool) (m : Int) :
    Takes Try.prog 29 29 [.int .u64 m] b s bad (.int .u64 ((numT s bad m).1 : Nat)) (numT s bad m).2.1 (numT s bad m).2.2 := by
  cases bad with
  | true => exact ref_num_bad b s m
  | false => exact ref_num_good b s m

set_option maxHeartbeats 400000 in
set_option maxRecDepth 100000 in
theorem ref_tint_calls (b : Nat) (s : ByteArray) (bad : Bool) :
    Takes Try.prog 29 18 [] b s bad (.int .i64 (openI (numT s bad maxU).1)) (numT s bad maxU).2.1 (numT s bad maxU).2.2 := by
  intro w hT
  have hl := Lib.hid (numT_lt s bad maxU)
  have hn := Lib.hid (ref_tnum_calls b s bad maxU)
  go_enter Try.func18, Try.ntmps18
  go_wp2_with (first | (go_at_call 29; refine hn.out.step hT (grown_refl w (some b)) ?_; clear hT; intro w' hT hg) | (go_at_call 28; refine (ref_open_calls _ hl.out _).mono ?_; rintro e w' ⟨rfl, rfl⟩))
  go_ret
  exact ⟨rfl, hT, hg⟩

end Go.Proofs.Ytbpigfpkcflbkaa
