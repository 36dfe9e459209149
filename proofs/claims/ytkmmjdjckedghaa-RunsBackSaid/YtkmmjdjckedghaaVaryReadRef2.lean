/- Contracts of a tape's further methods, of the answer. -/
import Derived.Test.YtkmmjdjckedghaaVaryRead
import Derived.Test.YtkmmjdjckedghaaVaryReadRef
namespace Go.Proofs.Ytkmmjdjckedghaa
open Go Go.RowKit

theorem ref_tnum_calls (b : Nat) (s : ByteArray) (bad : Bool) (m : Int) :
    Takes Try.prog 35 26 [.int .u64 m] b s bad (.int .u64 ((numT s bad m).1 : Nat)) (numT s bad m).2.1 (numT s bad m).2.2 := by
  cases bad with
  | true => exact ref_num_bad b s m
  | false => exact ref_num_good b s m

set_option maxHeartbeats 400000 in
theorem ref_ttext_calls (b : Nat) (s : ByteArray) (bad : Bool) (n : Nat) (hs : s.size ≤ 9223372036854775807) :
    Takes Try.prog 35 29 [.int .u64 n] b s bad (.string (textT s bad n).1) (textT s bad n).2.1 (textT s bad n).2.2 := by
  intro w hT
  have hw := wrap_size s hs
  have hc0 := hT.c0
  have hc1 := hT.c1
  have hf0 := hT.f0 0
  have hf1 := hT.f0 1
  have hg := grown_refl w (some b)
  cases bad with
  | true =>
    clear hs hw
    go_enter Try.func29, Try.ntmps29
    go_wp2
    go_ret
    exact ⟨rfl, hT.set1 _, grown_set hg _ _⟩
  | false =>
    by_cases hn : n ≤ s.size
    · have HE := Lib.hid (show textT s false n = (s.extract 0 n, s.extract n s.size, false) by unfold textT; rw [if_neg (by decide), if_pos hn])
      have hd : decide ((s.size : Int) < (n : Int)) = false := by rw [decide_eq_false_iff_not]; omega
      have hd' : decide (s.size < n) = false := by rw [decide_eq_false_iff_not]; omega
      clear hs
      go_enter Try.func29, Try.ntmps29
      go_wp2
      go_ret
      rw [HE.out]
      exact ⟨rfl, hT.set0 _, grown_set hg _ _⟩
    · have HE := Lib.hid (show textT s false n = (⟨#[]⟩, s, true) by unfold textT; rw [if_neg (by decide), if_neg hn])
      have hd : decide ((s.size : Int) < (n : Int)) = true := by rw [decide_eq_true_eq]; omega
      have hd' : decide (s.size < n) = true := by rw [decide_eq_true_eq]; omega
      clear hs
      go_enter Try.func29, Try.ntmps29
      go_wp2
      go_ret
      rw [HE.out]
      exact ⟨rfl, hT.set1 _, grown_set hg _ _⟩
end Go.Proofs.Ytkmmjdjckedghaa
