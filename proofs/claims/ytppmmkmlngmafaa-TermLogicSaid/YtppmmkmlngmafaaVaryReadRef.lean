/- Contracts of a tape's methods, of the answer. -/
import Derived.Test.YtppmmkmlngmafaaVaryRead
namespace Go.Proofs.Ytppmmkmlngmafaa
open Go Go.RowKit

theorem byte_ge (s : ByteArray) (k : Nat) (hk : k < s.size) (ha : ∀ x ∈ s.data.toList.take k, 128 ≤ x.toNat) (h : ¬ s[k].toNat < 128) : ∀ x ∈ s.data.toList.take (k + 1), 128 ≤ x.toNat := by
  intro x hx
  rw [take_form _ _ _ (byte_at s k hk)] at hx
  rcases List.mem_append.1 hx with hx | hx
  · exact ha x hx
  · simp at hx; subst hx; omega
theorem numT_none (s : ByteArray) (m : Int) (h : nextNum s.data.toList = none) : numT s false m = (0, s, true) := by unfold numT; rw [h]; rfl
theorem numT_over (s : ByteArray) (m : Int) (n k : Nat) (h : nextNum s.data.toList = some (n, k)) (hm : m < n) : numT s false m = (0, s, true) := by
  unfold numT; rw [h]; simp only [Bool.false_eq_true, if_false]; rw [if_neg (by omega)]
theorem numT_ok (s : ByteArray) (m : Int) (n k : Nat) (h : nextNum s.data.toList = some (n, k)) (hm : (n : Int) ≤ m) : numT s false m = (n, s.extract k s.size, false) := by
  unfold numT; rw [h]; simp only [Bool.false_eq_true, if_false]; rw [if_pos hm]
theorem ref_step (s : ByteArray) (k : Nat) (h : k < s.size) (h9 : k < 10) :
    bits .or .u64 (accN s.data.toList k) (IntKind.u64.wrap (IntKind.u64.wrap (bits .and .u8 (s[k].toNat : Int) 127) * 2 ^ (7 * k))) = accN s.data.toList (k + 1) := by
  rw [and_127, ← not_128]
  exact acc_step s k h h9

end Go.Proofs.Ytppmmkmlngmafaa
