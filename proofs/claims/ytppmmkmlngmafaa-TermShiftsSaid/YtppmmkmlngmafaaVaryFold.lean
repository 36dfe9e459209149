/- Contracts of Fold and Open. -/
import Derived.Test.YtppmmkmlngmafaaVaryWalks
namespace Go.Proofs.Ytppmmkmlngmafaa
open Go Go.RowKit

theorem not_i64 (n : Int) (h0 : -9223372036854775808 ≤ n) (h1 : n ≤ 9223372036854775807) : bits .xor .i64 (-1) n = -1 - n := by
  have ha : BitVec.ofInt 64 (-1) = BitVec.allOnes 64 := by decide
  show IntKind.i64.wrap ((BitVec.ofInt 64 (-1) ^^^ BitVec.ofInt 64 n).toNat : Int) = _
  rw [ha, BitVec.allOnes_xor, BitVec.toNat_not, BitVec.toNat_ofInt, IntKind.wrap_i64]
  omega
theorem and_1 (n : Nat) (h : n < 18446744073709551616) : bits .and .u64 (n : Int) 1 = ((n % 2 : Nat) : Int) := by
  have k := bits_and_u64_nat n 1 h (by omega)
  rw [Nat.and_one_is_mod] at k
  exact k
theorem or_1 (n : Nat) (h : 2 * n < 18446744073709551616) : bits .or .u64 ((2 * n : Nat) : Int) 1 = ((2 * n + 1 : Nat) : Int) := by
  have k := bits_or_u64_nat (2 * n) 1 h (by omega)
  have j := Nat.two_pow_add_eq_or_of_lt (i := 1) (b := 1) (by omega) n
  rw [Nat.pow_one] at j
  rw [← j] at k
  exact k

def foldI (n : Int) : Int := if n < 0 then -2 * n - 1 else 2 * n
def openI (n : Nat) : Int := if n % 2 = 1 then -((n / 2 : Nat) : Int) - 1 else ((n / 2 : Nat) : Int)

theorem foldI_range (n : Int) (h0 : -9223372036854775808 ≤ n) (h1 : n ≤ 9223372036854775807) : 0 ≤ foldI n ∧ foldI n < 18446744073709551616 := by unfold foldI; split <;> omega
theorem openI_range (n : Nat) (h : n < 18446744073709551616) : -9223372036854775808 ≤ openI n ∧ openI n ≤ 9223372036854775807 := by unfold openI; split <;> omega
theorem open_fold (n : Int) : openI (foldI n).toNat = n := by unfold openI foldI; split <;> split <;> omega
theorem fold_open (n : Nat) : foldI (openI n) = n := by unfold openI foldI; split <;> split <;> omega

end Go.Proofs.Ytppmmkmlngmafaa
