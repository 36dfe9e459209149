/- Plain facts on a product by one factor's bits; no program. -/
import Derived.Test.YtcdbcimbbaceoaaWideBox
import Derived.Test.YtcdbcimbbaceoaaVaryFold
namespace Go.Proofs.Ytcdbcimbbaceoaa
open Go Go.RowKit

theorem sumD_toW (x y : Int) : sumD (toW x) (toW y) = toW (x + y) := by
  unfold sumD
  obtain ⟨k, hk⟩ := val_toW x
  obtain ⟨j, hj⟩ := val_toW y
  rw [hk, hj]
  refine toW_same (k + j) ?_
  rw [Int.add_mul]; omega
theorem minusD_toW (x : Int) : minusD (toW x) = toW (- x) := by
  unfold minusD
  obtain ⟨k, hk⟩ := val_toW x
  rw [hk]
  refine toW_same (-k) ?_
  rw [Int.neg_mul]; omega
/-- What the factor's lowest k bits make. -/
def outS (a : Int) (U : Nat) (k : Nat) : Wd := toW (a * ((U % 2 ^ k : Nat) : Int))
def dblS (a : Int) (k : Nat) : Wd := toW (a * ((2 ^ k : Nat) : Int))
theorem outS_start (a : Int) (U : Nat) : outS a U 0 = (0, 0) := by
  unfold outS
  rw [Nat.pow_zero, Nat.mod_one]
  show toW (a * 0) = (0, 0)
  rw [Int.mul_zero]; rfl
theorem dblS_start (a : Int) : dblS a 0 = ofD a := by
  unfold dblS ofD
  rw [Nat.pow_zero]
  show toW (a * 1) = toW a
  rw [Int.mul_one]
theorem dblS_next (a : Int) (k : Nat) : sumD (dblS a k) (dblS a k) = dblS a (k + 1) := by
  unfold dblS
  rw [sumD_toW, ← Int.mul_add, Nat.pow_succ]
  congr 2
  omega
theorem mod_next (U k : Nat) : U % 2 ^ (k + 1) = U % 2 ^ k + 2 ^ k * (U / 2 ^ k % 2) := by
  rw [Nat.pow_succ, Nat.mod_mul]
theorem outS_none (a : Int) (U k : Nat) (h : U / 2 ^ k % 2 = 0) : outS a U (k + 1) = outS a U k := by
  unfold outS
  rw [mod_next, h, Nat.mul_zero, Nat.add_zero]
theorem outS_some (a : Int) (U k : Nat) (h : U / 2 ^ k % 2 = 1) : sumD (outS a U k) (dblS a k) = outS a U (k + 1) := by
  unfold outS dblS
  rw [sumD_toW, ← Int.mul_add, mod_next, h, Nat.mul_one]
  congr 2
/-- The highest bit goes the other way. -/
theorem outS_last (a : Int) (U : Nat) {b : Int} (g0 : -9223372036854775808 ≤ b) (g1 : b ≤ 9223372036854775807) (hU : IntKind.u64.wrap b = (U : Int)) (h : U / 2 ^ 63 % 2 = 1) : sumD (outS a U 63) (minusD (dblS a 63)) = prodD a b := by
  rw [IntKind.wrap_u64] at hU
  unfold outS dblS prodD
  rw [minusD_toW, sumD_toW, ← Int.mul_neg, ← Int.mul_add]
  congr 2
  have e : U % 2 ^ 63 = U % 9223372036854775808 := rfl
  have e2 : U / 2 ^ 63 % 2 = U / 9223372036854775808 % 2 := rfl
  have e3 : (2 ^ 63 : Nat) = 9223372036854775808 := rfl
  rw [e2] at h
  rw [e, e3]
  omega
theorem outS_end (a : Int) (U : Nat) {b : Int} (g0 : -9223372036854775808 ≤ b) (g1 : b ≤ 9223372036854775807) (hU : IntKind.u64.wrap b = (U : Int)) (h : U / 2 ^ 63 % 2 = 0) : outS a U 63 = prodD a b := by
  rw [IntKind.wrap_u64] at hU
  unfold outS prodD
  congr 2
  have e : U % 2 ^ 63 = U % 9223372036854775808 := rfl
  have e2 : U / 2 ^ 63 % 2 = U / 9223372036854775808 % 2 := rfl
  rw [e2] at h
  rw [e]
  omega
theorem bit_at (U k : Nat) (hU : U < 18446744073709551616) : bits .and .u64 ((U : Int) / 2 ^ k) 1 = ((U / 2 ^ k % 2 : Nat) : Int) := by
  have e : (U : Int) / 2 ^ k = ((U / 2 ^ k : Nat) : Int) := by simp
  rw [e, and_1 (U / 2 ^ k) (Nat.lt_of_le_of_lt (Nat.div_le_self _ _) hU)]
/-- What has been reckoned ahead of a round. -/
def atS (a b : Int) (U k : Nat) : Wd := if k = 64 then prodD a b else outS a U k
theorem atS_less {a b : Int} {U k : Nat} (h : k < 64) : atS a b U k = outS a U k := if_neg (by omega)
theorem atS_none {a b : Int} {U k : Nat} (g0 : -9223372036854775808 ≤ b) (g1 : b ≤ 9223372036854775807) (hU : IntKind.u64.wrap b = (U : Int)) (hk : k < 64) (h : U / 2 ^ k % 2 = 0) : atS a b U (k + 1) = atS a b U k := by
  rw [atS_less hk]
  by_cases e : k = 63
  · subst e
    exact (outS_end a U g0 g1 hU h).symm
  · rw [atS_less (by omega)]; exact outS_none a U k h
theorem atS_some {a b : Int} {U k : Nat} (hk : k < 63) (h : U / 2 ^ k % 2 = 1) : sumD (atS a b U k) (dblS a k) = atS a b U (k + 1) := by
  rw [atS_less (by omega), atS_less (by omega)]; exact outS_some a U k h
theorem atS_last {a b : Int} {U : Nat} (g0 : -9223372036854775808 ≤ b) (g1 : b ≤ 9223372036854775807) (hU : IntKind.u64.wrap b = (U : Int)) (h : U / 2 ^ 63 % 2 = 1) : sumD (atS a b U 63) (minusD (dblS a 63)) = atS a b U 64 := by
  rw [atS_less (by decide)]; exact outS_last a U g0 g1 hU h
theorem outS_in (a : Int) (U k : Nat) : InW (outS a U k) := toW_in _
theorem dblS_in (a : Int) (k : Nat) : InW (dblS a k) := toW_in _
theorem atS_in (a b : Int) (U k : Nat) : InW (atS a b U k) := by unfold atS; split <;> exact toW_in _
end Go.Proofs.Ytcdbcimbbaceoaa
