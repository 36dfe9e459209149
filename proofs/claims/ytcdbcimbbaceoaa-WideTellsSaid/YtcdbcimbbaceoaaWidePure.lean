/- Plain facts on numbers of 128 bits, as two words; no program. -/
import Derived.Test.YtcdbcimbbaceoaaMem
namespace Go.Proofs.Ytcdbcimbbaceoaa
open Go Go.RowKit

/-- Two words: the high one with its sign, the low one without. -/
abbrev Wd := Int × Int
def InW (a : Wd) : Prop := (-9223372036854775808 ≤ a.1 ∧ a.1 ≤ 9223372036854775807) ∧ 0 ≤ a.2 ∧ a.2 ≤ 18446744073709551615
/-- The number that two words are. -/
def valW (a : Wd) : Int := a.1 * 18446744073709551616 + a.2
def wr64 (x : Int) : Int := (x + 9223372036854775808) % 18446744073709551616 - 9223372036854775808
/-- A number's two words, modulo 2^128. -/
def toW (z : Int) : Wd := (wr64 (z / 18446744073709551616), z % 18446744073709551616)
theorem toW_in (z : Int) : InW (toW z) := by
  unfold InW toW wr64
  dsimp only
  omega
theorem toW_val {a : Wd} (h : InW a) : toW (valW a) = a := by
  obtain ⟨h1, h2⟩ := h
  have e1 : valW a / 18446744073709551616 = a.1 := by unfold valW; omega
  have e2 : valW a % 18446744073709551616 = a.2 := by unfold valW; omega
  unfold toW wr64
  rw [e1, e2]
  refine Prod.ext ?_ rfl
  show (a.1 + 9223372036854775808) % 18446744073709551616 - 9223372036854775808 = a.1
  omega
/-- 2^128. -/
def m128 : Int := 340282366920938463463374607431768211456
theorem toW_add (z k : Int) : toW (z + k * m128) = toW z := by
  have e : z + k * m128 = z + (k * 18446744073709551616) * 18446744073709551616 := by
    unfold m128
    rw [Int.mul_assoc]; rfl
  have h1 : (z + k * m128) / 18446744073709551616 = z / 18446744073709551616 + k * 18446744073709551616 := by rw [e]; omega
  have h2 : (z + k * m128) % 18446744073709551616 = z % 18446744073709551616 := by rw [e]; omega
  unfold toW wr64
  rw [h1, h2]
  refine Prod.ext ?_ rfl
  show (z / 18446744073709551616 + k * 18446744073709551616 + 9223372036854775808) % 18446744073709551616 - 9223372036854775808 = (z / 18446744073709551616 + 9223372036854775808) % 18446744073709551616 - 9223372036854775808
  omega
theorem val_toW (z : Int) : ∃ k : Int, valW (toW z) = z + k * m128 := by
  refine ⟨- ((z / 18446744073709551616 + 9223372036854775808) / 18446744073709551616), ?_⟩
  unfold valW toW wr64 m128
  dsimp only
  omega
/-- Numbers that are the same modulo 2^128 have the same words. -/
theorem toW_same {a b : Int} (k : Int) (h : a = b + k * m128) : toW a = toW b := by rw [h]; exact toW_add b k
def sumD (a b : Wd) : Wd := toW (valW a + valW b)
def minusD (a : Wd) : Wd := toW (- valW a)
def prodD (a b : Int) : Wd := toW (a * b)
def ofD (n : Int) : Wd := toW n
def fitsD (a : Wd) : Bool := decide (-9223372036854775808 ≤ valW a) && decide (valW a ≤ 9223372036854775807)
def intD (a : Wd) : Int := if fitsD a then valW a else 0
theorem sumD_in (a b : Wd) : InW (sumD a b) := toW_in _
theorem minusD_in (a : Wd) : InW (minusD a) := toW_in _
theorem ofD_in (n : Int) : InW (ofD n) := toW_in _
theorem prodD_in (a b : Int) : InW (prodD a b) := toW_in _
theorem sumD_comm (a b : Wd) : sumD a b = sumD b a := by unfold sumD; rw [Int.add_comm]
theorem sumD_assoc (a b c : Wd) : sumD (sumD a b) c = sumD a (sumD b c) := by
  unfold sumD
  obtain ⟨k, hk⟩ := val_toW (valW a + valW b)
  obtain ⟨j, hj⟩ := val_toW (valW b + valW c)
  rw [hk, hj]
  refine toW_same (k - j) ?_
  rw [Int.sub_mul]; omega
theorem val_zero : valW (0, 0) = 0 := rfl
theorem toW_zero : toW 0 = (0, 0) := rfl
theorem sumD_minus (a : Wd) : sumD a (minusD a) = (0, 0) := by
  unfold sumD minusD
  obtain ⟨k, hk⟩ := val_toW (- valW a)
  rw [hk, ← toW_zero]
  exact toW_same k (by omega)
theorem sumD_none {a : Wd} (h : InW a) : sumD a (0, 0) = a := by
  unfold sumD
  rw [val_zero, Int.add_zero, toW_val h]
theorem minusD_twice {a : Wd} (h : InW a) : minusD (minusD a) = a := by
  unfold minusD
  obtain ⟨k, hk⟩ := val_toW (- valW a)
  rw [hk]
  refine (toW_same (b := valW a) (-k) ?_).trans (toW_val h)
  rw [Int.neg_mul]; omega
theorem prodD_sum (a x y : Int) : prodD a (x + y) = sumD (prodD a x) (prodD a y) := by
  unfold sumD prodD
  obtain ⟨k, hk⟩ := val_toW (a * x)
  obtain ⟨j, hj⟩ := val_toW (a * y)
  rw [hk, hj, Int.mul_add]
  refine (toW_same (k + j) ?_).symm
  rw [Int.add_mul]; omega
theorem prodD_comm (a b : Int) : prodD a b = prodD b a := by unfold prodD; rw [Int.mul_comm]
theorem prodD_one (a : Int) : prodD a 1 = ofD a := by unfold prodD ofD; rw [Int.mul_one]
theorem prodD_minus (a : Int) : prodD a (-1) = minusD (ofD a) := by
  unfold prodD minusD ofD
  obtain ⟨k, hk⟩ := val_toW a
  rw [hk]
  refine (toW_same (-k) ?_).symm
  rw [Int.neg_mul]; omega
theorem prodD_none (a : Int) : prodD a 0 = (0, 0) := by unfold prodD; rw [Int.mul_zero]; rfl
theorem val_of {n : Int} (h0 : -170141183460469231731687303715884105728 ≤ n) (h1 : n ≤ 170141183460469231731687303715884105727) : valW (toW n) = n := by
  unfold valW toW wr64
  dsimp only
  omega
theorem fits_of {n : Int} (h0 : -9223372036854775808 ≤ n) (h1 : n ≤ 9223372036854775807) : fitsD (ofD n) = true ∧ intD (ofD n) = n := by
  have e : valW (ofD n) = n := val_of (by omega) (by omega)
  have f : fitsD (ofD n) = true := by unfold fitsD; rw [e, decide_eq_true h0, decide_eq_true h1]; rfl
  exact ⟨f, by unfold intD; rw [f, e]; rfl⟩
theorem fits_sum {a b : Int} (h0 : -9223372036854775808 ≤ a) (h1 : a ≤ 9223372036854775807) (g0 : -9223372036854775808 ≤ b) (g1 : b ≤ 9223372036854775807) :
    valW (sumD (ofD a) (ofD b)) = a + b := by
  unfold sumD ofD
  rw [val_of (n := a) (by omega) (by omega), val_of (n := b) (by omega) (by omega)]
  exact val_of (by omega) (by omega)
end Go.Proofs.Ytcdbcimbbaceoaa
