/- Contracts of Fold and Open. -/
import Derived.Test.YtbpigfpkcflbkaaVaryWalks
namespace Go.Proofs.Ytbpigfpkcflbkaa
open Go Go.RowKit

theorem not_i64 (n : Int) (h0 : -9223372036854775808 ≤ n) (h1 : n ≤ 9223372036854775807) : bits .xor .i64 (-1) n = -1 - n := by
  have ha : BitVec.ofInt 64 (-1) = BitVec.allOnes 64 := by decide
  show IntKind.i64.wrap ((BitVec.ofInt 64 (-1) ^^^ BitVec.ofInt 64 n).toNat : Int) = _
  rw [ha, BitVec.allOnes_xor, BitVec.toNat_not, BitVec.toNat_ofInt, IntKind.wrap_i64]
  omega
theorem and_1 (n : Nat) (h : n < 18446744073709551616) : bits .and .u64 (n : Int) 1 = ((n % 2 : Nat) : Int) := by
  have k := bits_and_u64_nat n 1 h (by omega)
  rw [Nat.and_one_is_mod] at k
  exact k
theorem or_1 (n : Nat) (h : 2 * n < 18446744073709551616) : bits .or .u64 ((2 * n : Nat) : Int) 1 = ((2 * n + 1 : Nat) : Int) := by
  have k := bits_or_u64_nat (2 * n) 1 h (by omega)
  have j := Nat.two_pow_add_eq_or_of_lt (i := 1) (b := 1) (by omega) n
  rw [Nat.pow_one] at j
  rw [← j] at k
  exact k

def foldI (n : Int) : Int := if n < 0 then -2 * n - 1 else 2 * n
def openI (n : Nat) : Int := if n % 2 = 1 then -((n / 2 : Nat) : Int) - 1 else ((n / 2 : Nat) : Int)

theorem foldI_range (n : Int) (h0 : -9223372036854775808 ≤ n) (h1 : n ≤ 9223372036854775807) : 0 ≤ foldI n ∧ foldI n < 18446744073709551616 := by unfold foldI; split <;> omega
theorem openI_range (n : Nat) (h : n < 18446744073709551616) : -9223372036854775808 ≤ openI n ∧ openI n ≤ 9223372036854775807 := by unfold openI; split <;> omega
theorem open_fold (n : Int) : openI (foldI n).toNat = n := by unfold openI foldI; split <;> split <;> omega
theorem fold_open (n : Nat) : foldI (openI n) = n := by unfold openI foldI; split <;> split <;> omega

theorem fold_calls (n : Int) (h0 : -9223372036854775808 ≤ n) (h1 : n ≤ 9223372036854775807) (w : World) : Calls Try.prog 23 #[.int .i64 n] w fun e w' => e = .returned (.int .u64 (foldI n)) ∧ w = w' := by
  by_cases hn : n < 0
  · have HX := Lib.hid (not_i64 n h0 h1)
    have HF := Lib.hid (show foldI n = -2 * n - 1 by unfold foldI; rw [if_pos hn])
    have HH := Lib.hid h0
    clear h0 h1
    have hsg : IntKind.i64.signed = true := rfl
    go_enter Try.func23, Try.ntmps23
    go_wp2
    go_ret
    refine ⟨ret_int ?_, rfl⟩
    have h0 := HH.out
    rw [HX.out, HF.out]
    rw [IntKind.wrap_u64, IntKind.wrap_u64, IntKind.wrap_u64]; omega
  · have HF := Lib.hid (show foldI n = 2 * n by unfold foldI; rw [if_neg hn])
    have HH := Lib.hid h1
    have hp : 0 ≤ n := by omega
    clear h0 h1 hn
    go_enter Try.func23, Try.ntmps23
    go_wp2
    go_ret
    refine ⟨ret_int ?_, rfl⟩
    have h0 := HH.out
    rw [HF.out, IntKind.wrap_u64, IntKind.wrap_u64]
    omega
theorem open_calls (n : Nat) (h : n < 18446744073709551616) (w : World) : Calls Try.prog 26 #[.int .u64 n] w fun e w' => e = .returned (.int .i64 (openI n)) ∧ w = w' := by
  have ha := and_1 n h
  have hw : wrap64 ((n : Int) / 2) = (n : Int) / 2 := by unfold wrap64; omega
  have HW := Lib.hid hw
  clear hw
  by_cases hn : n % 2 = 1
  · have HX := Lib.hid (not_i64 ((n : Int) / 2) (by omega) (by omega))
    have HF := Lib.hid (show openI n = -((n / 2 : Nat) : Int) - 1 by unfold openI; rw [if_pos hn])
    have hp : (bits .and .u64 (n : Int) 1 == 1) = true := by rw [ha, hn]; rfl
    clear ha hn h
    have hsg : IntKind.i64.signed = true := rfl
    go_enter Try.func26, Try.ntmps26
    go_wp2
    go_ret
    refine ⟨ret_int ?_, rfl⟩
    rw [HW.out, HX.out, HF.out]
    omega
  · have HF := Lib.hid (show openI n = ((n / 2 : Nat) : Int) by unfold openI; rw [if_neg hn])
    have hp : (bits .and .u64 (n : Int) 1 == 1) = false := by rw [ha, show n % 2 = 0 by omega]; rfl
    clear ha hn h
    go_enter Try.func26, Try.ntmps26
    go_wp2
    go_ret
    refine ⟨ret_int ?_, rfl⟩
    rw [HW.out, HF.out]
    omega

theorem ref_fold_calls (n : Int) (h0 : -9223372036854775808 ≤ n) (h1 : n ≤ 9223372036854775807) (w : World) : Calls Try.prog 25 #[.int .i64 n] w fun e w' => e = .returned (.int .u64 (foldI n)) ∧ w = w' := by
  by_cases hn : n < 0
  · have HX := Lib.hid (not_i64 n h0 h1)
    have HF := Lib.hid (show foldI n = -2 * n - 1 by unfold foldI; rw [if_pos hn])
    have HH := Lib.hid h0
    clear h0 h1
    have hsg : IntKind.i64.signed = true := rfl
    go_enter Try.func25, Try.ntmps25
    go_wp2
    go_ret
    refine ⟨ret_int ?_, rfl⟩
    have h0 := HH.out
    rw [HX.out, HF.out]
    have k := or_1 (-1 - n).toNat (by omega)
    have e1 : IntKind.u64.wrap (IntKind.u64.wrap (-1 - n) * 2) = ((2 * (-1 - n).toNat : Nat) : Int) := by rw [IntKind.wrap_u64, IntKind.wrap_u64]; omega
    rw [e1, k]; omega
  · have HF := Lib.hid (show foldI n = 2 * n by unfold foldI; rw [if_neg hn])
    have HH := Lib.hid h1
    have hp : 0 ≤ n := by omega
    clear h0 h1 hn
    go_enter Try.func25, Try.ntmps25
    go_wp2
    go_ret
    refine ⟨ret_int ?_, rfl⟩
    have h0 := HH.out
    rw [HF.out, IntKind.wrap_u64, IntKind.wrap_u64]
    omega
theorem ref_open_calls (n : Nat) (h : n < 18446744073709551616) (w : World) : Calls Try.prog 28 #[.int .u64 n] w fun e w' => e = .returned (.int .i64 (openI n)) ∧ w = w' := by
  have ha := and_1 n h
  have hw : wrap64 ((n : Int) / 2) = (n : Int) / 2 := by unfold wrap64; omega
  have HW := Lib.hid hw
  clear hw
  by_cases hn : n % 2 = 1
  · have HX := Lib.hid (not_i64 ((n : Int) / 2) (by omega) (by omega))
    have HF := Lib.hid (show openI n = -((n / 2 : Nat) : Int) - 1 by unfold openI; rw [if_pos hn])
    have hp : (bits .and .u64 (n : Int) 1 == 1) = true := by rw [ha, hn]; rfl
    clear ha hn h
    have hsg : IntKind.i64.signed = true := rfl
    go_enter Try.func28, Try.ntmps28
    go_wp2
    go_ret
    refine ⟨ret_int ?_, rfl⟩
    rw [HW.out, HX.out, HF.out]
    omega
  · have HF := Lib.hid (show openI n = ((n / 2 : Nat) : Int) by unfold openI; rw [if_neg hn])
    have hp : (bits .and .u64 (n : Int) 1 == 1) = false := by rw [ha, show n % 2 = 0 by omega]; rfl
    clear ha hn h
    go_enter Try.func28, Try.ntmps28
    go_wp2
    go_ret
    refine ⟨ret_int ?_, rfl⟩
    rw [HW.out, HF.out]
    omega

end Go.Proofs.Ytbpigfpkcflbkaa
