/- Contracts of first and of a tape's methods. -/
import Derived.Test.YtppmmkmlngmafaaVaryFold
import Derived.Test.YtppmmkmlngmafaaVaryPrint
import Derived.Test.YtppmmkmlngmafaaVaryPrintRef
import Derived.Deep.RegionWith
import Derived.Deep.QuietTactic
import Derived.BigQuiet
import Derived.Laws.Rows
import Derived.Lib.Strings
namespace Go.Proofs.Ytppmmkmlngmafaa
open Go Go.RowKit

def firstR (s : ByteArray) : Value := .tuple #[.int .u64 (((nextNum s.data.toList).getD (0, 0)).1 : Nat), .int .i64 (((nextNum s.data.toList).getD (0, 0)).2 : Nat)]
theorem firstR_of (s : ByteArray) (o : Option (Nat × Nat)) (h : nextNum s.data.toList = o) : Ending.returned (.tuple #[.int .u64 ((o.getD (0, 0)).1 : Nat), .int .i64 ((o.getD (0, 0)).2 : Nat)]) = .returned (firstR s) := by subst h; rfl

def accNat (l : List UInt8) (k : Nat) : Nat := val7 (l.take k) % 18446744073709551616
def accN (l : List UInt8) (k : Nat) : Int := (accNat l k : Int)

theorem byte_at (s : ByteArray) (k : Nat) (h : k < s.size) : s.data.toList[k]? = some s[k] := by
  have h' : k < s.data.toList.length := by rw [Array.length_toList]; exact h
  rw [List.getElem?_eq_getElem h']
  rfl
theorem wrap_lt (n : Nat) (h : n < 18446744073709551616) : IntKind.u64.wrap (n : Int) = (n : Int) := by rw [IntKind.wrap_u64]; omega
theorem acc_step (s : ByteArray) (k : Nat) (h : k < s.size) (h9 : k < 10) :
    bits .or .u64 (accN s.data.toList k) (IntKind.u64.wrap (IntKind.u64.wrap (bits .andNot .u8 (s[k].toNat : Int) 128) * 2 ^ (7 * k))) = accN s.data.toList (k + 1) := by
  obtain ⟨h1, h2⟩ := val7_or s.data.toList k s[k] (byte_at s k h) h9
  rw [not_128, wrap_lt _ (by omega)]
  have e1 : ((s[k].toNat % 128 : Nat) : Int) * 2 ^ (7 * k) = ((s[k].toNat % 128 * 2 ^ (7 * k) : Nat) : Int) := by simp
  rw [e1, IntKind.wrap_u64]
  have e2 : ((s[k].toNat % 128 * 2 ^ (7 * k) : Nat) : Int) % 18446744073709551616 = ((s[k].toNat % 128 * 2 ^ (7 * k) % 18446744073709551616 : Nat) : Int) := by simp
  rw [e2]
  unfold accN accNat
  rw [← h1, Nat.mod_eq_of_lt (a := val7 (List.take k s.data.toList)) (by omega), Nat.shiftLeft_eq]
  exact bits_or_u64_nat _ _ (by omega) (Nat.mod_lt _ (by decide))
theorem print_test (s : ByteArray) (k : Nat) :
    (vp (accNat s.data.toList (k + 1)) = s.data.toList.take (k + 1) → ((printB (accNat s.data.toList (k + 1))).toList == (s.extract 0 (k + 1)).toList) = true ∧ ((printB (accNat s.data.toList (k + 1))).toList != (s.extract 0 (k + 1)).toList) = false) ∧
    (¬ vp (accNat s.data.toList (k + 1)) = s.data.toList.take (k + 1) → ((printB (accNat s.data.toList (k + 1))).toList == (s.extract 0 (k + 1)).toList) = false ∧ ((printB (accNat s.data.toList (k + 1))).toList != (s.extract 0 (k + 1)).toList) = true) := by
  have e1 : (printB (accNat s.data.toList (k + 1))).toList = vp (accNat s.data.toList (k + 1)) := by rw [ByteArray.toList_eq]; rfl
  have e2 : (s.extract 0 (k + 1)).toList = s.data.toList.take (k + 1) := by rw [Lib.extract_toList]; simp
  rw [e1, e2]
  constructor
  · intro hv; rw [hv]; simp
  · intro hv; simp [hv]
theorem acc_zero (l : List UInt8) : accN l 0 = 0 := rfl

end Go.Proofs.Ytppmmkmlngmafaa
