/- Plain facts on cells' bytes: no program. -/
import Derived.WalkKit
import Derived.ProofKit
namespace Go.Proofs.Ytppmmkmlngmafaa
open Go

def offs : Int := 9223372036854775808

def bytesOf (u : Int) : List Int :=
  [u / 72057594037927936 % 256, u / 281474976710656 % 256, u / 1099511627776 % 256, u / 4294967296 % 256, u / 16777216 % 256, u / 65536 % 256, u / 256 % 256, u % 256]

/-- A number's cell. -/
def cellInt (n : Int) : ByteArray := strOfNums (105 :: bytesOf (n + offs))

theorem xor_nat (a : Nat) (h : a < 18446744073709551616) : a ^^^ 9223372036854775808 = if a < 9223372036854775808 then a + 9223372036854775808 else a - 9223372036854775808 := by
  have hm := Nat.xor_mod_two_pow (a := a) (b := 9223372036854775808) (n := 63)
  have hd := Nat.xor_div_two_pow (a := a) (b := 9223372036854775808) (n := 63)
  have e63 : (2 : Nat) ^ 63 = 9223372036854775808 := by decide
  rw [e63] at hm hd
  have em : (9223372036854775808 : Nat) % 9223372036854775808 = 0 := by decide
  have ed : (9223372036854775808 : Nat) / 9223372036854775808 = 1 := by decide
  rw [em, Nat.xor_zero] at hm
  rw [ed] at hd
  have hdm := Nat.div_add_mod (a ^^^ 9223372036854775808) 9223372036854775808
  split
  · have : a / 9223372036854775808 = 0 := by omega
    rw [this] at hd
    have h1 : (0 ^^^ 1 : Nat) = 1 := by decide
    rw [h1] at hd
    omega
  · have : a / 9223372036854775808 = 1 := by omega
    rw [this] at hd
    have h1 : (1 ^^^ 1 : Nat) = 0 := by decide
    rw [h1] at hd
    omega

theorem xor_off (n : Int) (h0 : -9223372036854775808 ≤ n) (h1 : n ≤ 9223372036854775807) :
    bits .xor .u64 (IntKind.u64.wrap n) 9223372036854775808 = n + offs := by
  rw [IntKind.wrap_u64]
  have e : n % 18446744073709551616 = (((n % 18446744073709551616).toNat : Nat) : Int) := by omega
  have k := bits_xor_u64_nat (n % 18446744073709551616).toNat 9223372036854775808 (by omega) (by omega)
  rw [xor_nat _ (by omega)] at k
  rw [e]
  refine Eq.trans k ?_
  unfold offs
  split <;> omega

theorem xor_back (u : Int) (h0 : 0 ≤ u) (h1 : u < 18446744073709551616) :
    IntKind.i64.wrap (bits .xor .u64 u 9223372036854775808) = u - offs := by
  have e : u = ((u.toNat : Nat) : Int) := by omega
  have k := bits_xor_u64_nat u.toNat 9223372036854775808 (by omega) (by omega)
  rw [xor_nat _ (by omega)] at k
  rw [e]
  refine Eq.trans (congrArg IntKind.i64.wrap k) ?_
  rw [IntKind.wrap_i64]
  unfold offs
  split <;> omega

theorem or_byte (u c : Int) (h0 : 0 ≤ u) (h1 : u < 72057594037927936) (c0 : 0 ≤ c) (c1 : c < 256) :
    bits .or .u64 (IntKind.u64.wrap (u * 256)) c = u * 256 + c := by
  rw [IntKind.wrap_u64]
  have e1 : u * 256 % 18446744073709551616 = ((u.toNat * 256 : Nat) : Int) := by omega
  have e2 : c = ((c.toNat : Nat) : Int) := by omega
  have k := bits_or_u64_nat (u.toNat * 256) c.toNat (by omega) (by omega)
  rw [e1, e2]
  refine Eq.trans k ?_
  have j := Nat.two_pow_add_eq_or_of_lt (i := 8) (b := c.toNat) (by omega) u.toNat
  have e8 : (2 : Nat) ^ 8 = 256 := by decide
  rw [e8, Nat.mul_comm] at j
  rw [← j]
  omega

theorem conv_alloc {P : Program} (w : World) (src e dst : TypeId) (hs : P.underlying src = some (.slice e)) (he : P.underlying e = some (.int .u8)) (hd : P.underlying dst = some .string)
    (xs : List Int) (c : Nat) (T : TypeId) :
    (convert src dst (.slice (some ⟨w.heap.size, 0, none⟩) xs.length c)).run P (w.alloc (.cells (xs.map (Value.int .u8)).toArray T)) =
      .ok (.string (strOfNums xs)) (w.alloc (.cells (xs.map (Value.int .u8)).toArray T)) := by
  refine run_convert_bytes_arg _ src e hs he w.heap.size 0 xs.length c xs rfl (fun i hi => ?_) dst hd
  simp [go_sem, hi]
end Go.Proofs.Ytppmmkmlngmafaa
