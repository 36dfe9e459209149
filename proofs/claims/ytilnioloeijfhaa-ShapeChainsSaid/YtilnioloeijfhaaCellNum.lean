/- Contracts of Num, of the layer cell and of its answer. -/
import Derived.Test.YtilnioloeijfhaaCellWalks
namespace Go.Proofs.Ytilnioloeijfhaa
open Go Go.RowKit

theorem u64_byte (b : Int) (h0 : 0 ≤ b) (h1 : b < 256) : IntKind.u64.wrap b = b := by rw [IntKind.wrap_u64]; omega

theorem or_zero (b : Int) (h0 : 0 ≤ b) (h1 : b < 256) : bits .or .u64 0 b = b := by
  have k := or_byte 0 b (by omega) (by omega) h0 h1
  rw [show IntKind.u64.wrap (0 * 256) = 0 from by rw [IntKind.wrap_u64]; omega] at k
  omega

theorem num_eq (b1 b2 b3 b4 b5 b6 b7 b8 : Int) (g1 : 0 ≤ b1 ∧ b1 < 256) (g2 : 0 ≤ b2 ∧ b2 < 256) (g3 : 0 ≤ b3 ∧ b3 < 256) (g4 : 0 ≤ b4 ∧ b4 < 256)
    (g5 : 0 ≤ b5 ∧ b5 < 256) (g6 : 0 ≤ b6 ∧ b6 < 256) (g7 : 0 ≤ b7 ∧ b7 < 256) (g8 : 0 ≤ b8 ∧ b8 < 256) :
    wrap64 (bits .xor .u64 (bits .or .u64 (IntKind.u64.wrap (bits .or .u64 (IntKind.u64.wrap (bits .or .u64 (IntKind.u64.wrap (bits .or .u64 (IntKind.u64.wrap
      (bits .or .u64 (IntKind.u64.wrap (bits .or .u64 (IntKind.u64.wrap (bits .or .u64 (IntKind.u64.wrap (bits .or .u64 0 (IntKind.u64.wrap b1) * 256)) (IntKind.u64.wrap b2) * 256))
      (IntKind.u64.wrap b3) * 256)) (IntKind.u64.wrap b4) * 256)) (IntKind.u64.wrap b5) * 256)) (IntKind.u64.wrap b6) * 256)) (IntKind.u64.wrap b7) * 256)) (IntKind.u64.wrap b8)) 9223372036854775808) =
      (((((((b1 * 256 + b2) * 256 + b3) * 256 + b4) * 256 + b5) * 256 + b6) * 256 + b7) * 256 + b8) - offs := by
  rw [u64_byte b1 g1.1 g1.2, u64_byte b2 g2.1 g2.2, u64_byte b3 g3.1 g3.2, u64_byte b4 g4.1 g4.2, u64_byte b5 g5.1 g5.2, u64_byte b6 g6.1 g6.2, u64_byte b7 g7.1 g7.2, u64_byte b8 g8.1 g8.2,
    or_zero b1 g1.1 g1.2, or_byte b1 b2 (by omega) (by omega) g2.1 g2.2, or_byte _ b3 (by omega) (by omega) g3.1 g3.2, or_byte _ b4 (by omega) (by omega) g4.1 g4.2,
    or_byte _ b5 (by omega) (by omega) g5.1 g5.2, or_byte _ b6 (by omega) (by omega) g6.1 g6.2, or_byte _ b7 (by omega) (by omega) g7.1 g7.2, or_byte _ b8 (by omega) (by omega) g8.1 g8.2]
  have k := xor_back (((((((b1 * 256 + b2) * 256 + b3) * 256 + b4) * 256 + b5) * 256 + b6) * 256 + b7) * 256 + b8) (by omega) (by omega)
  unfold wrap64
  rw [IntKind.wrap_i64] at k
  exact k

theorem byte_range (b : UInt8) : 0 ≤ ((b.toNat : Nat) : Int) ∧ ((b.toNat : Nat) : Int) < 256 := by
  have := b.toNat_lt; omega

theorem ret_num {a b : Int} {c : Bool} (h : a = b) : Ending.returned (.tuple #[.int .i64 a, .bool c]) = .returned (.tuple #[.int .i64 b, .bool c]) := by rw [h]

theorem numOf_eq (s : ByteArray) (h : s.size = 9) : numOf s =
    ((((((((s[1].toNat : Int) * 256 + (s[2].toNat : Int)) * 256 + (s[3].toNat : Int)) * 256 + (s[4].toNat : Int)) * 256 + (s[5].toNat : Int)) * 256 + (s[6].toNat : Int)) * 256 + (s[7].toNat : Int)) * 256 + (s[8].toNat : Int)) - offs := by
  rw [byteI_eq, byteI_eq, byteI_eq, byteI_eq, byteI_eq, byteI_eq, byteI_eq, byteI_eq]
  rfl

theorem kind_cellInt (n : Int) : kindI (cellInt n) = 105 := rfl
theorem size_cellInt (n : Int) : (cellInt n).size = 9 := rfl
theorem isInt_cellInt (n : Int) : isInt (cellInt n) = true := by unfold isInt; rw [kind_cellInt, size_cellInt]; rfl
theorem kind_textCell (s : ByteArray) : kindI (textCell s) = 116 := by
  unfold kindI textCell
  rw [show (ByteArray.data ({ data := #[116] } ++ s)).toList = [116] ++ s.data.toList from by simp]
  rfl
theorem size_textCell (s : ByteArray) : (textCell s).size = 1 + s.size := by
  unfold textCell; rw [ByteArray.size_append]; rfl
theorem isInt_textCell (s : ByteArray) : isInt (textCell s) = false := by unfold isInt; rw [kind_textCell]; rfl
theorem kind_boolCell (b : Bool) : kindI (boolCell b) = 98 := rfl
theorem isInt_boolCell (b : Bool) : isInt (boolCell b) = false := rfl
theorem byteI_cellInt (i : Nat) (x : Int) (l : List Int) (h : i < l.length) (h0 : x = l[i]) (h1 : 0 ≤ x) (h2 : x < 256) : byteI (strOfNums l) i = x := by
  unfold byteI
  rw [strOfNums_data, List.getD_eq_getElem?_getD, List.getElem?_map, List.getElem?_eq_getElem h, ← h0]
  simp only [Option.map_some, Option.getD_some]
  rw [UInt8.toNat_ofNat_of_lt' (by rw [show UInt8.size = 256 from rfl]; omega)]
  omega
theorem numOf_cellInt (n : Int) (h0 : -9223372036854775808 ≤ n) (h1 : n ≤ 9223372036854775807) : numOf (cellInt n) = n := by
  unfold numOf cellInt bytesOf
  have e : 0 ≤ n + offs ∧ n + offs < 18446744073709551616 := by unfold offs; omega
  have hn : n = (n + offs) - offs := by omega
  rw [hn]
  generalize n + offs = u at e
  have hz : u - offs + offs = u := by omega
  rw [hz, byteI_cellInt 1 (u / 72057594037927936 % 256) _ (by simp) rfl (by omega) (by omega), byteI_cellInt 2 (u / 281474976710656 % 256) _ (by simp) rfl (by omega) (by omega), byteI_cellInt 3 (u / 1099511627776 % 256) _ (by simp) rfl (by omega) (by omega), byteI_cellInt 4 (u / 4294967296 % 256) _ (by simp) rfl (by omega) (by omega), byteI_cellInt 5 (u / 16777216 % 256) _ (by simp) rfl (by omega) (by omega), byteI_cellInt 6 (u / 65536 % 256) _ (by simp) rfl (by omega) (by omega), byteI_cellInt 7 (u / 256 % 256) _ (by simp) rfl (by omega) (by omega), byteI_cellInt 8 (u % 256) _ (by simp) rfl (by omega) (by omega)]
  omega

end Go.Proofs.Ytilnioloeijfhaa
