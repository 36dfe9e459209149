/- Contracts of Print. -/
import Derived.Test.YtofepmdfciijeaaGreatGVary
namespace Go.Proofs.YtofepmdfciijeaaGreat
open Go Go.RowKit

set_option maxHeartbeats 400000 in
theorem ref_print_1 (n : Int) (h0 : 0 ≤ n) (hz : n < 128) : Gives Tryz.prog 47 #[.int .u64 n] (.string (printB n.toNat)) := by
  intro w
  obtain ⟨hb, hB⟩ := start w
  have HE := Lib.hid (show strOfNums [n] = printB n.toNat from by
    rw [← strOfNums_vpI]
    rw [vpI_smallI h0 hz]
    skip)
  have hc := vconv1
  go_enter Tryz.func47, Tryz.ntmps47
  go_wp2
  refine wp_loop_rounds 10 ?_
  rw [rounds_succ]
  go_wp2
  go_ret
  exact ⟨ret_str (Eq.trans rfl HE.out), by go_grown⟩

set_option maxHeartbeats 400000 in
theorem ref_print_2 (n : Int) (h0 : 0 ≤ n / 128) (h1 : 128 ≤ n) (hz : n / 128 < 128) : Gives Tryz.prog 47 #[.int .u64 n] (.string (printB n.toNat)) := by
  intro w
  obtain ⟨hb, hB⟩ := start w
  have HE := Lib.hid (show strOfNums [bits .or .u8 (n % 256) 128, n / 128] = printB n.toNat from by
    have g1 := or_128 (n) (by omega)
    rw [← strOfNums_vpI]
    rw [vpI_greatI h1]
    rw [vpI_smallI h0 hz]
    rw [g1]
    skip)
  have hc := vconv1
  go_enter Tryz.func47, Tryz.ntmps47
  go_wp2
  refine wp_loop_rounds 10 ?_
  rw [rounds_succ]
  go_wp2
  rw [rounds_succ]
  go_wp2
  go_ret
  exact ⟨ret_str (Eq.trans rfl HE.out), by go_grown⟩

set_option maxHeartbeats 400000 in
theorem ref_print_3 (n : Int) (h0 : 0 ≤ n / 128 / 128) (h1 : 128 ≤ n) (h2 : 128 ≤ n / 128) (hz : n / 128 / 128 < 128) : Gives Tryz.prog 47 #[.int .u64 n] (.string (printB n.toNat)) := by
  intro w
  obtain ⟨hb, hB⟩ := start w
  have HE := Lib.hid (show strOfNums [bits .or .u8 (n % 256) 128, bits .or .u8 (n / 128 % 256) 128, n / 128 / 128] = printB n.toNat from by
    have g1 := or_128 (n) (by omega)
    have g2 := or_128 (n / 128) (by omega)
    rw [← strOfNums_vpI]
    rw [vpI_greatI h1]
    rw [vpI_greatI h2]
    rw [vpI_smallI h0 hz]
    rw [g1, g2]
    skip)
  have hc := vconv1
  go_enter Tryz.func47, Tryz.ntmps47
  go_wp2
  refine wp_loop_rounds 10 ?_
  rw [rounds_succ]
  go_wp2
  rw [rounds_succ]
  go_wp2
  rw [rounds_succ]
  go_wp2
  go_ret
  exact ⟨ret_str (Eq.trans rfl HE.out), by go_grown⟩

set_option maxHeartbeats 400000 in
theorem ref_print_4 (n : Int) (h0 : 0 ≤ n / 128 / 128 / 128) (h1 : 128 ≤ n) (h2 : 128 ≤ n / 128) (h3 : 128 ≤ n / 128 / 128) (hz : n / 128 / 128 / 128 < 128) : Gives Tryz.prog 47 #[.int .u64 n] (.string (printB n.toNat)) := by
  intro w
  obtain ⟨hb, hB⟩ := start w
  have HE := Lib.hid (show strOfNums [bits .or .u8 (n % 256) 128, bits .or .u8 (n / 128 % 256) 128, bits .or .u8 (n / 128 / 128 % 256) 128, n / 128 / 128 / 128] = printB n.toNat from by
    have g1 := or_128 (n) (by omega)
    have g2 := or_128 (n / 128) (by omega)
    have g3 := or_128 (n / 128 / 128) (by omega)
    rw [← strOfNums_vpI]
    rw [vpI_greatI h1]
    rw [vpI_greatI h2]
    rw [vpI_greatI h3]
    rw [vpI_smallI h0 hz]
    rw [g1, g2, g3]
    skip)
  have hc := vconv1
  go_enter Tryz.func47, Tryz.ntmps47
  go_wp2
  refine wp_loop_rounds 10 ?_
  rw [rounds_succ]
  go_wp2
  rw [rounds_succ]
  go_wp2
  rw [rounds_succ]
  go_wp2
  rw [rounds_succ]
  go_wp2
  go_ret
  exact ⟨ret_str (Eq.trans rfl HE.out), by go_grown⟩

set_option maxHeartbeats 400000 in
theorem ref_print_5 (n : Int) (h0 : 0 ≤ n / 128 / 128 / 128 / 128) (h1 : 128 ≤ n) (h2 : 128 ≤ n / 128) (h3 : 128 ≤ n / 128 / 128) (h4 : 128 ≤ n / 128 / 128 / 128) (hz : n / 128 / 128 / 128 / 128 < 128) : Gives Tryz.prog 47 #[.int .u64 n] (.string (printB n.toNat)) := by
  intro w
  obtain ⟨hb, hB⟩ := start w
  have HE := Lib.hid (show strOfNums [bits .or .u8 (n % 256) 128, bits .or .u8 (n / 128 % 256) 128, bits .or .u8 (n / 128 / 128 % 256) 128, bits .or .u8 (n / 128 / 128 / 128 % 256) 128, n / 128 / 128 / 128 / 128] = printB n.toNat from by
    have g1 := or_128 (n) (by omega)
    have g2 := or_128 (n / 128) (by omega)
    have g3 := or_128 (n / 128 / 128) (by omega)
    have g4 := or_128 (n / 128 / 128 / 128) (by omega)
    rw [← strOfNums_vpI]
    rw [vpI_greatI h1]
    rw [vpI_greatI h2]
    rw [vpI_greatI h3]
    rw [vpI_greatI h4]
    rw [vpI_smallI h0 hz]
    rw [g1, g2, g3, g4]
    skip)
  have hc := vconv1
  go_enter Tryz.func47, Tryz.ntmps47
  go_wp2
  refine wp_loop_rounds 10 ?_
  rw [rounds_succ]
  go_wp2
  rw [rounds_succ]
  go_wp2
  rw [rounds_succ]
  go_wp2
  rw [rounds_succ]
  go_wp2
  rw [rounds_succ]
  go_wp2
  go_ret
  exact ⟨ret_str (Eq.trans rfl HE.out), by go_grown⟩

set_option maxHeartbeats 400000 in
theorem ref_print_6 (n : Int) (h0 : 0 ≤ n / 128 / 128 / 128 / 128 / 128) (h1 : 128 ≤ n) (h2 : 128 ≤ n / 128) (h3 : 128 ≤ n / 128 / 128) (h4 : 128 ≤ n / 128 / 128 / 128) (h5 : 128 ≤ n / 128 / 128 / 128 / 128) (hz : n / 128 / 128 / 128 / 128 / 128 < 128) : Gives Tryz.prog 47 #[.int .u64 n] (.string (printB n.toNat)) := by
  intro w
  obtain ⟨hb, hB⟩ := start w
  have HE := Lib.hid (show strOfNums [bits .or .u8 (n % 256) 128, bits .or .u8 (n / 128 % 256) 128, bits .or .u8 (n / 128 / 128 % 256) 128, bits .or .u8 (n / 128 / 128 / 128 % 256) 128, bits .or .u8 (n / 128 / 128 / 128 / 128 % 256) 128, n / 128 / 128 / 128 / 128 / 128] = printB n.toNat from by
    have g1 := or_128 (n) (by omega)
    have g2 := or_128 (n / 128) (by omega)
    have g3 := or_128 (n / 128 / 128) (by omega)
    have g4 := or_128 (n / 128 / 128 / 128) (by omega)
    have g5 := or_128 (n / 128 / 128 / 128 / 128) (by omega)
    rw [← strOfNums_vpI]
    rw [vpI_greatI h1]
    rw [vpI_greatI h2]
    rw [vpI_greatI h3]
    rw [vpI_greatI h4]
    rw [vpI_greatI h5]
    rw [vpI_smallI h0 hz]
    rw [g1, g2, g3, g4, g5]
    skip)
  have hc := vconv1
  go_enter Tryz.func47, Tryz.ntmps47
  go_wp2
  refine wp_loop_rounds 10 ?_
  rw [rounds_succ]
  go_wp2
  rw [rounds_succ]
  go_wp2
  rw [rounds_succ]
  go_wp2
  rw [rounds_succ]
  go_wp2
  rw [rounds_succ]
  go_wp2
  rw [rounds_succ]
  go_wp2
  go_ret
  exact ⟨ret_str (Eq.trans rfl HE.out), by go_grown⟩

set_option maxHeartbeats 400000 in
theorem ref_print_7 (n : Int) (h0 : 0 ≤ n / 128 / 128 / 128 / 128 / 128 / 128) (h1 : 128 ≤ n) (h2 : 128 ≤ n / 128) (h3 : 128 ≤ n / 128 / 128) (h4 : 128 ≤ n / 128 / 128 / 128) (h5 : 128 ≤ n / 128 / 128 / 128 / 128) (h6 : 128 ≤ n / 128 / 128 / 128 / 128 / 128) (hz : n / 128 / 128 / 128 / 128 / 128 / 128 < 128) : Gives Tryz.prog 47 #[.int .u64 n] (.string (printB n.toNat)) := by
  intro w
  obtain ⟨hb, hB⟩ := start w
  have HE := Lib.hid (show strOfNums [bits .or .u8 (n % 256) 128, bits .or .u8 (n / 128 % 256) 128, bits .or .u8 (n / 128 / 128 % 256) 128, bits .or .u8 (n / 128 / 128 / 128 % 256) 128, bits .or .u8 (n / 128 / 128 / 128 / 128 % 256) 128, bits .or .u8 (n / 128 / 128 / 128 / 128 / 128 % 256) 128, n / 128 / 128 / 128 / 128 / 128 / 128] = printB n.toNat from by
    have g1 := or_128 (n) (by omega)
    have g2 := or_128 (n / 128) (by omega)
    have g3 := or_128 (n / 128 / 128) (by omega)
    have g4 := or_128 (n / 128 / 128 / 128) (by omega)
    have g5 := or_128 (n / 128 / 128 / 128 / 128) (by omega)
    have g6 := or_128 (n / 128 / 128 / 128 / 128 / 128) (by omega)
    rw [← strOfNums_vpI]
    rw [vpI_greatI h1]
    rw [vpI_greatI h2]
    rw [vpI_greatI h3]
    rw [vpI_greatI h4]
    rw [vpI_greatI h5]
    rw [vpI_greatI h6]
    rw [vpI_smallI h0 hz]
    rw [g1, g2, g3, g4, g5, g6]
    skip)
  have hc := vconv1
  go_enter Tryz.func47, Tryz.ntmps47
  go_wp2
  refine wp_loop_rounds 10 ?_
  rw [rounds_succ]
  go_wp2
  rw [rounds_succ]
  go_wp2
  rw [rounds_succ]
  go_wp2
  rw [rounds_succ]
  go_wp2
  rw [rounds_succ]
  go_wp2
  rw [rounds_succ]
  go_wp2
  rw [rounds_succ]
  go_wp2
  go_ret
  exact ⟨ret_str (Eq.trans rfl HE.out), by go_grown⟩

set_option maxHeartbeats 400000 in
theorem ref_print_8 (n : Int) (h0 : 0 ≤ n / 128 / 128 / 128 / 128 / 128 / 128 / 128) (h1 : 128 ≤ n) (h2 : 128 ≤ n / 128) (h3 : 128 ≤ n / 128 / 128) (h4 : 128 ≤ n / 128 / 128 / 128) (h5 : 128 ≤ n / 128 / 128 / 128 / 128) (h6 : 128 ≤ n / 128 / 128 / 128 / 128 / 128) (h7 : 128 ≤ n / 128 / 128 / 128 / 128 / 128 / 128) (hz : n / 128 / 128 / 128 / 128 / 128 / 128 / 128 < 128) : Gives Tryz.prog 47 #[.int .u64 n] (.string (printB n.toNat)) := by
  intro w
  obtain ⟨hb, hB⟩ := start w
  have HE := Lib.hid (show strOfNums [bits .or .u8 (n % 256) 128, bits .or .u8 (n / 128 % 256) 128, bits .or .u8 (n / 128 / 128 % 256) 128, bits .or .u8 (n / 128 / 128 / 128 % 256) 128, bits .or .u8 (n / 128 / 128 / 128 / 128 % 256) 128, bits .or .u8 (n / 128 / 128 / 128 / 128 / 128 % 256) 128, bits .or .u8 (n / 128 / 128 / 128 / 128 / 128 / 128 % 256) 128, n / 128 / 128 / 128 / 128 / 128 / 128 / 128] = printB n.toNat from by
    have g1 := or_128 (n) (by omega)
    have g2 := or_128 (n / 128) (by omega)
    have g3 := or_128 (n / 128 / 128) (by omega)
    have g4 := or_128 (n / 128 / 128 / 128) (by omega)
    have g5 := or_128 (n / 128 / 128 / 128 / 128) (by omega)
    have g6 := or_128 (n / 128 / 128 / 128 / 128 / 128) (by omega)
    have g7 := or_128 (n / 128 / 128 / 128 / 128 / 128 / 128) (by omega)
    rw [← strOfNums_vpI]
    rw [vpI_greatI h1]
    rw [vpI_greatI h2]
    rw [vpI_greatI h3]
    rw [vpI_greatI h4]
    rw [vpI_greatI h5]
    rw [vpI_greatI h6]
    rw [vpI_greatI h7]
    rw [vpI_smallI h0 hz]
    rw [g1, g2, g3, g4, g5, g6, g7]
    skip)
  have hc := vconv1
  go_enter Tryz.func47, Tryz.ntmps47
  go_wp2
  refine wp_loop_rounds 10 ?_
  rw [rounds_succ]
  go_wp2
  rw [rounds_succ]
  go_wp2
  rw [rounds_succ]
  go_wp2
  rw [rounds_succ]
  go_wp2
  rw [rounds_succ]
  go_wp2
  rw [rounds_succ]
  go_wp2
  rw [rounds_succ]
  go_wp2
  rw [rounds_succ]
  go_wp2
  go_ret
  exact ⟨ret_str (Eq.trans rfl HE.out), by go_grown⟩

set_option maxHeartbeats 400000 in
theorem ref_print_9 (n : Int) (h0 : 0 ≤ n / 128 / 128 / 128 / 128 / 128 / 128 / 128 / 128) (h1 : 128 ≤ n) (h2 : 128 ≤ n / 128) (h3 : 128 ≤ n / 128 / 128) (h4 : 128 ≤ n / 128 / 128 / 128) (h5 : 128 ≤ n / 128 / 128 / 128 / 128) (h6 : 128 ≤ n / 128 / 128 / 128 / 128 / 128) (h7 : 128 ≤ n / 128 / 128 / 128 / 128 / 128 / 128) (h8 : 128 ≤ n / 128 / 128 / 128 / 128 / 128 / 128 / 128) (hz : n / 128 / 128 / 128 / 128 / 128 / 128 / 128 / 128 < 128) : Gives Tryz.prog 47 #[.int .u64 n] (.string (printB n.toNat)) := by
  intro w
  obtain ⟨hb, hB⟩ := start w
  have HE := Lib.hid (show strOfNums [bits .or .u8 (n % 256) 128, bits .or .u8 (n / 128 % 256) 128, bits .or .u8 (n / 128 / 128 % 256) 128, bits .or .u8 (n / 128 / 128 / 128 % 256) 128, bits .or .u8 (n / 128 / 128 / 128 / 128 % 256) 128, bits .or .u8 (n / 128 / 128 / 128 / 128 / 128 % 256) 128, bits .or .u8 (n / 128 / 128 / 128 / 128 / 128 / 128 % 256) 128, bits .or .u8 (n / 128 / 128 / 128 / 128 / 128 / 128 / 128 % 256) 128, n / 128 / 128 / 128 / 128 / 128 / 128 / 128 / 128] = printB n.toNat from by
    have g1 := or_128 (n) (by omega)
    have g2 := or_128 (n / 128) (by omega)
    have g3 := or_128 (n / 128 / 128) (by omega)
    have g4 := or_128 (n / 128 / 128 / 128) (by omega)
    have g5 := or_128 (n / 128 / 128 / 128 / 128) (by omega)
    have g6 := or_128 (n / 128 / 128 / 128 / 128 / 128) (by omega)
    have g7 := or_128 (n / 128 / 128 / 128 / 128 / 128 / 128) (by omega)
    have g8 := or_128 (n / 128 / 128 / 128 / 128 / 128 / 128 / 128) (by omega)
    rw [← strOfNums_vpI]
    rw [vpI_greatI h1]
    rw [vpI_greatI h2]
    rw [vpI_greatI h3]
    rw [vpI_greatI h4]
    rw [vpI_greatI h5]
    rw [vpI_greatI h6]
    rw [vpI_greatI h7]
    rw [vpI_greatI h8]
    rw [vpI_smallI h0 hz]
    rw [g1, g2, g3, g4, g5, g6, g7, g8]
    skip)
  have hc := vconv1
  go_enter Tryz.func47, Tryz.ntmps47
  go_wp2
  refine wp_loop_rounds 10 ?_
  rw [rounds_succ]
  go_wp2
  rw [rounds_succ]
  go_wp2
  rw [rounds_succ]
  go_wp2
  rw [rounds_succ]
  go_wp2
  rw [rounds_succ]
  go_wp2
  rw [rounds_succ]
  go_wp2
  rw [rounds_succ]
  go_wp2
  rw [rounds_succ]
  go_wp2
  rw [rounds_succ]
  go_wp2
  go_ret
  exact ⟨ret_str (Eq.trans rfl HE.out), by go_grown⟩

set_option maxHeartbeats 400000 in
theorem ref_print_10 (n : Int) (h0 : 0 ≤ n / 128 / 128 / 128 / 128 / 128 / 128 / 128 / 128 / 128) (h1 : 128 ≤ n) (h2 : 128 ≤ n / 128) (h3 : 128 ≤ n / 128 / 128) (h4 : 128 ≤ n / 128 / 128 / 128) (h5 : 128 ≤ n / 128 / 128 / 128 / 128) (h6 : 128 ≤ n / 128 / 128 / 128 / 128 / 128) (h7 : 128 ≤ n / 128 / 128 / 128 / 128 / 128 / 128) (h8 : 128 ≤ n / 128 / 128 / 128 / 128 / 128 / 128 / 128) (h9 : 128 ≤ n / 128 / 128 / 128 / 128 / 128 / 128 / 128 / 128) (hz : n / 128 / 128 / 128 / 128 / 128 / 128 / 128 / 128 / 128 < 128) : Gives Tryz.prog 47 #[.int .u64 n] (.string (printB n.toNat)) := by
  intro w
  obtain ⟨hb, hB⟩ := start w
  have HE := Lib.hid (show strOfNums [bits .or .u8 (n % 256) 128, bits .or .u8 (n / 128 % 256) 128, bits .or .u8 (n / 128 / 128 % 256) 128, bits .or .u8 (n / 128 / 128 / 128 % 256) 128, bits .or .u8 (n / 128 / 128 / 128 / 128 % 256) 128, bits .or .u8 (n / 128 / 128 / 128 / 128 / 128 % 256) 128, bits .or .u8 (n / 128 / 128 / 128 / 128 / 128 / 128 % 256) 128, bits .or .u8 (n / 128 / 128 / 128 / 128 / 128 / 128 / 128 % 256) 128, bits .or .u8 (n / 128 / 128 / 128 / 128 / 128 / 128 / 128 / 128 % 256) 128, n / 128 / 128 / 128 / 128 / 128 / 128 / 128 / 128 / 128] = printB n.toNat from by
    have g1 := or_128 (n) (by omega)
    have g2 := or_128 (n / 128) (by omega)
    have g3 := or_128 (n / 128 / 128) (by omega)
    have g4 := or_128 (n / 128 / 128 / 128) (by omega)
    have g5 := or_128 (n / 128 / 128 / 128 / 128) (by omega)
    have g6 := or_128 (n / 128 / 128 / 128 / 128 / 128) (by omega)
    have g7 := or_128 (n / 128 / 128 / 128 / 128 / 128 / 128) (by omega)
    have g8 := or_128 (n / 128 / 128 / 128 / 128 / 128 / 128 / 128) (by omega)
    have g9 := or_128 (n / 128 / 128 / 128 / 128 / 128 / 128 / 128 / 128) (by omega)
    rw [← strOfNums_vpI]
    rw [vpI_greatI h1]
    rw [vpI_greatI h2]
    rw [vpI_greatI h3]
    rw [vpI_greatI h4]
    rw [vpI_greatI h5]
    rw [vpI_greatI h6]
    rw [vpI_greatI h7]
    rw [vpI_greatI h8]
    rw [vpI_greatI h9]
    rw [vpI_smallI h0 hz]
    rw [g1, g2, g3, g4, g5, g6, g7, g8, g9]
    skip)
  have hc := vconv1
  go_enter Tryz.func47, Tryz.ntmps47
  go_wp2
  refine wp_loop_rounds 10 ?_
  rw [rounds_succ]
  go_wp2
  rw [rounds_succ]
  go_wp2
  rw [rounds_succ]
  go_wp2
  rw [rounds_succ]
  go_wp2
  rw [rounds_succ]
  go_wp2
  rw [rounds_succ]
  go_wp2
  rw [rounds_succ]
  go_wp2
  rw [rounds_succ]
  go_wp2
  rw [rounds_succ]
  go_wp2
  rw [rounds_succ]
  go_wp2
  go_ret
  exact ⟨ret_str (Eq.trans rfl HE.out), by go_grown⟩

theorem ref_print_calls (n : Nat) (h : n < 18446744073709551616) : Gives Tryz.prog 47 #[.int .u64 n] (.string (printB n)) := by
  have e : printB n = printB (n : Int).toNat := by rw [Int.toNat_natCast]
  rw [e]
  generalize hm : (n : Int) = m
  have hh : m < 18446744073709551616 := by omega
  have hp : 0 ≤ m := by omega
  clear hm e h
  by_cases z1 : m < 128
  · exact ref_print_1 m (by omega)  z1
  by_cases z2 : m / 128 < 128
  · exact ref_print_2 m (by omega) (by omega) z2
  by_cases z3 : m / 128 / 128 < 128
  · exact ref_print_3 m (by omega) (by omega) (by omega) z3
  by_cases z4 : m / 128 / 128 / 128 < 128
  · exact ref_print_4 m (by omega) (by omega) (by omega) (by omega) z4
  by_cases z5 : m / 128 / 128 / 128 / 128 < 128
  · exact ref_print_5 m (by omega) (by omega) (by omega) (by omega) (by omega) z5
  by_cases z6 : m / 128 / 128 / 128 / 128 / 128 < 128
  · exact ref_print_6 m (by omega) (by omega) (by omega) (by omega) (by omega) (by omega) z6
  by_cases z7 : m / 128 / 128 / 128 / 128 / 128 / 128 < 128
  · exact ref_print_7 m (by omega) (by omega) (by omega) (by omega) (by omega) (by omega) (by omega) z7
  by_cases z8 : m / 128 / 128 / 128 / 128 / 128 / 128 / 128 < 128
  · exact ref_print_8 m (by omega) (by omega) (by omega) (by omega) (by omega) (by omega) (by omega) (by omega) z8
  by_cases z9 : m / 128 / 128 / 128 / 128 / 128 / 128 / 128 / 128 < 128
  · exact ref_print_9 m (by omega) (by omega) (by omega) (by omega) (by omega) (by omega) (by omega) (by omega) (by omega) z9
  exact ref_print_10 m (by omega) (by omega) (by omega) (by omega) (by omega) (by omega) (by omega) (by omega) (by omega) (by omega) (by omega)

end Go.Proofs.YtofepmdfciijeaaGreat
