/- Contracts of Print. -/
import Derived.Test.YtclkkffeaabloaaVaryWalks
namespace Go.Proofs.Ytclkkffeaabloaa
open Go Go.RowKit

theorem conv10_1 (w : World) (T : TypeId) (a b c d e f g h i j : Int) :
    (convert 44 9 (.slice (some ⟨w.heap.size, 0, none⟩) 1 10)).run Try.prog (w.alloc (.cells #[.int .u8 a, .int .u8 b, .int .u8 c, .int .u8 d, .int .u8 e, .int .u8 f, .int .u8 g, .int .u8 h, .int .u8 i, .int .u8 j] T)) =
      .ok (.string (strOfNums [a])) (w.alloc (.cells #[.int .u8 a, .int .u8 b, .int .u8 c, .int .u8 d, .int .u8 e, .int .u8 f, .int .u8 g, .int .u8 h, .int .u8 i, .int .u8 j] T)) :=
  conv_take w 44 5 9 Try.underlying44 Try.underlying5 Try.underlying9 [a] [b, c, d, e, f, g, h, i, j] 10 T
theorem conv10_2 (w : World) (T : TypeId) (a b c d e f g h i j : Int) :
    (convert 44 9 (.slice (some ⟨w.heap.size, 0, none⟩) 2 10)).run Try.prog (w.alloc (.cells #[.int .u8 a, .int .u8 b, .int .u8 c, .int .u8 d, .int .u8 e, .int .u8 f, .int .u8 g, .int .u8 h, .int .u8 i, .int .u8 j] T)) =
      .ok (.string (strOfNums [a, b])) (w.alloc (.cells #[.int .u8 a, .int .u8 b, .int .u8 c, .int .u8 d, .int .u8 e, .int .u8 f, .int .u8 g, .int .u8 h, .int .u8 i, .int .u8 j] T)) :=
  conv_take w 44 5 9 Try.underlying44 Try.underlying5 Try.underlying9 [a, b] [c, d, e, f, g, h, i, j] 10 T
theorem conv10_3 (w : World) (T : TypeId) (a b c d e f g h i j : Int) :
    (convert 44 9 (.slice (some ⟨w.heap.size, 0, none⟩) 3 10)).run Try.prog (w.alloc (.cells #[.int .u8 a, .int .u8 b, .int .u8 c, .int .u8 d, .int .u8 e, .int .u8 f, .int .u8 g, .int .u8 h, .int .u8 i, .int .u8 j] T)) =
      .ok (.string (strOfNums [a, b, c])) (w.alloc (.cells #[.int .u8 a, .int .u8 b, .int .u8 c, .int .u8 d, .int .u8 e, .int .u8 f, .int .u8 g, .int .u8 h, .int .u8 i, .int .u8 j] T)) :=
  conv_take w 44 5 9 Try.underlying44 Try.underlying5 Try.underlying9 [a, b, c] [d, e, f, g, h, i, j] 10 T
theorem conv10_4 (w : World) (T : TypeId) (a b c d e f g h i j : Int) :
    (convert 44 9 (.slice (some ⟨w.heap.size, 0, none⟩) 4 10)).run Try.prog (w.alloc (.cells #[.int .u8 a, .int .u8 b, .int .u8 c, .int .u8 d, .int .u8 e, .int .u8 f, .int .u8 g, .int .u8 h, .int .u8 i, .int .u8 j] T)) =
      .ok (.string (strOfNums [a, b, c, d])) (w.alloc (.cells #[.int .u8 a, .int .u8 b, .int .u8 c, .int .u8 d, .int .u8 e, .int .u8 f, .int .u8 g, .int .u8 h, .int .u8 i, .int .u8 j] T)) :=
  conv_take w 44 5 9 Try.underlying44 Try.underlying5 Try.underlying9 [a, b, c, d] [e, f, g, h, i, j] 10 T
theorem conv10_5 (w : World) (T : TypeId) (a b c d e f g h i j : Int) :
    (convert 44 9 (.slice (some ⟨w.heap.size, 0, none⟩) 5 10)).run Try.prog (w.alloc (.cells #[.int .u8 a, .int .u8 b, .int .u8 c, .int .u8 d, .int .u8 e, .int .u8 f, .int .u8 g, .int .u8 h, .int .u8 i, .int .u8 j] T)) =
      .ok (.string (strOfNums [a, b, c, d, e])) (w.alloc (.cells #[.int .u8 a, .int .u8 b, .int .u8 c, .int .u8 d, .int .u8 e, .int .u8 f, .int .u8 g, .int .u8 h, .int .u8 i, .int .u8 j] T)) :=
  conv_take w 44 5 9 Try.underlying44 Try.underlying5 Try.underlying9 [a, b, c, d, e] [f, g, h, i, j] 10 T
theorem conv10_6 (w : World) (T : TypeId) (a b c d e f g h i j : Int) :
    (convert 44 9 (.slice (some ⟨w.heap.size, 0, none⟩) 6 10)).run Try.prog (w.alloc (.cells #[.int .u8 a, .int .u8 b, .int .u8 c, .int .u8 d, .int .u8 e, .int .u8 f, .int .u8 g, .int .u8 h, .int .u8 i, .int .u8 j] T)) =
      .ok (.string (strOfNums [a, b, c, d, e, f])) (w.alloc (.cells #[.int .u8 a, .int .u8 b, .int .u8 c, .int .u8 d, .int .u8 e, .int .u8 f, .int .u8 g, .int .u8 h, .int .u8 i, .int .u8 j] T)) :=
  conv_take w 44 5 9 Try.underlying44 Try.underlying5 Try.underlying9 [a, b, c, d, e, f] [g, h, i, j] 10 T
theorem conv10_7 (w : World) (T : TypeId) (a b c d e f g h i j : Int) :
    (convert 44 9 (.slice (some ⟨w.heap.size, 0, none⟩) 7 10)).run Try.prog (w.alloc (.cells #[.int .u8 a, .int .u8 b, .int .u8 c, .int .u8 d, .int .u8 e, .int .u8 f, .int .u8 g, .int .u8 h, .int .u8 i, .int .u8 j] T)) =
      .ok (.string (strOfNums [a, b, c, d, e, f, g])) (w.alloc (.cells #[.int .u8 a, .int .u8 b, .int .u8 c, .int .u8 d, .int .u8 e, .int .u8 f, .int .u8 g, .int .u8 h, .int .u8 i, .int .u8 j] T)) :=
  conv_take w 44 5 9 Try.underlying44 Try.underlying5 Try.underlying9 [a, b, c, d, e, f, g] [h, i, j] 10 T
theorem conv10_8 (w : World) (T : TypeId) (a b c d e f g h i j : Int) :
    (convert 44 9 (.slice (some ⟨w.heap.size, 0, none⟩) 8 10)).run Try.prog (w.alloc (.cells #[.int .u8 a, .int .u8 b, .int .u8 c, .int .u8 d, .int .u8 e, .int .u8 f, .int .u8 g, .int .u8 h, .int .u8 i, .int .u8 j] T)) =
      .ok (.string (strOfNums [a, b, c, d, e, f, g, h])) (w.alloc (.cells #[.int .u8 a, .int .u8 b, .int .u8 c, .int .u8 d, .int .u8 e, .int .u8 f, .int .u8 g, .int .u8 h, .int .u8 i, .int .u8 j] T)) :=
  conv_take w 44 5 9 Try.underlying44 Try.underlying5 Try.underlying9 [a, b, c, d, e, f, g, h] [i, j] 10 T
theorem conv10_9 (w : World) (T : TypeId) (a b c d e f g h i j : Int) :
    (convert 44 9 (.slice (some ⟨w.heap.size, 0, none⟩) 9 10)).run Try.prog (w.alloc (.cells #[.int .u8 a, .int .u8 b, .int .u8 c, .int .u8 d, .int .u8 e, .int .u8 f, .int .u8 g, .int .u8 h, .int .u8 i, .int .u8 j] T)) =
      .ok (.string (strOfNums [a, b, c, d, e, f, g, h, i])) (w.alloc (.cells #[.int .u8 a, .int .u8 b, .int .u8 c, .int .u8 d, .int .u8 e, .int .u8 f, .int .u8 g, .int .u8 h, .int .u8 i, .int .u8 j] T)) :=
  conv_take w 44 5 9 Try.underlying44 Try.underlying5 Try.underlying9 [a, b, c, d, e, f, g, h, i] [j] 10 T
theorem conv10_10 (w : World) (T : TypeId) (a b c d e f g h i j : Int) :
    (convert 44 9 (.slice (some ⟨w.heap.size, 0, none⟩) 10 10)).run Try.prog (w.alloc (.cells #[.int .u8 a, .int .u8 b, .int .u8 c, .int .u8 d, .int .u8 e, .int .u8 f, .int .u8 g, .int .u8 h, .int .u8 i, .int .u8 j] T)) =
      .ok (.string (strOfNums [a, b, c, d, e, f, g, h, i, j])) (w.alloc (.cells #[.int .u8 a, .int .u8 b, .int .u8 c, .int .u8 d, .int .u8 e, .int .u8 f, .int .u8 g, .int .u8 h, .int .u8 i, .int .u8 j] T)) :=
  conv_take w 44 5 9 Try.underlying44 Try.underlying5 Try.underlying9 [a, b, c, d, e, f, g, h, i, j] [] 10 T
set_option maxHeartbeats 400000 in
theorem print_1 (n : Int) (h0 : 0 ≤ n) (hz : n < 128) : Gives Try.prog 19 #[.int .u64 n] (.string (printB n.toNat)) := by
  intro w
  obtain ⟨hb, hB⟩ := start w
  have HE := Lib.hid (show strOfNums [n] = printB n.toNat from by
    rw [← strOfNums_vpI]
    rw [vpI_smallI h0 hz]
    skip)
  have hc := conv10_1
  go_enter Try.func19, Try.ntmps19
  go_wp2
  refine wp_loop_rounds 10 ?_
  rw [rounds_succ]
  go_wp2
  go_ret
  exact ⟨ret_str HE.out, by go_grown⟩

set_option maxHeartbeats 400000 in
theorem print_2 (n : Int) (h0 : 0 ≤ n / 128) (h1 : 128 ≤ n) (hz : n / 128 < 128) : Gives Try.prog 19 #[.int .u64 n] (.string (printB n.toNat)) := by
  intro w
  obtain ⟨hb, hB⟩ := start w
  have HE := Lib.hid (show strOfNums [bits .or .u8 (n % 256) 128, n / 128] = printB n.toNat from by
    have g1 := or_128 (n) (by omega)
    rw [← strOfNums_vpI]
    rw [vpI_greatI h1]
    rw [vpI_smallI h0 hz]
    rw [g1]
    skip)
  have hc := conv10_2
  go_enter Try.func19, Try.ntmps19
  go_wp2
  refine wp_loop_rounds 10 ?_
  rw [rounds_succ]
  go_wp2
  rw [rounds_succ]
  go_wp2
  go_ret
  exact ⟨ret_str HE.out, by go_grown⟩

set_option maxHeartbeats 400000 in
theorem print_3 (n : Int) (h0 : 0 ≤ n / 128 / 128) (h1 : 128 ≤ n) (h2 : 128 ≤ n / 128) (hz : n / 128 / 128 < 128) : Gives Try.prog 19 #[.int .u64 n] (.string (printB n.toNat)) := by
  intro w
  obtain ⟨hb, hB⟩ := start w
  have HE := Lib.hid (show strOfNums [bits .or .u8 (n % 256) 128, bits .or .u8 (n / 128 % 256) 128, n / 128 / 128] = printB n.toNat from by
    have g1 := or_128 (n) (by omega)
    have g2 := or_128 (n / 128) (by omega)
    rw [← strOfNums_vpI]
    rw [vpI_greatI h1]
    rw [vpI_greatI h2]
    rw [vpI_smallI h0 hz]
    rw [g1, g2]
    skip)
  have hc := conv10_3
  go_enter Try.func19, Try.ntmps19
  go_wp2
  refine wp_loop_rounds 10 ?_
  rw [rounds_succ]
  go_wp2
  rw [rounds_succ]
  go_wp2
  rw [rounds_succ]
  go_wp2
  go_ret
  exact ⟨ret_str HE.out, by go_grown⟩

set_option maxHeartbeats 400000 in
theorem print_4 (n : Int) (h0 : 0 ≤ n / 128 / 128 / 128) (h1 : 128 ≤ n) (h2 : 128 ≤ n / 128) (h3 : 128 ≤ n / 128 / 128) (hz : n / 128 / 128 / 128 < 128) : Gives Try.prog 19 #[.int .u64 n] (.string (printB n.toNat)) := by
  intro w
  obtain ⟨hb, hB⟩ := start w
  have HE := Lib.hid (show strOfNums [bits .or .u8 (n % 256) 128, bits .or .u8 (n / 128 % 256) 128, bits .or .u8 (n / 128 / 128 % 256) 128, n / 128 / 128 / 128] = printB n.toNat from by
    have g1 := or_128 (n) (by omega)
    have g2 := or_128 (n / 128) (by omega)
    have g3 := or_128 (n / 128 / 128) (by omega)
    rw [← strOfNums_vpI]
    rw [vpI_greatI h1]
    rw [vpI_greatI h2]
    rw [vpI_greatI h3]
    rw [vpI_smallI h0 hz]
    rw [g1, g2, g3]
    skip)
  have hc := conv10_4
  go_enter Try.func19, Try.ntmps19
  go_wp2
  refine wp_loop_rounds 10 ?_
  rw [rounds_succ]
  go_wp2
  rw [rounds_succ]
  go_wp2
  rw [rounds_succ]
  go_wp2
  rw [rounds_succ]
  go_wp2
  go_ret
  exact ⟨ret_str HE.out, by go_grown⟩

set_option maxHeartbeats 400000 in
theorem print_5 (n : Int) (h0 : 0 ≤ n / 128 / 128 / 128 / 128) (h1 : 128 ≤ n) (h2 : 128 ≤ n / 128) (h3 : 128 ≤ n / 128 / 128) (h4 : 128 ≤ n / 128 / 128 / 128) (hz : n / 128 / 128 / 128 / 128 < 128) : Gives Try.prog 19 #[.int .u64 n] (.string (printB n.toNat)) := by
  intro w
  obtain ⟨hb, hB⟩ := start w
  have HE := Lib.hid (show strOfNums [bits .or .u8 (n % 256) 128, bits .or .u8 (n / 128 % 256) 128, bits .or .u8 (n / 128 / 128 % 256) 128, bits .or .u8 (n / 128 / 128 / 128 % 256) 128, n / 128 / 128 / 128 / 128] = printB n.toNat from by
    have g1 := or_128 (n) (by omega)
    have g2 := or_128 (n / 128) (by omega)
    have g3 := or_128 (n / 128 / 128) (by omega)
    have g4 := or_128 (n / 128 / 128 / 128) (by omega)
    rw [← strOfNums_vpI]
    rw [vpI_greatI h1]
    rw [vpI_greatI h2]
    rw [vpI_greatI h3]
    rw [vpI_greatI h4]
    rw [vpI_smallI h0 hz]
    rw [g1, g2, g3, g4]
    skip)
  have hc := conv10_5
  go_enter Try.func19, Try.ntmps19
  go_wp2
  refine wp_loop_rounds 10 ?_
  rw [rounds_succ]
  go_wp2
  rw [rounds_succ]
  go_wp2
  rw [rounds_succ]
  go_wp2
  rw [rounds_succ]
  go_wp2
  rw [rounds_succ]
  go_wp2
  go_ret
  exact ⟨ret_str HE.out, by go_grown⟩

set_option maxHeartbeats 400000 in
theorem print_6 (n : Int) (h0 : 0 ≤ n / 128 / 128 / 128 / 128 / 128) (h1 : 128 ≤ n) (h2 : 128 ≤ n / 128) (h3 : 128 ≤ n / 128 / 128) (h4 : 128 ≤ n / 128 / 128 / 128) (h5 : 128 ≤ n / 128 / 128 / 128 / 128) (hz : n / 128 / 128 / 128 / 128 / 128 < 128) : Gives Try.prog 19 #[.int .u64 n] (.string (printB n.toNat)) := by
  intro w
  obtain ⟨hb, hB⟩ := start w
  have HE := Lib.hid (show strOfNums [bits .or .u8 (n % 256) 128, bits .or .u8 (n / 128 % 256) 128, bits .or .u8 (n / 128 / 128 % 256) 128, bits .or .u8 (n / 128 / 128 / 128 % 256) 128, bits .or .u8 (n / 128 / 128 / 128 / 128 % 256) 128, n / 128 / 128 / 128 / 128 / 128] = printB n.toNat from by
    have g1 := or_128 (n) (by omega)
    have g2 := or_128 (n / 128) (by omega)
    have g3 := or_128 (n / 128 / 128) (by omega)
    have g4 := or_128 (n / 128 / 128 / 128) (by omega)
    have g5 := or_128 (n / 128 / 128 / 128 / 128) (by omega)
    rw [← strOfNums_vpI]
    rw [vpI_greatI h1]
    rw [vpI_greatI h2]
    rw [vpI_greatI h3]
    rw [vpI_greatI h4]
    rw [vpI_greatI h5]
    rw [vpI_smallI h0 hz]
    rw [g1, g2, g3, g4, g5]
    skip)
  have hc := conv10_6
  go_enter Try.func19, Try.ntmps19
  go_wp2
  refine wp_loop_rounds 10 ?_
  rw [rounds_succ]
  go_wp2
  rw [rounds_succ]
  go_wp2
  rw [rounds_succ]
  go_wp2
  rw [rounds_succ]
  go_wp2
  rw [rounds_succ]
  go_wp2
  rw [rounds_succ]
  go_wp2
  go_ret
  exact ⟨ret_str HE.out, by go_grown⟩

set_option maxHeartbeats 400000 in
theorem print_7 (n : Int) (h0 : 0 ≤ n / 128 / 128 / 128 / 128 / 128 / 128) (h1 : 128 ≤ n) (h2 : 128 ≤ n / 128) (h3 : 128 ≤ n / 128 / 128) (h4 : 128 ≤ n / 128 / 128 / 128) (h5 : 128 ≤ n / 128 / 128 / 128 / 128) (h6 : 128 ≤ n / 128 / 128 / 128 / 128 / 128) (hz : n / 128 / 128 / 128 / 128 / 128 / 128 < 128) : Gives Try.prog 19 #[.int .u64 n] (.string (printB n.toNat)) := by
  intro w
  obtain ⟨hb, hB⟩ := start w
  have HE := Lib.hid (show strOfNums [bits .or .u8 (n % 256) 128, bits .or .u8 (n / 128 % 256) 128, bits .or .u8 (n / 128 / 128 % 256) 128, bits .or .u8 (n / 128 / 128 / 128 % 256) 128, bits .or .u8 (n / 128 / 128 / 128 / 128 % 256) 128, bits .or .u8 (n / 128 / 128 / 128 / 128 / 128 % 256) 128, n / 128 / 128 / 128 / 128 / 128 / 128] = printB n.toNat from by
    have g1 := or_128 (n) (by omega)
    have g2 := or_128 (n / 128) (by omega)
    have g3 := or_128 (n / 128 / 128) (by omega)
    have g4 := or_128 (n / 128 / 128 / 128) (by omega)
    have g5 := or_128 (n / 128 / 128 / 128 / 128) (by omega)
    have g6 := or_128 (n / 128 / 128 / 128 / 128 / 128) (by omega)
    rw [← strOfNums_vpI]
    rw [vpI_greatI h1]
    rw [vpI_greatI h2]
    rw [vpI_greatI h3]
    rw [vpI_greatI h4]
    rw [vpI_greatI h5]
    rw [vpI_greatI h6]
    rw [vpI_smallI h0 hz]
    rw [g1, g2, g3, g4, g5, g6]
    skip)
  have hc := conv10_7
  go_enter Try.func19, Try.ntmps19
  go_wp2
  refine wp_loop_rounds 10 ?_
  rw [rounds_succ]
  go_wp2
  rw [rounds_succ]
  go_wp2
  rw [rounds_succ]
  go_wp2
  rw [rounds_succ]
  go_wp2
  rw [rounds_succ]
  go_wp2
  rw [rounds_succ]
  go_wp2
  rw [rounds_succ]
  go_wp2
  go_ret
  exact ⟨ret_str HE.out, by go_grown⟩

set_option maxHeartbeats 400000 in
theorem print_8 (n : Int) (h0 : 0 ≤ n / 128 / 128 / 128 / 128 / 128 / 128 / 128) (h1 : 128 ≤ n) (h2 : 128 ≤ n / 128) (h3 : 128 ≤ n / 128 / 128) (h4 : 128 ≤ n / 128 / 128 / 128) (h5 : 128 ≤ n / 128 / 128 / 128 / 128) (h6 : 128 ≤ n / 128 / 128 / 128 / 128 / 128) (h7 : 128 ≤ n / 128 / 128 / 128 / 128 / 128 / 128) (hz : n / 128 / 128 / 128 / 128 / 128 / 128 / 128 < 128) : Gives Try.prog 19 #[.int .u64 n] (.string (printB n.toNat)) := by
  intro w
  obtain ⟨hb, hB⟩ := start w
  have HE := Lib.hid (show strOfNums [bits .or .u8 (n % 256) 128, bits .or .u8 (n / 128 % 256) 128, bits .or .u8 (n / 128 / 128 % 256) 128, bits .or .u8 (n / 128 / 128 / 128 % 256) 128, bits .or .u8 (n / 128 / 128 / 128 / 128 % 256) 128, bits .or .u8 (n / 128 / 128 / 128 / 128 / 128 % 256) 128, bits .or .u8 (n / 128 / 128 / 128 / 128 / 128 / 128 % 256) 128, n / 128 / 128 / 128 / 128 / 128 / 128 / 128] = printB n.toNat from by
    have g1 := or_128 (n) (by omega)
    have g2 := or_128 (n / 128) (by omega)
    have g3 := or_128 (n / 128 / 128) (by omega)
    have g4 := or_128 (n / 128 / 128 / 128) (by omega)
    have g5 := or_128 (n / 128 / 128 / 128 / 128) (by omega)
    have g6 := or_128 (n / 128 / 128 / 128 / 128 / 128) (by omega)
    have g7 := or_128 (n / 128 / 128 / 128 / 128 / 128 / 128) (by omega)
    rw [← strOfNums_vpI]
    rw [vpI_greatI h1]
    rw [vpI_greatI h2]
    rw [vpI_greatI h3]
    rw [vpI_greatI h4]
    rw [vpI_greatI h5]
    rw [vpI_greatI h6]
    rw [vpI_greatI h7]
    rw [vpI_smallI h0 hz]
    rw [g1, g2, g3, g4, g5, g6, g7]
    skip)
  have hc := conv10_8
  go_enter Try.func19, Try.ntmps19
  go_wp2
  refine wp_loop_rounds 10 ?_
  rw [rounds_succ]
  go_wp2
  rw [rounds_succ]
  go_wp2
  rw [rounds_succ]
  go_wp2
  rw [rounds_succ]
  go_wp2
  rw [rounds_succ]
  go_wp2
  rw [rounds_succ]
  go_wp2
  rw [rounds_succ]
  go_wp2
  rw [rounds_succ]
  go_wp2
  go_ret
  exact ⟨ret_str HE.out, by go_grown⟩

set_option maxHeartbeats 400000 in
theorem print_9 (n : Int) (h0 : 0 ≤ n / 128 / 128 / 128 / 128 / 128 / 128 / 128 / 128) (h1 : 128 ≤ n) (h2 : 128 ≤ n / 128) (h3 : 128 ≤ n / 128 / 128) (h4 : 128 ≤ n / 128 / 128 / 128) (h5 : 128 ≤ n / 128 / 128 / 128 / 128) (h6 : 128 ≤ n / 128 / 128 / 128 / 128 / 128) (h7 : 128 ≤ n / 128 / 128 / 128 / 128 / 128 / 128) (h8 : 128 ≤ n / 128 / 128 / 128 / 128 / 128 / 128 / 128) (hz : n / 128 / 128 / 128 / 128 / 128 / 128 / 128 / 128 < 128) : Gives Try.prog 19 #[.int .u64 n] (.string (printB n.toNat)) := by
  intro w
  obtain ⟨hb, hB⟩ := start w
  have HE := Lib.hid (show strOfNums [bits .or .u8 (n % 256) 128, bits .or .u8 (n / 128 % 256) 128, bits .or .u8 (n / 128 / 128 % 256) 128, bits .or .u8 (n / 128 / 128 / 128 % 256) 128, bits .or .u8 (n / 128 / 128 / 128 / 128 % 256) 128, bits .or .u8 (n / 128 / 128 / 128 / 128 / 128 % 256) 128, bits .or .u8 (n / 128 / 128 / 128 / 128 / 128 / 128 % 256) 128, bits .or .u8 (n / 128 / 128 / 128 / 128 / 128 / 128 / 128 % 256) 128, n / 128 / 128 / 128 / 128 / 128 / 128 / 128 / 128] = printB n.toNat from by
    have g1 := or_128 (n) (by omega)
    have g2 := or_128 (n / 128) (by omega)
    have g3 := or_128 (n / 128 / 128) (by omega)
    have g4 := or_128 (n / 128 / 128 / 128) (by omega)
    have g5 := or_128 (n / 128 / 128 / 128 / 128) (by omega)
    have g6 := or_128 (n / 128 / 128 / 128 / 128 / 128) (by omega)
    have g7 := or_128 (n / 128 / 128 / 128 / 128 / 128 / 128) (by omega)
    have g8 := or_128 (n / 128 / 128 / 128 / 128 / 128 / 128 / 128) (by omega)
    rw [← strOfNums_vpI]
    rw [vpI_greatI h1]
    rw [vpI_greatI h2]
    rw [vpI_greatI h3]
    rw [vpI_greatI h4]
    rw [vpI_greatI h5]
    rw [vpI_greatI h6]
    rw [vpI_greatI h7]
    rw [vpI_greatI h8]
    rw [vpI_smallI h0 hz]
    rw [g1, g2, g3, g4, g5, g6, g7, g8]
    skip)
  have hc := conv10_9
  go_enter Try.func19, Try.ntmps19
  go_wp2
  refine wp_loop_rounds 10 ?_
  rw [rounds_succ]
  go_wp2
  rw [rounds_succ]
  go_wp2
  rw [rounds_succ]
  go_wp2
  rw [rounds_succ]
  go_wp2
  rw [rounds_succ]
  go_wp2
  rw [rounds_succ]
  go_wp2
  rw [rounds_succ]
  go_wp2
  rw [rounds_succ]
  go_wp2
  rw [rounds_succ]
  go_wp2
  go_ret
  exact ⟨ret_str HE.out, by go_grown⟩

set_option maxHeartbeats 400000 in
theorem print_10 (n : Int) (h0 : 0 ≤ n / 128 / 128 / 128 / 128 / 128 / 128 / 128 / 128 / 128) (h1 : 128 ≤ n) (h2 : 128 ≤ n / 128) (h3 : 128 ≤ n / 128 / 128) (h4 : 128 ≤ n / 128 / 128 / 128) (h5 : 128 ≤ n / 128 / 128 / 128 / 128) (h6 : 128 ≤ n / 128 / 128 / 128 / 128 / 128) (h7 : 128 ≤ n / 128 / 128 / 128 / 128 / 128 / 128) (h8 : 128 ≤ n / 128 / 128 / 128 / 128 / 128 / 128 / 128) (h9 : 128 ≤ n / 128 / 128 / 128 / 128 / 128 / 128 / 128 / 128) (hz : n / 128 / 128 / 128 / 128 / 128 / 128 / 128 / 128 / 128 < 128) : Gives Try.prog 19 #[.int .u64 n] (.string (printB n.toNat)) := by
  intro w
  obtain ⟨hb, hB⟩ := start w
  have HE := Lib.hid (show strOfNums [bits .or .u8 (n % 256) 128, bits .or .u8 (n / 128 % 256) 128, bits .or .u8 (n / 128 / 128 % 256) 128, bits .or .u8 (n / 128 / 128 / 128 % 256) 128, bits .or .u8 (n / 128 / 128 / 128 / 128 % 256) 128, bits .or .u8 (n / 128 / 128 / 128 / 128 / 128 % 256) 128, bits .or .u8 (n / 128 / 128 / 128 / 128 / 128 / 128 % 256) 128, bits .or .u8 (n / 128 / 128 / 128 / 128 / 128 / 128 / 128 % 256) 128, bits .or .u8 (n / 128 / 128 / 128 / 128 / 128 / 128 / 128 / 128 % 256) 128, n / 128 / 128 / 128 / 128 / 128 / 128 / 128 / 128 / 128] = printB n.toNat from by
    have g1 := or_128 (n) (by omega)
    have g2 := or_128 (n / 128) (by omega)
    have g3 := or_128 (n / 128 / 128) (by omega)
    have g4 := or_128 (n / 128 / 128 / 128) (by omega)
    have g5 := or_128 (n / 128 / 128 / 128 / 128) (by omega)
    have g6 := or_128 (n / 128 / 128 / 128 / 128 / 128) (by omega)
    have g7 := or_128 (n / 128 / 128 / 128 / 128 / 128 / 128) (by omega)
    have g8 := or_128 (n / 128 / 128 / 128 / 128 / 128 / 128 / 128) (by omega)
    have g9 := or_128 (n / 128 / 128 / 128 / 128 / 128 / 128 / 128 / 128) (by omega)
    rw [← strOfNums_vpI]
    rw [vpI_greatI h1]
    rw [vpI_greatI h2]
    rw [vpI_greatI h3]
    rw [vpI_greatI h4]
    rw [vpI_greatI h5]
    rw [vpI_greatI h6]
    rw [vpI_greatI h7]
    rw [vpI_greatI h8]
    rw [vpI_greatI h9]
    rw [vpI_smallI h0 hz]
    rw [g1, g2, g3, g4, g5, g6, g7, g8, g9]
    skip)
  have hc := conv10_10
  go_enter Try.func19, Try.ntmps19
  go_wp2
  refine wp_loop_rounds 10 ?_
  rw [rounds_succ]
  go_wp2
  rw [rounds_succ]
  go_wp2
  rw [rounds_succ]
  go_wp2
  rw [rounds_succ]
  go_wp2
  rw [rounds_succ]
  go_wp2
  rw [rounds_succ]
  go_wp2
  rw [rounds_succ]
  go_wp2
  rw [rounds_succ]
  go_wp2
  rw [rounds_succ]
  go_wp2
  rw [rounds_succ]
  go_wp2
  go_ret
  exact ⟨ret_str HE.out, by go_grown⟩

theorem print_calls (n : Nat) (h : n < 18446744073709551616) : Gives Try.prog 19 #[.int .u64 n] (.string (printB n)) := by
  have e : printB n = printB (n : Int).toNat := by rw [Int.toNat_natCast]
  rw [e]
  generalize hm : (n : Int) = m
  have hh : m < 18446744073709551616 := by omega
  have hp : 0 ≤ m := by omega
  clear hm e h
  by_cases z1 : m < 128
  · exact print_1 m (by omega)  z1
  by_cases z2 : m / 128 < 128
  · exact print_2 m (by omega) (by omega) z2
  by_cases z3 : m / 128 / 128 < 128
  · exact print_3 m (by omega) (by omega) (by omega) z3
  by_cases z4 : m / 128 / 128 / 128 < 128
  · exact print_4 m (by omega) (by omega) (by omega) (by omega) z4
  by_cases z5 : m / 128 / 128 / 128 / 128 < 128
  · exact print_5 m (by omega) (by omega) (by omega) (by omega) (by omega) z5
  by_cases z6 : m / 128 / 128 / 128 / 128 / 128 < 128
  · exact print_6 m (by omega) (by omega) (by omega) (by omega) (by omega) (by omega) z6
  by_cases z7 : m / 128 / 128 / 128 / 128 / 128 / 128 < 128
  · exact print_7 m (by omega) (by omega) (by omega) (by omega) (by omega) (by omega) (by omega) z7
  by_cases z8 : m / 128 / 128 / 128 / 128 / 128 / 128 / 128 < 128
  · exact print_8 m (by omega) (by omega) (by omega) (by omega) (by omega) (by omega) (by omega) (by omega) z8
  by_cases z9 : m / 128 / 128 / 128 / 128 / 128 / 128 / 128 / 128 < 128
  · exact print_9 m (by omega) (by omega) (by omega) (by omega) (by omega) (by omega) (by omega) (by omega) (by omega) z9
  exact print_10 m (by omega) (by omega) (by omega) (by omega) (by omega) (by omega) (by omega) (by omega) (by omega) (by omega) (by omega)

end Go.Proofs.Ytclkkffeaabloaa
