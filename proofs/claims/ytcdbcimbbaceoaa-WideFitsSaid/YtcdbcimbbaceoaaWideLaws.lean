/- The walk of layer 11's awake. -/
import Derived.Test.YtcdbcimbbaceoaaWideOwn
import Derived.Test.YtcdbcimbbaceoaaWideProdRef
namespace Go.Proofs.Ytcdbcimbbaceoaa
open Go Go.RowKit

set_option maxRecDepth 100000 in
set_option maxHeartbeats 4000000 in
theorem awake_calls : Gives Try.prog 9 #[] (.bool true) := by
  intro w
  have P1 := Lib.hid (show Gives Try.prog 16 #[.int .i64 4611686018427387904, .int .i64 4] (.agg #[.int .i64 1, .int .u64 0]) from wide_product_calls (a := 4611686018427387904) (b := 4) (by decide) (by decide) (by decide) (by decide))
  have P2 := Lib.hid (show Gives Try.prog 16 #[.int .i64 (-3), .int .i64 7] (.agg #[.int .i64 (-1), .int .u64 18446744073709551595]) from wide_product_calls (a := -3) (b := 7) (by decide) (by decide) (by decide) (by decide))
  have M1 := Lib.hid (show Gives Try.prog 14 #[.agg #[.int .i64 1, .int .u64 0]] (.agg #[.int .i64 (-1), .int .u64 0]) from wide_minus_calls (a := (1, 0)) (by unfold InW; decide))
  have M2 := Lib.hid (show Gives Try.prog 14 #[.agg #[.int .i64 (-1), .int .u64 9223372036854775808]] (.agg #[.int .i64 0, .int .u64 9223372036854775808]) from wide_minus_calls (a := (-1, 9223372036854775808)) (by unfold InW; decide))
  have S1 := Lib.hid (show Gives Try.prog 12 #[.agg #[.int .i64 1, .int .u64 0], .agg #[.int .i64 (-1), .int .u64 0]] (.agg #[.int .i64 0, .int .u64 0]) from wide_sum_calls (a := (1, 0)) (b := (-1, 0)) (by unfold InW; decide) (by unfold InW; decide))
  have I1 := Lib.hid (show Gives Try.prog 7 #[.agg #[.int .i64 0, .int .u64 0]] (.tuple #[.int .i64 0, .int .i64 0]) from wide_int_calls (a := (0, 0)) (by unfold InW; decide))
  have I2 := Lib.hid (show Gives Try.prog 7 #[.agg #[.int .i64 1, .int .u64 0]] (.tuple #[.int .i64 0, .int .i64 7]) from wide_int_calls (a := (1, 0)) (by unfold InW; decide))
  have I3 := Lib.hid (show Gives Try.prog 7 #[.agg #[.int .i64 (-1), .int .u64 9223372036854775808]] (.tuple #[.int .i64 (-9223372036854775808), .int .i64 0]) from wide_int_calls (a := (-1, 9223372036854775808)) (by unfold InW; decide))
  have I4 := Lib.hid (show Gives Try.prog 7 #[.agg #[.int .i64 (-1), .int .u64 18446744073709551595]] (.tuple #[.int .i64 (-21), .int .i64 0]) from wide_int_calls (a := (-1, 18446744073709551595)) (by unfold InW; decide))
  have I5 := Lib.hid (show Gives Try.prog 7 #[.agg #[.int .i64 0, .int .u64 9223372036854775808]] (.tuple #[.int .i64 0, .int .i64 7]) from wide_int_calls (a := (0, 9223372036854775808)) (by unfold InW; decide))
  have O1 := Lib.hid (show Gives Try.prog 10 #[.int .i64 (-9223372036854775808)] (.agg #[.int .i64 (-1), .int .u64 9223372036854775808]) from wide_of_calls (-9223372036854775808) (by decide) (by decide))
  have O2 := Lib.hid (show Gives Try.prog 10 #[.int .i64 (-1)] (.agg #[.int .i64 (-1), .int .u64 18446744073709551615]) from wide_of_calls (-1) (by decide) (by decide))
  obtain ⟨hb, hB⟩ := start w
  go_enter Try.func9, Try.ntmps9
  go_wp2_with fail
  refine P1.out.step (w0 := w) (B := w.heap.size) hb hB ?_
  clear hb hB
  intro w1 hb hB
  have hx := wbox_lit w1 24 (1, 0)
  replace hb := (below_alloc hb hB (.cells #[.int .i64 1, .int .u64 0] 24)).1
  clear hB
  go_wp2_with fail
  generalize hB0 : w1.heap.size = B at *
  generalize w1.alloc (.cells #[.int .i64 1, .int .u64 0] 24) = w2 at *
  clear hB0
  obtain ⟨x0, x1, _⟩ := hx.cells
  dsimp only at x0 x1
  have q0 := fun d os => cell_regrown x0 d os
  have q1 := fun d os => cell_regrown x1 d os
  clear x0 x1
  refine wp_region_quiet_below (by kernel_rfl) (by kernel_rfl) ?_
  repeat (first | go_big_quiet_skip | (go_big_quiet_want; go_big_quiet_op; first | go_big_quiet_on | (apply Exists.intro; refine ⟨fun _ => ?_, ?_⟩; (first | (go_at_call 14; exact Calls.regrown_of (M1.out _)) | (go_at_call 12; exact Calls.regrown_of (S1.out _)) | (go_at_call 7; exact Calls.regrown_of (I1.out _))); go_big_quiet_on)))
  refine wpQuiet_nil ?_
  rintro w3 ⟨p, hw3⟩
  have hq : Below w2.heap.size w2 w3 := hw3 ▸ below_regrown w2 p.d p.os
  replace hx := hx.later hq
  replace hb := hb.trans (hq.mono hb.size)
  clear hw3 q0 q1 hq
  obtain ⟨x0, x1, _⟩ := hx.cells
  dsimp only at x0 x1
  go_wp2_with fail
  clear x0 x1
  refine I2.out.step (w0 := w3) (B := w3.heap.size) (.refl _ _) (Nat.le_refl _) ?_
  intro w4 hq _
  replace hx := hx.later hq
  replace hb := hb.trans (hq.mono hb.size)
  clear hq
  obtain ⟨x0, x1, _⟩ := hx.cells
  dsimp only at x0 x1
  go_wp2_with fail
  clear x0 x1
  refine O1.out.step (w0 := w4) (B := w4.heap.size) (.refl _ _) (Nat.le_refl _) ?_
  intro w5 hq _
  replace hx := hx.later hq
  replace hb := hb.trans (hq.mono hb.size)
  clear hq
  obtain ⟨x0, x1, _⟩ := hx.cells
  dsimp only at x0 x1
  go_wp2_with fail
  clear x0 x1
  refine I3.out.step (w0 := w5) (B := w5.heap.size) (.refl _ _) (Nat.le_refl _) ?_
  intro w6 hq _
  replace hx := hx.later hq
  replace hb := hb.trans (hq.mono hb.size)
  clear hq
  obtain ⟨x0, x1, _⟩ := hx.cells
  dsimp only at x0 x1
  go_wp2_with fail
  clear x0 x1
  refine P2.out.step (w0 := w6) (B := w6.heap.size) (.refl _ _) (Nat.le_refl _) ?_
  intro w7 hq _
  replace hx := hx.later hq
  replace hb := hb.trans (hq.mono hb.size)
  clear hq
  obtain ⟨x0, x1, _⟩ := hx.cells
  dsimp only at x0 x1
  go_wp2_with fail
  clear x0 x1
  refine I4.out.step (w0 := w7) (B := w7.heap.size) (.refl _ _) (Nat.le_refl _) ?_
  intro w8 hq _
  replace hx := hx.later hq
  replace hb := hb.trans (hq.mono hb.size)
  clear hq
  obtain ⟨x0, x1, _⟩ := hx.cells
  dsimp only at x0 x1
  go_wp2_with fail
  clear x0 x1
  refine O1.out.step (w0 := w8) (B := w8.heap.size) (.refl _ _) (Nat.le_refl _) ?_
  intro w9 hq _
  replace hx := hx.later hq
  replace hb := hb.trans (hq.mono hb.size)
  clear hq
  obtain ⟨x0, x1, _⟩ := hx.cells
  dsimp only at x0 x1
  go_wp2_with fail
  clear x0 x1
  refine M2.out.step (w0 := w9) (B := w9.heap.size) (.refl _ _) (Nat.le_refl _) ?_
  intro w10 hq _
  replace hx := hx.later hq
  replace hb := hb.trans (hq.mono hb.size)
  clear hq
  obtain ⟨x0, x1, _⟩ := hx.cells
  dsimp only at x0 x1
  go_wp2_with fail
  clear x0 x1
  refine I5.out.step (w0 := w10) (B := w10.heap.size) (.refl _ _) (Nat.le_refl _) ?_
  intro w11 hq _
  replace hx := hx.later hq
  replace hb := hb.trans (hq.mono hb.size)
  clear hq
  obtain ⟨x0, x1, _⟩ := hx.cells
  dsimp only at x0 x1
  go_wp2_with fail
  clear x0 x1
  refine O2.out.step (w0 := w11) (B := w11.heap.size) (.refl _ _) (Nat.le_refl _) ?_
  intro w12 hq _
  replace hx := hx.later hq
  replace hb := hb.trans (hq.mono hb.size)
  clear hq
  go_wp2
  go_ret
  exact ⟨rfl, hb⟩
end Go.Proofs.Ytcdbcimbbaceoaa
