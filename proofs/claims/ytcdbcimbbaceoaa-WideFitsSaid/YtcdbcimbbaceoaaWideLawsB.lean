/- The laws WideTells and WideGroup. -/
import Derived.Test.YtcdbcimbbaceoaaWideLaws
import Derived.Test.YtcdbcimbbaceoaaWideBits
namespace Go.Proofs.Ytcdbcimbbaceoaa
open Go Go.RowKit

/-- Three boxes, laid one behind the other. -/
theorem three_lits (w : World) (T T3 : TypeId) (a b c : Wd) (k : IntKind) :
    WBox (((w.alloc (.cells #[.int .i64 a.1, .int .u64 a.2] T)).alloc (.cells #[.int .i64 b.1, .int .u64 b.2] T)).alloc (.cells #[.int .i64 c.1, .int k c.2] T3)) w.heap.size a ∧
    WBox (((w.alloc (.cells #[.int .i64 a.1, .int .u64 a.2] T)).alloc (.cells #[.int .i64 b.1, .int .u64 b.2] T)).alloc (.cells #[.int .i64 c.1, .int k c.2] T3)) (w.heap.size + 1) b ∧
    (((w.alloc (.cells #[.int .i64 a.1, .int .u64 a.2] T)).alloc (.cells #[.int .i64 b.1, .int .u64 b.2] T)).alloc (.cells #[.int .i64 c.1, .int k c.2] T3)).cell? ⟨w.heap.size + 1 + 1, 0, none⟩ = some (.int .i64 c.1) ∧
    (((w.alloc (.cells #[.int .i64 a.1, .int .u64 a.2] T)).alloc (.cells #[.int .i64 b.1, .int .u64 b.2] T)).alloc (.cells #[.int .i64 c.1, .int k c.2] T3)).cell? ⟨w.heap.size + 1 + 1, 1, none⟩ = some (.int k c.2) ∧
    Below w.heap.size w (((w.alloc (.cells #[.int .i64 a.1, .int .u64 a.2] T)).alloc (.cells #[.int .i64 b.1, .int .u64 b.2] T)).alloc (.cells #[.int .i64 c.1, .int k c.2] T3)) := by
  have h1 := wbox_lit w T a
  have h2 := wbox_lit (w.alloc (.cells #[.int .i64 a.1, .int .u64 a.2] T)) T b
  have q : ∀ (w : World) (o : Obj), Below w.heap.size w (w.alloc o) := fun w o => Below.alloc (.refl _ _) (Nat.le_refl _) o
  refine ⟨(h1.later (q _ _)).later (q _ _), ?_, ?_, ?_, ?_⟩
  · have := h2.later (q _ (.cells #[.int .i64 c.1, .int k c.2] T3))
    simpa using this
  · simp [go_sem]
  · simp [go_sem]
  · exact ((Below.alloc (.refl _ _) (Nat.le_refl _) _).alloc (by simp) _).alloc (by simp; omega) _

set_option maxHeartbeats 4000000 in
set_option maxRecDepth 100000 in
theorem wideTells_calls {a b : Wd} (ha : InW a) (hb' : InW b) {m n : Int} (m0 : -9223372036854775808 ≤ m) (m1 : m ≤ 9223372036854775807) (n0 : -9223372036854775808 ≤ n) (n1 : n ≤ 9223372036854775807) :
    Gives Try.prog 3 #[wV a, wV b, .agg #[.int .i64 m, .int .i64 n]] (.bool true) := by
  intro w
  have AW := Lib.hid awake_calls
  have I1 := Lib.hid (wide_int_calls ha)
  have I2 := Lib.hid (ref_wide_int_calls ha)
  have O1 := Lib.hid (wide_of_calls m m0 m1)
  have O2 := Lib.hid (ref_wide_of_calls m m0 m1)
  have S1 := Lib.hid (wide_sum_calls ha hb')
  have S2 := Lib.hid (ref_wide_sum_calls ha hb')
  have M1 := Lib.hid (wide_minus_calls ha)
  have M2 := Lib.hid (ref_wide_minus_calls ha)
  have P1 := Lib.hid (wide_product_calls m0 m1 n0 n1)
  have P2 := Lib.hid (ref_wide_product_calls m0 m1 n0 n1)
  obtain ⟨hx, hy, z0, z1, hb⟩ := three_lits w 24 25 a b (m, n) .i64
  generalize intD a = i1 at *
  generalize errD a = i2 at *
  generalize ofD m = o at *
  generalize sumD a b = s at *
  generalize minusD a = q at *
  generalize prodD m n = r at *
  clear ha hb' m0 m1 n0 n1
  obtain ⟨a1, a2⟩ := a
  obtain ⟨b1, b2⟩ := b
  obtain ⟨o1, o2⟩ := o
  obtain ⟨s1, s2⟩ := s
  obtain ⟨q1, q2⟩ := q
  obtain ⟨r1, r2⟩ := r
  unfold wV at *
  dsimp only at *
  go_enter Try.func3, Try.ntmps3
  go_wp2_with fail
  generalize ((w.alloc (.cells #[.int .i64 a1, .int .u64 a2] 24)).alloc (.cells #[.int .i64 b1, .int .u64 b2] 24)).alloc (.cells #[.int .i64 m, .int .i64 n] 25) = w0 at *
  obtain ⟨x0, x1, _⟩ := hx.cells
  dsimp only at x0 x1
  go_wp2_with fail
  refine I1.out.step (w0 := w0) (B := w0.heap.size) (.refl _ _) (Nat.le_refl _) ?_
  intro w1 hq _
  replace hx := hx.later hq
  replace hy := hy.later hq
  replace z0 := cell_kept z0 hq
  replace z1 := cell_kept z1 hq
  replace hb := hb.trans (hq.mono hb.size)
  clear hq x0 x1
  obtain ⟨x0, x1, _⟩ := hx.cells
  dsimp only at x0 x1
  go_wp2_with fail
  refine I2.out.step (w0 := w1) (B := w1.heap.size) (.refl _ _) (Nat.le_refl _) ?_
  intro w2 hq _
  replace hx := hx.later hq
  replace hy := hy.later hq
  replace z0 := cell_kept z0 hq
  replace z1 := cell_kept z1 hq
  replace hb := hb.trans (hq.mono hb.size)
  clear hq x0 x1
  obtain ⟨x0, x1, _⟩ := hx.cells
  obtain ⟨y0, y1, _⟩ := hy.cells
  dsimp only at x0 x1 y0 y1
  go_wp2_with fail
  have b0 := fun d os => cell_regrown x0 d os
  have b1 := fun d os => cell_regrown x1 d os
  have b2 := fun d os => cell_regrown y0 d os
  have b3 := fun d os => cell_regrown y1 d os
  have b4 := fun d os => cell_regrown z0 d os
  have b5 := fun d os => cell_regrown z1 d os
  clear x0 x1 y0 y1 hx hy z0 z1
  refine wp_region_quiet_below (by kernel_rfl) (by kernel_rfl) ?_
  repeat (first | go_big_quiet_skip | (go_big_quiet_want; go_big_quiet_op; first | go_big_quiet_on | (apply Exists.intro; refine ⟨fun _ => ?_, ?_⟩; (first | (go_at_call 9; exact Calls.regrown_of (AW.out _)) | (go_at_call 10; exact Calls.regrown_of (O1.out _)) | (go_at_call 11; exact Calls.regrown_of (O2.out _)) | (go_at_call 12; exact Calls.regrown_of (S1.out _)) | (go_at_call 13; exact Calls.regrown_of (S2.out _)) | (go_at_call 14; exact Calls.regrown_of (M1.out _)) | (go_at_call 15; exact Calls.regrown_of (M2.out _)) | (go_at_call 16; exact Calls.regrown_of (P1.out _)) | (go_at_call 17; exact Calls.regrown_of (P2.out _))); go_big_quiet_on)))
  refine wpQuiet_nil ?_
  rintro w3 ⟨p, hw3⟩
  have hq : Below w2.heap.size w2 w3 := hw3 ▸ below_regrown w2 p.d p.os
  clear hw3 b0 b1 b2 b3 b4 b5
  go_wp2
  go_ret
  exact ⟨ret_bool (by simp), hb.trans (hq.mono hb.size)⟩

set_option maxHeartbeats 4000000 in
set_option maxRecDepth 100000 in
theorem wideGroup_calls {a b c : Wd} (ha : InW a) (hb' : InW b) (hc : InW c) :
    Gives Try.prog 4 #[wV a, wV b, wV c] (.bool true) := by
  intro w
  have AW := Lib.hid awake_calls
  have S1 := Lib.hid (wide_sum_calls ha hb')
  have S2 := Lib.hid ((sumD_comm a b).symm ▸ wide_sum_calls hb' ha)
  have S3 := Lib.hid ((sumD_assoc a b c) ▸ wide_sum_calls (sumD_in a b) hc)
  have S4 := Lib.hid (wide_sum_calls hb' hc)
  have S5 := Lib.hid (wide_sum_calls ha (sumD_in b c))
  have S6 := Lib.hid ((sumD_minus a) ▸ wide_sum_calls ha (minusD_in a))
  have S7 := Lib.hid ((sumD_none ha) ▸ wide_sum_calls (b := (0, 0)) ha (by unfold InW; decide))
  have M1 := Lib.hid (wide_minus_calls ha)
  have M2 := Lib.hid ((minusD_twice ha) ▸ wide_minus_calls (minusD_in a))
  obtain ⟨hx, hy, z0, z1, hb⟩ := three_lits w 24 24 a b c .u64
  generalize sumD a (sumD b c) = t at *
  generalize sumD a b = s at *
  generalize sumD b c = u at *
  generalize minusD a = q at *
  clear ha hb' hc
  obtain ⟨a1, a2⟩ := a
  obtain ⟨b1, b2⟩ := b
  obtain ⟨c1, c2⟩ := c
  obtain ⟨t1, t2⟩ := t
  obtain ⟨s1, s2⟩ := s
  obtain ⟨u1, u2⟩ := u
  obtain ⟨q1, q2⟩ := q
  unfold wV at *
  dsimp only at *
  have hq := Below.alloc (.refl _ _) (Nat.le_refl _) (.cells #[.int .i64 0, .int .u64 0] 24) (w := ((w.alloc (.cells #[.int .i64 a1, .int .u64 a2] 24)).alloc (.cells #[.int .i64 b1, .int .u64 b2] 24)).alloc (.cells #[.int .i64 c1, .int .u64 c2] 24))
  have hn := wbox_zero (((w.alloc (.cells #[.int .i64 a1, .int .u64 a2] 24)).alloc (.cells #[.int .i64 b1, .int .u64 b2] 24)).alloc (.cells #[.int .i64 c1, .int .u64 c2] 24)) 24
  rw [show (((w.alloc (.cells #[.int .i64 a1, .int .u64 a2] 24)).alloc (.cells #[.int .i64 b1, .int .u64 b2] 24)).alloc (.cells #[.int .i64 c1, .int .u64 c2] 24)).heap.size = w.heap.size + 1 + 1 + 1 by simp] at hn
  replace hx := hx.later hq
  replace hy := hy.later hq
  replace z0 := cell_kept z0 hq
  replace z1 := cell_kept z1 hq
  replace hb := hb.trans (hq.mono hb.size)
  clear hq
  go_enter Try.func4, Try.ntmps4
  go_wp2_with fail
  generalize (((w.alloc (.cells #[.int .i64 a1, .int .u64 a2] 24)).alloc (.cells #[.int .i64 b1, .int .u64 b2] 24)).alloc (.cells #[.int .i64 c1, .int .u64 c2] 24)).alloc (.cells #[.int .i64 0, .int .u64 0] 24) = w2 at *
  obtain ⟨x0, x1, _⟩ := hx.cells
  obtain ⟨y0, y1, _⟩ := hy.cells
  obtain ⟨n0, n1, _⟩ := hn.cells
  dsimp only at x0 x1 y0 y1 n0 n1
  go_wp2_with fail
  have e0 := fun d os => cell_regrown x0 d os
  have e1 := fun d os => cell_regrown x1 d os
  have e2 := fun d os => cell_regrown y0 d os
  have e3 := fun d os => cell_regrown y1 d os
  have e4 := fun d os => cell_regrown z0 d os
  have e5 := fun d os => cell_regrown z1 d os
  have e6 := fun d os => cell_regrown n0 d os
  have e7 := fun d os => cell_regrown n1 d os
  clear x0 x1 y0 y1 n0 n1 hx hy hn z0 z1
  refine wp_region_quiet_below (by kernel_rfl) (by kernel_rfl) ?_
  repeat (first | go_big_quiet_skip | (go_big_quiet_want; go_big_quiet_op; first | go_big_quiet_on | (apply Exists.intro; refine ⟨fun _ => ?_, ?_⟩; (first | (go_at_call 9; exact Calls.regrown_of (AW.out _)) | (go_at_call_of 12 (#[(Value.agg #[Value.int IntKind.i64 a1, Value.int IntKind.u64 a2]), (Value.agg #[Value.int IntKind.i64 b1, Value.int IntKind.u64 b2])] : Array Value); exact Calls.regrown_of (S1.out _)) | (go_at_call_of 12 (#[(Value.agg #[Value.int IntKind.i64 b1, Value.int IntKind.u64 b2]), (Value.agg #[Value.int IntKind.i64 a1, Value.int IntKind.u64 a2])] : Array Value); exact Calls.regrown_of (S2.out _)) | (go_at_call_of 12 (#[(Value.agg #[Value.int IntKind.i64 s1, Value.int IntKind.u64 s2]), (Value.agg #[Value.int IntKind.i64 c1, Value.int IntKind.u64 c2])] : Array Value); exact Calls.regrown_of (S3.out _)) | (go_at_call_of 12 (#[(Value.agg #[Value.int IntKind.i64 b1, Value.int IntKind.u64 b2]), (Value.agg #[Value.int IntKind.i64 c1, Value.int IntKind.u64 c2])] : Array Value); exact Calls.regrown_of (S4.out _)) | (go_at_call_of 12 (#[(Value.agg #[Value.int IntKind.i64 a1, Value.int IntKind.u64 a2]), (Value.agg #[Value.int IntKind.i64 u1, Value.int IntKind.u64 u2])] : Array Value); exact Calls.regrown_of (S5.out _)) | (go_at_call_of 12 (#[(Value.agg #[Value.int IntKind.i64 a1, Value.int IntKind.u64 a2]), (Value.agg #[Value.int IntKind.i64 q1, Value.int IntKind.u64 q2])] : Array Value); exact Calls.regrown_of (S6.out _)) | (go_at_call 12; exact Calls.regrown_of (S7.out _)) | (go_at_call_of 14 (#[(Value.agg #[Value.int IntKind.i64 a1, Value.int IntKind.u64 a2])] : Array Value); exact Calls.regrown_of (M1.out _)) | (go_at_call_of 14 (#[(Value.agg #[Value.int IntKind.i64 q1, Value.int IntKind.u64 q2])] : Array Value); exact Calls.regrown_of (M2.out _))); go_big_quiet_on)))
  refine wpQuiet_nil ?_
  rintro w3 ⟨p, hw3⟩
  have hq : Below w2.heap.size w2 w3 := hw3 ▸ below_regrown w2 p.d p.os
  clear hw3 e0 e1 e2 e3 e4 e5 e6 e7
  go_wp2
  go_ret
  exact ⟨ret_bool (by simp), hb.trans (hq.mono hb.size)⟩
end Go.Proofs.Ytcdbcimbbaceoaa
