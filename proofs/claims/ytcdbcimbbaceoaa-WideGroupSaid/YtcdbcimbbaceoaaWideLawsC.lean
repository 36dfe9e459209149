/- The laws WideProducts and WideFits. -/
import Derived.Test.YtcdbcimbbaceoaaWideLaws
import Derived.Test.YtcdbcimbbaceoaaWideBits
namespace Go.Proofs.Ytcdbcimbbaceoaa
open Go Go.RowKit

set_option maxHeartbeats 4000000 in
set_option maxRecDepth 100000 in
theorem wideProducts_calls (a b c : Int) (a0 : -9223372036854775808 ≤ a) (a1 : a ≤ 9223372036854775807) (b0 : -9223372036854775808 ≤ b) (b1 : b ≤ 9223372036854775807) (c0 : -9223372036854775808 ≤ c) (c1 : c ≤ 9223372036854775807) :
    Gives Try.prog 5 #[.int .i64 a, .int .i64 b, .int .i64 c] (.bool true) := by
  intro w
  have AW := Lib.hid awake_calls
  have hf := fits_of a0 a1
  have he : errD (ofD a) = 0 := by unfold errD; rw [hf.1]; rfl
  have O := Lib.hid (wide_of_calls a a0 a1)
  have I0 := wide_int_calls (ofD_in a)
  rw [hf.2, he] at I0
  have I := Lib.hid I0
  have P1 := Lib.hid ((prodD_sum a (b / 2) (c / 2)) ▸ wide_product_calls (a := a) (b := b / 2 + c / 2) a0 a1 (by omega) (by omega))
  have P2 := Lib.hid (wide_product_calls (a := a) (b := b / 2) a0 a1 (by omega) (by omega))
  have P3 := Lib.hid (wide_product_calls (a := a) (b := c / 2) a0 a1 (by omega) (by omega))
  have S := Lib.hid (wide_sum_calls (prodD_in a (b / 2)) (prodD_in a (c / 2)))
  have P4 := Lib.hid (wide_product_calls a0 a1 b0 b1)
  have P5 := Lib.hid ((prodD_comm a b).symm ▸ wide_product_calls b0 b1 a0 a1)
  have P6 := Lib.hid ((prodD_one a) ▸ wide_product_calls (b := 1) a0 a1 (by decide) (by decide))
  have P7 := Lib.hid ((prodD_minus a) ▸ wide_product_calls (b := -1) a0 a1 (by decide) (by decide))
  have P8 := Lib.hid ((prodD_none a) ▸ wide_product_calls (b := 0) a0 a1 (by decide) (by decide))
  have M := Lib.hid (wide_minus_calls (ofD_in a))
  have hw : wrap64 (b / 2 + c / 2) = b / 2 + c / 2 := by unfold wrap64; omega
  clear I0 hf he a0 a1 b0 b1 c0 c1
  generalize sumD (prodD a (b / 2)) (prodD a (c / 2)) = s at *
  generalize prodD a (b / 2) = r at *
  generalize prodD a (c / 2) = t at *
  generalize prodD a b = u at *
  generalize minusD (ofD a) = q at *
  generalize ofD a = o at *
  obtain ⟨s1, s2⟩ := s
  obtain ⟨r1, r2⟩ := r
  obtain ⟨t1, t2⟩ := t
  obtain ⟨u1, u2⟩ := u
  obtain ⟨q1, q2⟩ := q
  obtain ⟨o1, o2⟩ := o
  unfold wV at *
  dsimp only at *
  obtain ⟨hb, hB⟩ := start w
  go_enter Try.func5, Try.ntmps5
  go_wp2_with fail
  refine O.out.step (w0 := w) (B := w.heap.size) hb hB ?_
  clear hb hB
  intro w' hb hB
  go_wp2_with fail
  refine I.out.step (w0 := w) (B := w.heap.size) hb hB ?_
  clear hb hB
  intro w' hb hB
  go_wp2_with fail
  refine AW.out.step (w0 := w) (B := w.heap.size) hb hB ?_
  clear hb hB
  intro w' hb hB
  go_wp2_with fail
  refine P1.out.step (w0 := w) (B := w.heap.size) hb hB ?_
  clear hb hB
  intro w' hb hB
  go_wp2_with fail
  refine P2.out.step (w0 := w) (B := w.heap.size) hb hB ?_
  clear hb hB
  intro w' hb hB
  go_wp2_with fail
  refine P3.out.step (w0 := w) (B := w.heap.size) hb hB ?_
  clear hb hB
  intro w' hb hB
  go_wp2_with fail
  refine S.out.step (w0 := w) (B := w.heap.size) hb hB ?_
  clear hb hB
  intro w' hb hB
  go_wp2_with fail
  refine P4.out.step (w0 := w) (B := w.heap.size) hb hB ?_
  clear hb hB
  intro w' hb hB
  go_wp2_with fail
  refine P5.out.step (w0 := w) (B := w.heap.size) hb hB ?_
  clear hb hB
  intro w' hb hB
  go_wp2_with fail
  refine P6.out.step (w0 := w) (B := w.heap.size) hb hB ?_
  clear hb hB
  intro w' hb hB
  go_wp2_with fail
  refine O.out.step (w0 := w) (B := w.heap.size) hb hB ?_
  clear hb hB
  intro w' hb hB
  go_wp2_with fail
  refine P7.out.step (w0 := w) (B := w.heap.size) hb hB ?_
  clear hb hB
  intro w' hb hB
  go_wp2_with fail
  refine O.out.step (w0 := w) (B := w.heap.size) hb hB ?_
  clear hb hB
  intro w' hb hB
  go_wp2_with fail
  refine M.out.step (w0 := w) (B := w.heap.size) hb hB ?_
  clear hb hB
  intro w' hb hB
  go_wp2_with fail
  refine P8.out.step (w0 := w) (B := w.heap.size) hb hB ?_
  clear hb hB
  intro w' hb hB
  go_wp2
  go_ret
  exact ⟨ret_bool (by simp), hb⟩

theorem box_two (w : World) (T : TypeId) (k : IntKind) (c d : Int) : (w.alloc (.cells #[.int k c, .int k d] T)).cell? ⟨w.heap.size, 0, none⟩ = some (.int k c) ∧ (w.alloc (.cells #[.int k c, .int k d] T)).cell? ⟨w.heap.size, 1, none⟩ = some (.int k d) := by
  constructor <;> simp [go_sem]
theorem half_prod {c d : Int} (c0 : 0 ≤ c) (c1 : c ≤ 4294967295) (d0 : 0 ≤ d) (d1 : d ≤ 4294967295) : -9223372036854775808 ≤ c / 2 * -(d / 2) ∧ c / 2 * -(d / 2) ≤ 9223372036854775807 ∧ -4611686018427387904 ≤ c / 2 * -(d / 2) ∧ c / 2 * -(d / 2) ≤ 0 := by
  have h0 : 0 ≤ c / 2 * (d / 2) := Int.mul_nonneg (by omega) (by omega)
  have h1 : c / 2 * (d / 2) ≤ 2147483647 * 2147483647 := Int.mul_le_mul (by omega) (by omega) (by omega) (by omega)
  rw [Int.mul_neg]
  omega

set_option maxHeartbeats 4000000 in
set_option maxRecDepth 100000 in
theorem wideFits_pos_ok (w : World) (a b c d : Int) (a0 : -9223372036854775808 ≤ a) (a1 : a ≤ 9223372036854775807) (b0 : -9223372036854775808 ≤ b) (b1 : b ≤ 9223372036854775807) (c0 : 0 ≤ c) (c1 : c ≤ 4294967295) (d0 : 0 ≤ d) (d1 : d ≤ 4294967295)
    (h1 : 0 < a) (h2 : 0 < b) (h3 : a + b ≤ 9223372036854775807) : GivesAt Try.prog 6 #[.int .i64 a, .int .i64 b, .agg #[.int .u32 c, .int .u32 d]] w (.bool true) := by
  have AW := Lib.hid awake_calls
  have hv := fits_sum a0 a1 b0 b1
  have O1 := Lib.hid (wide_of_calls a a0 a1)
  have O2 := Lib.hid (wide_of_calls b b0 b1)
  have S := Lib.hid (wide_sum_calls (ofD_in a) (ofD_in b))
  have I0 := wide_int_calls (sumD_in (ofD a) (ofD b))
  have hq : fitsD (sumD (ofD a) (ofD b)) = true := by unfold fitsD; rw [hv, decide_eq_true (by omega), decide_eq_true (by omega)]; rfl
  have he : errD (sumD (ofD a) (ofD b)) = 0 := by unfold errD; rw [hq]; rfl
  have hi : intD (sumD (ofD a) (ofD b)) = a + b := by unfold intD; rw [hq, hv]; rfl
  clear hq
  have k8 : wrap64 (a + b) = a + b := by unfold wrap64; omega
  rw [he, hi] at I0
  have I1 := Lib.hid I0
  have hm := half_prod c0 c1 d0 d1
  have hf := fits_of hm.1 hm.2.1
  have P := Lib.hid (wide_product_calls (a := c / 2) (b := -(d / 2)) (by omega) (by omega) (by omega) (by omega))
  have J0 := wide_int_calls (prodD_in (c / 2) (-(d / 2)))
  rw [show intD (prodD (c / 2) (-(d / 2))) = c / 2 * -(d / 2) from hf.2, show errD (prodD (c / 2) (-(d / 2))) = 0 by unfold errD; rw [show fitsD (prodD (c / 2) (-(d / 2))) = true from hf.1]; rfl] at J0
  have J := Lib.hid J0
  have k1 : wrap64 (-(d / 2)) = -(d / 2) := by unfold wrap64; omega
  have k2 : wrap64 (-(c / 2)) = -(c / 2) := by unfold wrap64; omega
  have k3 : wrap64 (-(c / 2) * (d / 2)) = c / 2 * -(d / 2) := by rw [Int.neg_mul, ← Int.mul_neg]; unfold wrap64; omega
  have HK := Lib.hid k3
  have k4 : IntKind.i64.wrap (c / 2) = c / 2 := by rw [IntKind.wrap_i64]; omega
  have k5 : IntKind.i64.wrap (d / 2) = d / 2 := by rw [IntKind.wrap_i64]; omega
  have k6 : wrap64 (9223372036854775807 - b) = 9223372036854775807 - b := by unfold wrap64; omega
  have g0 : decide (0 < a) = true := decide_eq_true (by omega)
  have g1 : decide (0 < b) = true := decide_eq_true (by omega)
  have g2 : decide (9223372036854775807 - b < a) = false := decide_eq_false (by omega)
  have g3 : decide (a < 0) = false := decide_eq_false (by omega)
  clear a0 a1 b0 b1 c0 c1 d0 d1 h1 h2 h3
  clear hv he hi I0 J0 hm hf k3
  generalize prodD (c / 2) (-(d / 2)) = r at *
  generalize sumD (ofD a) (ofD b) = s at *
  generalize ofD a = x at *
  generalize ofD b = y at *
  obtain ⟨r1, r2⟩ := r
  obtain ⟨s1, s2⟩ := s
  obtain ⟨x1, x2⟩ := x
  obtain ⟨y1, y2⟩ := y
  unfold wV at *
  dsimp only at *
  obtain ⟨hb, hB⟩ := start w
  unfold GivesAt
  go_enter Try.func6, Try.ntmps6
  have hx := box_two w 39 .u32 c d
  have hq := Below.alloc (.refl _ _) (Nat.le_refl _) (.cells #[.int .u32 c, .int .u32 d] 39) (w := w)
  obtain ⟨x0, x1⟩ := hx
  go_wp2_with fail
  generalize w.alloc (.cells #[.int .u32 c, .int .u32 d] 39) = w1 at *
  go_quiet (fail)
  replace hb := below_drewN hq nq
  replace hB := hb.size
  clear hq x0 x1
  go_wp2_with fail
  refine O1.out.step (w0 := w) (B := w.heap.size) hb hB ?_
  clear hb hB
  intro w' hb hB
  go_wp2_with fail
  refine O2.out.step (w0 := w) (B := w.heap.size) hb hB ?_
  clear hb hB
  intro w' hb hB
  go_wp2_with fail
  refine S.out.step (w0 := w) (B := w.heap.size) hb hB ?_
  clear hb hB
  intro w' hb hB
  go_wp2_with fail
  refine I1.out.step (w0 := w) (B := w.heap.size) hb hB ?_
  clear hb hB
  intro w' hb hB
  go_wp2_with fail
  refine P.out.step (w0 := w) (B := w.heap.size) hb hB ?_
  clear hb hB
  intro w' hb hB
  go_wp2_with fail
  refine J.out.step (w0 := w) (B := w.heap.size) hb hB ?_
  clear hb hB
  intro w' hb hB
  go_wp2_with fail
  refine AW.out.step (w0 := w) (B := w.heap.size) hb hB ?_
  clear hb hB
  intro w' hb hB
  go_wp2
  rw [HK.out]
  go_ret
  exact ⟨ret_bool (by simp), hb⟩

set_option maxHeartbeats 4000000 in
set_option maxRecDepth 100000 in
theorem wideFits_pos_over (w : World) (a b c d : Int) (a0 : -9223372036854775808 ≤ a) (a1 : a ≤ 9223372036854775807) (b0 : -9223372036854775808 ≤ b) (b1 : b ≤ 9223372036854775807) (c0 : 0 ≤ c) (c1 : c ≤ 4294967295) (d0 : 0 ≤ d) (d1 : d ≤ 4294967295)
    (h1 : 0 < a) (h2 : 0 < b) (h3 : ¬ a + b ≤ 9223372036854775807) : GivesAt Try.prog 6 #[.int .i64 a, .int .i64 b, .agg #[.int .u32 c, .int .u32 d]] w (.bool true) := by
  have AW := Lib.hid awake_calls
  have hv := fits_sum a0 a1 b0 b1
  have O1 := Lib.hid (wide_of_calls a a0 a1)
  have O2 := Lib.hid (wide_of_calls b b0 b1)
  have S := Lib.hid (wide_sum_calls (ofD_in a) (ofD_in b))
  have I0 := wide_int_calls (sumD_in (ofD a) (ofD b))
  have hq : fitsD (sumD (ofD a) (ofD b)) = false := by
    unfold fitsD; rw [hv]
    first | (rw [decide_eq_false (show ¬ a + b ≤ 9223372036854775807 by omega), Bool.and_false]) | (rw [decide_eq_false (show ¬ -9223372036854775808 ≤ a + b by omega)]; rfl)
  have he : errD (sumD (ofD a) (ofD b)) = 7 := by unfold errD; rw [hq]; rfl
  have hi : intD (sumD (ofD a) (ofD b)) = 0 := by unfold intD; rw [hq]; rfl
  clear hq
  rw [he, hi] at I0
  have I1 := Lib.hid I0
  have hm := half_prod c0 c1 d0 d1
  have hf := fits_of hm.1 hm.2.1
  have P := Lib.hid (wide_product_calls (a := c / 2) (b := -(d / 2)) (by omega) (by omega) (by omega) (by omega))
  have J0 := wide_int_calls (prodD_in (c / 2) (-(d / 2)))
  rw [show intD (prodD (c / 2) (-(d / 2))) = c / 2 * -(d / 2) from hf.2, show errD (prodD (c / 2) (-(d / 2))) = 0 by unfold errD; rw [show fitsD (prodD (c / 2) (-(d / 2))) = true from hf.1]; rfl] at J0
  have J := Lib.hid J0
  have k1 : wrap64 (-(d / 2)) = -(d / 2) := by unfold wrap64; omega
  have k2 : wrap64 (-(c / 2)) = -(c / 2) := by unfold wrap64; omega
  have k3 : wrap64 (-(c / 2) * (d / 2)) = c / 2 * -(d / 2) := by rw [Int.neg_mul, ← Int.mul_neg]; unfold wrap64; omega
  have HK := Lib.hid k3
  have k4 : IntKind.i64.wrap (c / 2) = c / 2 := by rw [IntKind.wrap_i64]; omega
  have k5 : IntKind.i64.wrap (d / 2) = d / 2 := by rw [IntKind.wrap_i64]; omega
  have k6 : wrap64 (9223372036854775807 - b) = 9223372036854775807 - b := by unfold wrap64; omega
  have g0 : decide (0 < a) = true := decide_eq_true (by omega)
  have g1 : decide (0 < b) = true := decide_eq_true (by omega)
  have g2 : decide (9223372036854775807 - b < a) = true := decide_eq_true (by omega)
  clear a0 a1 b0 b1 c0 c1 d0 d1 h1 h2 h3
  clear hv he hi I0 J0 hm hf k3
  generalize prodD (c / 2) (-(d / 2)) = r at *
  generalize sumD (ofD a) (ofD b) = s at *
  generalize ofD a = x at *
  generalize ofD b = y at *
  obtain ⟨r1, r2⟩ := r
  obtain ⟨s1, s2⟩ := s
  obtain ⟨x1, x2⟩ := x
  obtain ⟨y1, y2⟩ := y
  unfold wV at *
  dsimp only at *
  obtain ⟨hb, hB⟩ := start w
  unfold GivesAt
  go_enter Try.func6, Try.ntmps6
  have hx := box_two w 39 .u32 c d
  have hq := Below.alloc (.refl _ _) (Nat.le_refl _) (.cells #[.int .u32 c, .int .u32 d] 39) (w := w)
  obtain ⟨x0, x1⟩ := hx
  go_wp2_with fail
  generalize w.alloc (.cells #[.int .u32 c, .int .u32 d] 39) = w1 at *
  go_quiet (fail)
  replace hb := below_drewN hq nq
  replace hB := hb.size
  clear hq x0 x1
  go_wp2_with fail
  refine O1.out.step (w0 := w) (B := w.heap.size) hb hB ?_
  clear hb hB
  intro w' hb hB
  go_wp2_with fail
  refine O2.out.step (w0 := w) (B := w.heap.size) hb hB ?_
  clear hb hB
  intro w' hb hB
  go_wp2_with fail
  refine S.out.step (w0 := w) (B := w.heap.size) hb hB ?_
  clear hb hB
  intro w' hb hB
  go_wp2_with fail
  refine I1.out.step (w0 := w) (B := w.heap.size) hb hB ?_
  clear hb hB
  intro w' hb hB
  go_wp2_with fail
  refine P.out.step (w0 := w) (B := w.heap.size) hb hB ?_
  clear hb hB
  intro w' hb hB
  go_wp2_with fail
  refine J.out.step (w0 := w) (B := w.heap.size) hb hB ?_
  clear hb hB
  intro w' hb hB
  go_wp2_with fail
  refine AW.out.step (w0 := w) (B := w.heap.size) hb hB ?_
  clear hb hB
  intro w' hb hB
  go_wp2
  rw [HK.out]
  go_ret
  exact ⟨ret_bool (by simp), hb⟩

set_option maxHeartbeats 4000000 in
set_option maxRecDepth 100000 in
theorem wideFits_pos_neg (w : World) (a b c d : Int) (a0 : -9223372036854775808 ≤ a) (a1 : a ≤ 9223372036854775807) (b0 : -9223372036854775808 ≤ b) (b1 : b ≤ 9223372036854775807) (c0 : 0 ≤ c) (c1 : c ≤ 4294967295) (d0 : 0 ≤ d) (d1 : d ≤ 4294967295)
    (h1 : 0 < a) (h2 : ¬ 0 < b) : GivesAt Try.prog 6 #[.int .i64 a, .int .i64 b, .agg #[.int .u32 c, .int .u32 d]] w (.bool true) := by
  have AW := Lib.hid awake_calls
  have hv := fits_sum a0 a1 b0 b1
  have O1 := Lib.hid (wide_of_calls a a0 a1)
  have O2 := Lib.hid (wide_of_calls b b0 b1)
  have S := Lib.hid (wide_sum_calls (ofD_in a) (ofD_in b))
  have I0 := wide_int_calls (sumD_in (ofD a) (ofD b))
  have hq : fitsD (sumD (ofD a) (ofD b)) = true := by unfold fitsD; rw [hv, decide_eq_true (by omega), decide_eq_true (by omega)]; rfl
  have he : errD (sumD (ofD a) (ofD b)) = 0 := by unfold errD; rw [hq]; rfl
  have hi : intD (sumD (ofD a) (ofD b)) = a + b := by unfold intD; rw [hq, hv]; rfl
  clear hq
  have k8 : wrap64 (a + b) = a + b := by unfold wrap64; omega
  rw [he, hi] at I0
  have I1 := Lib.hid I0
  have hm := half_prod c0 c1 d0 d1
  have hf := fits_of hm.1 hm.2.1
  have P := Lib.hid (wide_product_calls (a := c / 2) (b := -(d / 2)) (by omega) (by omega) (by omega) (by omega))
  have J0 := wide_int_calls (prodD_in (c / 2) (-(d / 2)))
  rw [show intD (prodD (c / 2) (-(d / 2))) = c / 2 * -(d / 2) from hf.2, show errD (prodD (c / 2) (-(d / 2))) = 0 by unfold errD; rw [show fitsD (prodD (c / 2) (-(d / 2))) = true from hf.1]; rfl] at J0
  have J := Lib.hid J0
  have k1 : wrap64 (-(d / 2)) = -(d / 2) := by unfold wrap64; omega
  have k2 : wrap64 (-(c / 2)) = -(c / 2) := by unfold wrap64; omega
  have k3 : wrap64 (-(c / 2) * (d / 2)) = c / 2 * -(d / 2) := by rw [Int.neg_mul, ← Int.mul_neg]; unfold wrap64; omega
  have HK := Lib.hid k3
  have k4 : IntKind.i64.wrap (c / 2) = c / 2 := by rw [IntKind.wrap_i64]; omega
  have k5 : IntKind.i64.wrap (d / 2) = d / 2 := by rw [IntKind.wrap_i64]; omega
  have g0 : decide (0 < a) = true := decide_eq_true (by omega)
  have g1 : decide (0 < b) = false := decide_eq_false (by omega)
  have g2 : decide (a < 0) = false := decide_eq_false (by omega)
  clear a0 a1 b0 b1 c0 c1 d0 d1 h1 h2
  clear hv he hi I0 J0 hm hf k3
  generalize prodD (c / 2) (-(d / 2)) = r at *
  generalize sumD (ofD a) (ofD b) = s at *
  generalize ofD a = x at *
  generalize ofD b = y at *
  obtain ⟨r1, r2⟩ := r
  obtain ⟨s1, s2⟩ := s
  obtain ⟨x1, x2⟩ := x
  obtain ⟨y1, y2⟩ := y
  unfold wV at *
  dsimp only at *
  obtain ⟨hb, hB⟩ := start w
  unfold GivesAt
  go_enter Try.func6, Try.ntmps6
  have hx := box_two w 39 .u32 c d
  have hq := Below.alloc (.refl _ _) (Nat.le_refl _) (.cells #[.int .u32 c, .int .u32 d] 39) (w := w)
  obtain ⟨x0, x1⟩ := hx
  go_wp2_with fail
  generalize w.alloc (.cells #[.int .u32 c, .int .u32 d] 39) = w1 at *
  go_quiet (fail)
  replace hb := below_drewN hq nq
  replace hB := hb.size
  clear hq x0 x1
  go_wp2_with fail
  refine O1.out.step (w0 := w) (B := w.heap.size) hb hB ?_
  clear hb hB
  intro w' hb hB
  go_wp2_with fail
  refine O2.out.step (w0 := w) (B := w.heap.size) hb hB ?_
  clear hb hB
  intro w' hb hB
  go_wp2_with fail
  refine S.out.step (w0 := w) (B := w.heap.size) hb hB ?_
  clear hb hB
  intro w' hb hB
  go_wp2_with fail
  refine I1.out.step (w0 := w) (B := w.heap.size) hb hB ?_
  clear hb hB
  intro w' hb hB
  go_wp2_with fail
  refine P.out.step (w0 := w) (B := w.heap.size) hb hB ?_
  clear hb hB
  intro w' hb hB
  go_wp2_with fail
  refine J.out.step (w0 := w) (B := w.heap.size) hb hB ?_
  clear hb hB
  intro w' hb hB
  go_wp2_with fail
  refine AW.out.step (w0 := w) (B := w.heap.size) hb hB ?_
  clear hb hB
  intro w' hb hB
  go_wp2
  rw [HK.out]
  go_ret
  exact ⟨ret_bool (by simp), hb⟩

set_option maxHeartbeats 4000000 in
set_option maxRecDepth 100000 in
theorem wideFits_none (w : World) (a b c d : Int) (a0 : -9223372036854775808 ≤ a) (a1 : a ≤ 9223372036854775807) (b0 : -9223372036854775808 ≤ b) (b1 : b ≤ 9223372036854775807) (c0 : 0 ≤ c) (c1 : c ≤ 4294967295) (d0 : 0 ≤ d) (d1 : d ≤ 4294967295)
    (h1 : ¬ 0 < a) (h2 : ¬ a < 0) : GivesAt Try.prog 6 #[.int .i64 a, .int .i64 b, .agg #[.int .u32 c, .int .u32 d]] w (.bool true) := by
  have AW := Lib.hid awake_calls
  have hv := fits_sum a0 a1 b0 b1
  have O1 := Lib.hid (wide_of_calls a a0 a1)
  have O2 := Lib.hid (wide_of_calls b b0 b1)
  have S := Lib.hid (wide_sum_calls (ofD_in a) (ofD_in b))
  have I0 := wide_int_calls (sumD_in (ofD a) (ofD b))
  have hq : fitsD (sumD (ofD a) (ofD b)) = true := by unfold fitsD; rw [hv, decide_eq_true (by omega), decide_eq_true (by omega)]; rfl
  have he : errD (sumD (ofD a) (ofD b)) = 0 := by unfold errD; rw [hq]; rfl
  have hi : intD (sumD (ofD a) (ofD b)) = a + b := by unfold intD; rw [hq, hv]; rfl
  clear hq
  have k8 : wrap64 (a + b) = a + b := by unfold wrap64; omega
  rw [he, hi] at I0
  have I1 := Lib.hid I0
  have hm := half_prod c0 c1 d0 d1
  have hf := fits_of hm.1 hm.2.1
  have P := Lib.hid (wide_product_calls (a := c / 2) (b := -(d / 2)) (by omega) (by omega) (by omega) (by omega))
  have J0 := wide_int_calls (prodD_in (c / 2) (-(d / 2)))
  rw [show intD (prodD (c / 2) (-(d / 2))) = c / 2 * -(d / 2) from hf.2, show errD (prodD (c / 2) (-(d / 2))) = 0 by unfold errD; rw [show fitsD (prodD (c / 2) (-(d / 2))) = true from hf.1]; rfl] at J0
  have J := Lib.hid J0
  have k1 : wrap64 (-(d / 2)) = -(d / 2) := by unfold wrap64; omega
  have k2 : wrap64 (-(c / 2)) = -(c / 2) := by unfold wrap64; omega
  have k3 : wrap64 (-(c / 2) * (d / 2)) = c / 2 * -(d / 2) := by rw [Int.neg_mul, ← Int.mul_neg]; unfold wrap64; omega
  have HK := Lib.hid k3
  have k4 : IntKind.i64.wrap (c / 2) = c / 2 := by rw [IntKind.wrap_i64]; omega
  have k5 : IntKind.i64.wrap (d / 2) = d / 2 := by rw [IntKind.wrap_i64]; omega
  have g0 : decide (0 < a) = false := decide_eq_false (by omega)
  have g1 : decide (a < 0) = false := decide_eq_false (by omega)
  clear a0 a1 b0 b1 c0 c1 d0 d1 h1 h2
  clear hv he hi I0 J0 hm hf k3
  generalize prodD (c / 2) (-(d / 2)) = r at *
  generalize sumD (ofD a) (ofD b) = s at *
  generalize ofD a = x at *
  generalize ofD b = y at *
  obtain ⟨r1, r2⟩ := r
  obtain ⟨s1, s2⟩ := s
  obtain ⟨x1, x2⟩ := x
  obtain ⟨y1, y2⟩ := y
  unfold wV at *
  dsimp only at *
  obtain ⟨hb, hB⟩ := start w
  unfold GivesAt
  go_enter Try.func6, Try.ntmps6
  have hx := box_two w 39 .u32 c d
  have hq := Below.alloc (.refl _ _) (Nat.le_refl _) (.cells #[.int .u32 c, .int .u32 d] 39) (w := w)
  obtain ⟨x0, x1⟩ := hx
  go_wp2_with fail
  generalize w.alloc (.cells #[.int .u32 c, .int .u32 d] 39) = w1 at *
  go_quiet (fail)
  replace hb := below_drewN hq nq
  replace hB := hb.size
  clear hq x0 x1
  go_wp2_with fail
  refine O1.out.step (w0 := w) (B := w.heap.size) hb hB ?_
  clear hb hB
  intro w' hb hB
  go_wp2_with fail
  refine O2.out.step (w0 := w) (B := w.heap.size) hb hB ?_
  clear hb hB
  intro w' hb hB
  go_wp2_with fail
  refine S.out.step (w0 := w) (B := w.heap.size) hb hB ?_
  clear hb hB
  intro w' hb hB
  go_wp2_with fail
  refine I1.out.step (w0 := w) (B := w.heap.size) hb hB ?_
  clear hb hB
  intro w' hb hB
  go_wp2_with fail
  refine P.out.step (w0 := w) (B := w.heap.size) hb hB ?_
  clear hb hB
  intro w' hb hB
  go_wp2_with fail
  refine J.out.step (w0 := w) (B := w.heap.size) hb hB ?_
  clear hb hB
  intro w' hb hB
  go_wp2_with fail
  refine AW.out.step (w0 := w) (B := w.heap.size) hb hB ?_
  clear hb hB
  intro w' hb hB
  go_wp2
  rw [HK.out]
  go_ret
  exact ⟨ret_bool (by simp), hb⟩

set_option maxHeartbeats 4000000 in
set_option maxRecDepth 100000 in
theorem wideFits_neg_ok (w : World) (a b c d : Int) (a0 : -9223372036854775808 ≤ a) (a1 : a ≤ 9223372036854775807) (b0 : -9223372036854775808 ≤ b) (b1 : b ≤ 9223372036854775807) (c0 : 0 ≤ c) (c1 : c ≤ 4294967295) (d0 : 0 ≤ d) (d1 : d ≤ 4294967295)
    (h1 : a < 0) (h2 : b < 0) (h3 : -9223372036854775808 ≤ a + b) : GivesAt Try.prog 6 #[.int .i64 a, .int .i64 b, .agg #[.int .u32 c, .int .u32 d]] w (.bool true) := by
  have AW := Lib.hid awake_calls
  have hv := fits_sum a0 a1 b0 b1
  have O1 := Lib.hid (wide_of_calls a a0 a1)
  have O2 := Lib.hid (wide_of_calls b b0 b1)
  have S := Lib.hid (wide_sum_calls (ofD_in a) (ofD_in b))
  have I0 := wide_int_calls (sumD_in (ofD a) (ofD b))
  have hq : fitsD (sumD (ofD a) (ofD b)) = true := by unfold fitsD; rw [hv, decide_eq_true (by omega), decide_eq_true (by omega)]; rfl
  have he : errD (sumD (ofD a) (ofD b)) = 0 := by unfold errD; rw [hq]; rfl
  have hi : intD (sumD (ofD a) (ofD b)) = a + b := by unfold intD; rw [hq, hv]; rfl
  clear hq
  have k8 : wrap64 (a + b) = a + b := by unfold wrap64; omega
  rw [he, hi] at I0
  have I1 := Lib.hid I0
  have hm := half_prod c0 c1 d0 d1
  have hf := fits_of hm.1 hm.2.1
  have P := Lib.hid (wide_product_calls (a := c / 2) (b := -(d / 2)) (by omega) (by omega) (by omega) (by omega))
  have J0 := wide_int_calls (prodD_in (c / 2) (-(d / 2)))
  rw [show intD (prodD (c / 2) (-(d / 2))) = c / 2 * -(d / 2) from hf.2, show errD (prodD (c / 2) (-(d / 2))) = 0 by unfold errD; rw [show fitsD (prodD (c / 2) (-(d / 2))) = true from hf.1]; rfl] at J0
  have J := Lib.hid J0
  have k1 : wrap64 (-(d / 2)) = -(d / 2) := by unfold wrap64; omega
  have k2 : wrap64 (-(c / 2)) = -(c / 2) := by unfold wrap64; omega
  have k3 : wrap64 (-(c / 2) * (d / 2)) = c / 2 * -(d / 2) := by rw [Int.neg_mul, ← Int.mul_neg]; unfold wrap64; omega
  have HK := Lib.hid k3
  have k4 : IntKind.i64.wrap (c / 2) = c / 2 := by rw [IntKind.wrap_i64]; omega
  have k5 : IntKind.i64.wrap (d / 2) = d / 2 := by rw [IntKind.wrap_i64]; omega
  have k7 : wrap64 (-9223372036854775808 - b) = -9223372036854775808 - b := by unfold wrap64; omega
  have g0 : decide (0 < a) = false := decide_eq_false (by omega)
  have g1 : decide (a < 0) = true := decide_eq_true (by omega)
  have g2 : decide (b < 0) = true := decide_eq_true (by omega)
  have g3 : decide (a < -9223372036854775808 - b) = false := decide_eq_false (by omega)
  clear a0 a1 b0 b1 c0 c1 d0 d1 h1 h2 h3
  clear hv he hi I0 J0 hm hf k3
  generalize prodD (c / 2) (-(d / 2)) = r at *
  generalize sumD (ofD a) (ofD b) = s at *
  generalize ofD a = x at *
  generalize ofD b = y at *
  obtain ⟨r1, r2⟩ := r
  obtain ⟨s1, s2⟩ := s
  obtain ⟨x1, x2⟩ := x
  obtain ⟨y1, y2⟩ := y
  unfold wV at *
  dsimp only at *
  obtain ⟨hb, hB⟩ := start w
  unfold GivesAt
  go_enter Try.func6, Try.ntmps6
  have hx := box_two w 39 .u32 c d
  have hq := Below.alloc (.refl _ _) (Nat.le_refl _) (.cells #[.int .u32 c, .int .u32 d] 39) (w := w)
  obtain ⟨x0, x1⟩ := hx
  go_wp2_with fail
  generalize w.alloc (.cells #[.int .u32 c, .int .u32 d] 39) = w1 at *
  go_quiet (fail)
  replace hb := below_drewN hq nq
  replace hB := hb.size
  clear hq x0 x1
  go_wp2_with fail
  refine O1.out.step (w0 := w) (B := w.heap.size) hb hB ?_
  clear hb hB
  intro w' hb hB
  go_wp2_with fail
  refine O2.out.step (w0 := w) (B := w.heap.size) hb hB ?_
  clear hb hB
  intro w' hb hB
  go_wp2_with fail
  refine S.out.step (w0 := w) (B := w.heap.size) hb hB ?_
  clear hb hB
  intro w' hb hB
  go_wp2_with fail
  refine I1.out.step (w0 := w) (B := w.heap.size) hb hB ?_
  clear hb hB
  intro w' hb hB
  go_wp2_with fail
  refine P.out.step (w0 := w) (B := w.heap.size) hb hB ?_
  clear hb hB
  intro w' hb hB
  go_wp2_with fail
  refine J.out.step (w0 := w) (B := w.heap.size) hb hB ?_
  clear hb hB
  intro w' hb hB
  go_wp2_with fail
  refine AW.out.step (w0 := w) (B := w.heap.size) hb hB ?_
  clear hb hB
  intro w' hb hB
  go_wp2
  rw [HK.out]
  go_ret
  exact ⟨ret_bool (by simp), hb⟩

set_option maxHeartbeats 4000000 in
set_option maxRecDepth 100000 in
theorem wideFits_neg_over (w : World) (a b c d : Int) (a0 : -9223372036854775808 ≤ a) (a1 : a ≤ 9223372036854775807) (b0 : -9223372036854775808 ≤ b) (b1 : b ≤ 9223372036854775807) (c0 : 0 ≤ c) (c1 : c ≤ 4294967295) (d0 : 0 ≤ d) (d1 : d ≤ 4294967295)
    (h1 : a < 0) (h2 : b < 0) (h3 : ¬ -9223372036854775808 ≤ a + b) : GivesAt Try.prog 6 #[.int .i64 a, .int .i64 b, .agg #[.int .u32 c, .int .u32 d]] w (.bool true) := by
  have AW := Lib.hid awake_calls
  have hv := fits_sum a0 a1 b0 b1
  have O1 := Lib.hid (wide_of_calls a a0 a1)
  have O2 := Lib.hid (wide_of_calls b b0 b1)
  have S := Lib.hid (wide_sum_calls (ofD_in a) (ofD_in b))
  have I0 := wide_int_calls (sumD_in (ofD a) (ofD b))
  have hq : fitsD (sumD (ofD a) (ofD b)) = false := by
    unfold fitsD; rw [hv]
    first | (rw [decide_eq_false (show ¬ a + b ≤ 9223372036854775807 by omega), Bool.and_false]) | (rw [decide_eq_false (show ¬ -9223372036854775808 ≤ a + b by omega)]; rfl)
  have he : errD (sumD (ofD a) (ofD b)) = 7 := by unfold errD; rw [hq]; rfl
  have hi : intD (sumD (ofD a) (ofD b)) = 0 := by unfold intD; rw [hq]; rfl
  clear hq
  rw [he, hi] at I0
  have I1 := Lib.hid I0
  have hm := half_prod c0 c1 d0 d1
  have hf := fits_of hm.1 hm.2.1
  have P := Lib.hid (wide_product_calls (a := c / 2) (b := -(d / 2)) (by omega) (by omega) (by omega) (by omega))
  have J0 := wide_int_calls (prodD_in (c / 2) (-(d / 2)))
  rw [show intD (prodD (c / 2) (-(d / 2))) = c / 2 * -(d / 2) from hf.2, show errD (prodD (c / 2) (-(d / 2))) = 0 by unfold errD; rw [show fitsD (prodD (c / 2) (-(d / 2))) = true from hf.1]; rfl] at J0
  have J := Lib.hid J0
  have k1 : wrap64 (-(d / 2)) = -(d / 2) := by unfold wrap64; omega
  have k2 : wrap64 (-(c / 2)) = -(c / 2) := by unfold wrap64; omega
  have k3 : wrap64 (-(c / 2) * (d / 2)) = c / 2 * -(d / 2) := by rw [Int.neg_mul, ← Int.mul_neg]; unfold wrap64; omega
  have HK := Lib.hid k3
  have k4 : IntKind.i64.wrap (c / 2) = c / 2 := by rw [IntKind.wrap_i64]; omega
  have k5 : IntKind.i64.wrap (d / 2) = d / 2 := by rw [IntKind.wrap_i64]; omega
  have k7 : wrap64 (-9223372036854775808 - b) = -9223372036854775808 - b := by unfold wrap64; omega
  have g0 : decide (0 < a) = false := decide_eq_false (by omega)
  have g1 : decide (a < 0) = true := decide_eq_true (by omega)
  have g2 : decide (b < 0) = true := decide_eq_true (by omega)
  have g3 : decide (a < -9223372036854775808 - b) = true := decide_eq_true (by omega)
  clear a0 a1 b0 b1 c0 c1 d0 d1 h1 h2 h3
  clear hv he hi I0 J0 hm hf k3
  generalize prodD (c / 2) (-(d / 2)) = r at *
  generalize sumD (ofD a) (ofD b) = s at *
  generalize ofD a = x at *
  generalize ofD b = y at *
  obtain ⟨r1, r2⟩ := r
  obtain ⟨s1, s2⟩ := s
  obtain ⟨x1, x2⟩ := x
  obtain ⟨y1, y2⟩ := y
  unfold wV at *
  dsimp only at *
  obtain ⟨hb, hB⟩ := start w
  unfold GivesAt
  go_enter Try.func6, Try.ntmps6
  have hx := box_two w 39 .u32 c d
  have hq := Below.alloc (.refl _ _) (Nat.le_refl _) (.cells #[.int .u32 c, .int .u32 d] 39) (w := w)
  obtain ⟨x0, x1⟩ := hx
  go_wp2_with fail
  generalize w.alloc (.cells #[.int .u32 c, .int .u32 d] 39) = w1 at *
  go_quiet (fail)
  replace hb := below_drewN hq nq
  replace hB := hb.size
  clear hq x0 x1
  go_wp2_with fail
  refine O1.out.step (w0 := w) (B := w.heap.size) hb hB ?_
  clear hb hB
  intro w' hb hB
  go_wp2_with fail
  refine O2.out.step (w0 := w) (B := w.heap.size) hb hB ?_
  clear hb hB
  intro w' hb hB
  go_wp2_with fail
  refine S.out.step (w0 := w) (B := w.heap.size) hb hB ?_
  clear hb hB
  intro w' hb hB
  go_wp2_with fail
  refine I1.out.step (w0 := w) (B := w.heap.size) hb hB ?_
  clear hb hB
  intro w' hb hB
  go_wp2_with fail
  refine P.out.step (w0 := w) (B := w.heap.size) hb hB ?_
  clear hb hB
  intro w' hb hB
  go_wp2_with fail
  refine J.out.step (w0 := w) (B := w.heap.size) hb hB ?_
  clear hb hB
  intro w' hb hB
  go_wp2_with fail
  refine AW.out.step (w0 := w) (B := w.heap.size) hb hB ?_
  clear hb hB
  intro w' hb hB
  go_wp2
  rw [HK.out]
  go_ret
  exact ⟨ret_bool (by simp), hb⟩

set_option maxHeartbeats 4000000 in
set_option maxRecDepth 100000 in
theorem wideFits_neg_pos (w : World) (a b c d : Int) (a0 : -9223372036854775808 ≤ a) (a1 : a ≤ 9223372036854775807) (b0 : -9223372036854775808 ≤ b) (b1 : b ≤ 9223372036854775807) (c0 : 0 ≤ c) (c1 : c ≤ 4294967295) (d0 : 0 ≤ d) (d1 : d ≤ 4294967295)
    (h1 : a < 0) (h2 : ¬ b < 0) : GivesAt Try.prog 6 #[.int .i64 a, .int .i64 b, .agg #[.int .u32 c, .int .u32 d]] w (.bool true) := by
  have AW := Lib.hid awake_calls
  have hv := fits_sum a0 a1 b0 b1
  have O1 := Lib.hid (wide_of_calls a a0 a1)
  have O2 := Lib.hid (wide_of_calls b b0 b1)
  have S := Lib.hid (wide_sum_calls (ofD_in a) (ofD_in b))
  have I0 := wide_int_calls (sumD_in (ofD a) (ofD b))
  have hq : fitsD (sumD (ofD a) (ofD b)) = true := by unfold fitsD; rw [hv, decide_eq_true (by omega), decide_eq_true (by omega)]; rfl
  have he : errD (sumD (ofD a) (ofD b)) = 0 := by unfold errD; rw [hq]; rfl
  have hi : intD (sumD (ofD a) (ofD b)) = a + b := by unfold intD; rw [hq, hv]; rfl
  clear hq
  have k8 : wrap64 (a + b) = a + b := by unfold wrap64; omega
  rw [he, hi] at I0
  have I1 := Lib.hid I0
  have hm := half_prod c0 c1 d0 d1
  have hf := fits_of hm.1 hm.2.1
  have P := Lib.hid (wide_product_calls (a := c / 2) (b := -(d / 2)) (by omega) (by omega) (by omega) (by omega))
  have J0 := wide_int_calls (prodD_in (c / 2) (-(d / 2)))
  rw [show intD (prodD (c / 2) (-(d / 2))) = c / 2 * -(d / 2) from hf.2, show errD (prodD (c / 2) (-(d / 2))) = 0 by unfold errD; rw [show fitsD (prodD (c / 2) (-(d / 2))) = true from hf.1]; rfl] at J0
  have J := Lib.hid J0
  have k1 : wrap64 (-(d / 2)) = -(d / 2) := by unfold wrap64; omega
  have k2 : wrap64 (-(c / 2)) = -(c / 2) := by unfold wrap64; omega
  have k3 : wrap64 (-(c / 2) * (d / 2)) = c / 2 * -(d / 2) := by rw [Int.neg_mul, ← Int.mul_neg]; unfold wrap64; omega
  have HK := Lib.hid k3
  have k4 : IntKind.i64.wrap (c / 2) = c / 2 := by rw [IntKind.wrap_i64]; omega
  have k5 : IntKind.i64.wrap (d / 2) = d / 2 := by rw [IntKind.wrap_i64]; omega
  have g0 : decide (0 < a) = false := decide_eq_false (by omega)
  have g1 : decide (a < 0) = true := decide_eq_true (by omega)
  have g2 : decide (b < 0) = false := decide_eq_false (by omega)
  clear a0 a1 b0 b1 c0 c1 d0 d1 h1 h2
  clear hv he hi I0 J0 hm hf k3
  generalize prodD (c / 2) (-(d / 2)) = r at *
  generalize sumD (ofD a) (ofD b) = s at *
  generalize ofD a = x at *
  generalize ofD b = y at *
  obtain ⟨r1, r2⟩ := r
  obtain ⟨s1, s2⟩ := s
  obtain ⟨x1, x2⟩ := x
  obtain ⟨y1, y2⟩ := y
  unfold wV at *
  dsimp only at *
  obtain ⟨hb, hB⟩ := start w
  unfold GivesAt
  go_enter Try.func6, Try.ntmps6
  have hx := box_two w 39 .u32 c d
  have hq := Below.alloc (.refl _ _) (Nat.le_refl _) (.cells #[.int .u32 c, .int .u32 d] 39) (w := w)
  obtain ⟨x0, x1⟩ := hx
  go_wp2_with fail
  generalize w.alloc (.cells #[.int .u32 c, .int .u32 d] 39) = w1 at *
  go_quiet (fail)
  replace hb := below_drewN hq nq
  replace hB := hb.size
  clear hq x0 x1
  go_wp2_with fail
  refine O1.out.step (w0 := w) (B := w.heap.size) hb hB ?_
  clear hb hB
  intro w' hb hB
  go_wp2_with fail
  refine O2.out.step (w0 := w) (B := w.heap.size) hb hB ?_
  clear hb hB
  intro w' hb hB
  go_wp2_with fail
  refine S.out.step (w0 := w) (B := w.heap.size) hb hB ?_
  clear hb hB
  intro w' hb hB
  go_wp2_with fail
  refine I1.out.step (w0 := w) (B := w.heap.size) hb hB ?_
  clear hb hB
  intro w' hb hB
  go_wp2_with fail
  refine P.out.step (w0 := w) (B := w.heap.size) hb hB ?_
  clear hb hB
  intro w' hb hB
  go_wp2_with fail
  refine J.out.step (w0 := w) (B := w.heap.size) hb hB ?_
  clear hb hB
  intro w' hb hB
  go_wp2_with fail
  refine AW.out.step (w0 := w) (B := w.heap.size) hb hB ?_
  clear hb hB
  intro w' hb hB
  go_wp2
  rw [HK.out]
  go_ret
  exact ⟨ret_bool (by simp), hb⟩

theorem wideFits_calls (w : World) (a b c d : Int) (a0 : -9223372036854775808 ≤ a) (a1 : a ≤ 9223372036854775807) (b0 : -9223372036854775808 ≤ b) (b1 : b ≤ 9223372036854775807) (c0 : 0 ≤ c) (c1 : c ≤ 4294967295) (d0 : 0 ≤ d) (d1 : d ≤ 4294967295) :
    GivesAt Try.prog 6 #[.int .i64 a, .int .i64 b, .agg #[.int .u32 c, .int .u32 d]] w (.bool true) := by
  by_cases h1 : 0 < a
  · by_cases h2 : 0 < b
    · by_cases h3 : a + b ≤ 9223372036854775807
      · exact wideFits_pos_ok w a b c d a0 a1 b0 b1 c0 c1 d0 d1 h1 h2 h3
      · exact wideFits_pos_over w a b c d a0 a1 b0 b1 c0 c1 d0 d1 h1 h2 h3
    · exact wideFits_pos_neg w a b c d a0 a1 b0 b1 c0 c1 d0 d1 h1 h2
  · by_cases h2 : a < 0
    · by_cases h4 : b < 0
      · by_cases h3 : -9223372036854775808 ≤ a + b
        · exact wideFits_neg_ok w a b c d a0 a1 b0 b1 c0 c1 d0 d1 h2 h4 h3
        · exact wideFits_neg_over w a b c d a0 a1 b0 b1 c0 c1 d0 d1 h2 h4 h3
      · exact wideFits_neg_pos w a b c d a0 a1 b0 b1 c0 c1 d0 d1 h2 h4
    · exact wideFits_none w a b c d a0 a1 b0 b1 c0 c1 d0 d1 h1 h2
end Go.Proofs.Ytcdbcimbbaceoaa
