/- The contracts of the answer's functions of layer 11. -/
import Derived.Test.YtcdbcimbbaceoaaWidePure
import Derived.Test.YtcdbcimbbaceoaaKit
import Derived.Test.YtcdbcimbbaceoaaStrs
namespace Go.Proofs.Ytcdbcimbbaceoaa
open Go Go.RowKit

/-- Two words as a value. -/
def wV (a : Wd) : Value := .agg #[.int .i64 a.1, .int .u64 a.2]
theorem ofD_neg {n : Int} (h0 : -9223372036854775808 ≤ n) (h : n < 0) : ofD n = (-1, IntKind.u64.wrap n) := by
  rw [IntKind.wrap_u64]
  unfold ofD toW wr64
  refine Prod.ext ?_ rfl
  show (n / 18446744073709551616 + 9223372036854775808) % 18446744073709551616 - 9223372036854775808 = -1
  omega
theorem ofD_pos {n : Int} (h1 : n ≤ 9223372036854775807) (h : ¬ n < 0) : ofD n = (0, IntKind.u64.wrap n) := by
  rw [IntKind.wrap_u64]
  unfold ofD toW wr64
  refine Prod.ext ?_ rfl
  show (n / 18446744073709551616 + 9223372036854775808) % 18446744073709551616 - 9223372036854775808 = 0
  omega
theorem ret_wd {a : Wd} {x y : Int} (h : a = (x, y)) : Ending.returned (.agg #[.int .i64 x, .int .u64 y]) = .returned (wV a) := by rw [h]; rfl

set_option maxHeartbeats 1000000 in
theorem ref_wide_of_calls (n : Int) (h0 : -9223372036854775808 ≤ n) (h1 : n ≤ 9223372036854775807) : Gives Try.prog 11 #[.int .i64 n] (wV (ofD n)) := by
  intro w
  obtain ⟨hb, hB⟩ := start w
  by_cases hn : n < 0
  · have HR := Lib.hid (ofD_neg h0 hn)
    have d1 : decide (n < 0) = true := decide_eq_true hn
    clear h0 h1
    generalize hq : IntKind.u64.wrap n = q at *
    go_enter Try.func11, Try.ntmps11
    go_wp2
    refine ⟨rfl, .agg #[.int .i64 (-1), .int .u64 q], ?_, ret_wd HR.out, ?_⟩
    · simp [results, Try.results11, go_sem]
    · go_grown
  · have HR := Lib.hid (ofD_pos h1 hn)
    have d1 : decide (n < 0) = false := decide_eq_false hn
    clear h0 h1
    generalize hq : IntKind.u64.wrap n = q at *
    go_enter Try.func11, Try.ntmps11
    go_wp2
    refine ⟨rfl, .agg #[.int .i64 0, .int .u64 q], ?_, ret_wd HR.out, ?_⟩
    · simp [results, Try.results11, go_sem]
    · go_grown

theorem sumD_low {a b : Wd} (ha : InW a) (hb : InW b) (h : ¬ IntKind.u64.wrap (a.2 + b.2) < a.2) : sumD a b = (wrap64 (a.1 + b.1), IntKind.u64.wrap (a.2 + b.2)) := by
  obtain ⟨a1, a2⟩ := a
  obtain ⟨b1, b2⟩ := b
  obtain ⟨_, ha⟩ := ha
  obtain ⟨_, hb⟩ := hb
  rw [IntKind.wrap_u64] at h ⊢
  unfold sumD toW valW wr64 wrap64
  dsimp only at *
  refine Prod.ext ?_ ?_
  · dsimp only; omega
  · dsimp only; omega
theorem sumD_high {a b : Wd} (ha : InW a) (hb : InW b) (h : IntKind.u64.wrap (a.2 + b.2) < a.2) : sumD a b = (wrap64 (wrap64 (a.1 + b.1) + 1), IntKind.u64.wrap (a.2 + b.2)) := by
  obtain ⟨a1, a2⟩ := a
  obtain ⟨b1, b2⟩ := b
  obtain ⟨_, ha⟩ := ha
  obtain ⟨_, hb⟩ := hb
  rw [IntKind.wrap_u64] at h ⊢
  unfold sumD toW valW wr64 wrap64
  dsimp only at *
  refine Prod.ext ?_ ?_
  · dsimp only; omega
  · dsimp only; omega

set_option maxHeartbeats 1000000 in
theorem ref_wide_sum_calls {a b : Wd} (ha : InW a) (hb' : InW b) : Gives Try.prog 13 #[wV a, wV b] (wV (sumD a b)) := by
  intro w
  obtain ⟨hb, hB⟩ := start w
  by_cases hn : IntKind.u64.wrap (a.2 + b.2) < a.2
  · have HR := Lib.hid (sumD_high ha hb' hn)
    unfold wV
    generalize sumD a b = s at *
    obtain ⟨a1, a2⟩ := a
    obtain ⟨b1, b2⟩ := b
    clear ha hb'
    dsimp only at *
    obtain ⟨q, hq⟩ : ∃ q, IntKind.u64.wrap (a2 + b2) = q := ⟨_, rfl⟩
    obtain ⟨p, hp⟩ : ∃ p, wrap64 (a1 + b1) = p := ⟨_, rfl⟩
    obtain ⟨p2, hp2⟩ : ∃ p2, wrap64 (p + 1) = p2 := ⟨_, rfl⟩
    rw [hq, hp, hp2] at HR
    rw [hq] at hn
    have d1 : decide (q < a2) = true := decide_eq_true hn
    clear hn
    go_enter Try.func13, Try.ntmps13
    go_wp2
    refine ⟨rfl, .agg #[.int .i64 p2, .int .u64 q], ?_, ?_, ?_⟩
    · simp [results, Try.results13, go_sem, hp, hp2]
    · rw [HR.out]
    · go_grown
  · have HR := Lib.hid (sumD_low ha hb' hn)
    unfold wV
    generalize sumD a b = s at *
    obtain ⟨a1, a2⟩ := a
    obtain ⟨b1, b2⟩ := b
    clear ha hb'
    dsimp only at *
    obtain ⟨q, hq⟩ : ∃ q, IntKind.u64.wrap (a2 + b2) = q := ⟨_, rfl⟩
    obtain ⟨p, hp⟩ : ∃ p, wrap64 (a1 + b1) = p := ⟨_, rfl⟩
    rw [hq, hp] at HR
    rw [hq] at hn
    have d1 : decide (q < a2) = false := decide_eq_false hn
    clear hn
    go_enter Try.func13, Try.ntmps13
    go_wp2
    refine ⟨rfl, .agg #[.int .i64 p, .int .u64 q], ?_, ?_, ?_⟩
    · simp [results, Try.results13, go_sem, hp]
    · rw [HR.out]
    · go_grown
end Go.Proofs.Ytcdbcimbbaceoaa
