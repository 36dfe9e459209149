/- The contracts of the answer's Minus and Int of layer 11. -/
import Derived.Test.YtcdbcimbbaceoaaWideRef
import Derived.Test.YtcdbcimbbaceoaaAside
import Derived.Lib.QuietBelow
import Derived.Deep.QuietTactic
import Derived.BigQuiet
import Derived.StillTailTactics
import Derived.Deep.RegionWith
namespace Go.Proofs.Ytcdbcimbbaceoaa
open Go Go.RowKit

def notD (a : Wd) : Wd := (-1 - a.1, 18446744073709551615 - a.2)
theorem notD_in {a : Wd} (h : InW a) : InW (notD a) := by
  obtain ⟨a1, a2⟩ := a
  obtain ⟨h1, h2⟩ := h
  unfold InW notD
  dsimp only at *
  omega
theorem notD_sum {a : Wd} (h : InW a) : sumD (notD a) (ofD 1) = minusD a := by
  obtain ⟨a1, a2⟩ := a
  obtain ⟨h1, h2⟩ := h
  have e : valW (ofD 1) = 1 := rfl
  unfold sumD minusD
  rw [e]
  refine toW_same 0 ?_
  unfold valW notD m128
  dsimp only at *
  omega

theorem ofInt_toNat (a : Int) : (BitVec.ofInt 64 a).toNat = (a % 18446744073709551616).toNat := by
  rw [BitVec.toNat_ofInt]; rfl
theorem not_all (x : BitVec 64) : (BitVec.allOnes 64 ^^^ x).toNat = 18446744073709551615 - x.toNat := by
  rw [BitVec.allOnes_xor, BitVec.toNat_not]
theorem not_u64 (a : Int) (h0 : 0 ≤ a) (h1 : a ≤ 18446744073709551615) : bits .xor .u64 IntKind.u64.max a = 18446744073709551615 - a := by
  show IntKind.u64.wrap ((BitVec.ofInt 64 18446744073709551615 ^^^ BitVec.ofInt 64 a).toNat : Int) = _
  rw [show BitVec.ofInt 64 18446744073709551615 = BitVec.allOnes 64 by decide, not_all, ofInt_toNat, IntKind.wrap_u64]
  omega

set_option maxHeartbeats 2000000 in
theorem ref_wide_minus_calls {a : Wd} (ha : InW a) : Gives Try.prog 15 #[wV a] (wV (minusD a)) := by
  intro w
  obtain ⟨hb, hB⟩ := start w
  have HR := Lib.hid (notD_sum ha)
  have H1 := Lib.hid (ref_wide_of_calls 1 (by decide) (by decide))
  have H2 := Lib.hid (ref_wide_sum_calls (notD_in ha) (ofD_in 1))
  rw [HR.out] at H2
  clear HR
  generalize minusD a = s at *
  obtain ⟨a1, a2⟩ := a
  obtain ⟨s1, s2⟩ := s
  unfold wV notD at *
  dsimp only at *
  generalize (ofD 1).1 = c1 at *
  generalize (ofD 1).2 = c2 at *
  obtain ⟨⟨ha0, ha1⟩, ha2, ha3⟩ := ha
  rw [← not_i64 a1 ha0 ha1, ← not_u64 a2 ha2 ha3] at H2
  clear ha0 ha1 ha2 ha3
  go_enter Try.func15, Try.ntmps15
  go_wp2
  have x0 : ((w.alloc (.cells #[.int .i64 a1, .int .u64 a2] 24)).alloc (.cells #[.int .i64 0, .int .u64 0] 24)).cell? ⟨w.heap.size, 0, none⟩ = some (.int .i64 a1) := by simp [go_sem]
  have x1 : ((w.alloc (.cells #[.int .i64 a1, .int .u64 a2] 24)).alloc (.cells #[.int .i64 0, .int .u64 0] 24)).cell? ⟨w.heap.size, 1, none⟩ = some (.int .u64 a2) := by simp [go_sem]
  have hres : Own ((w.alloc (.cells #[.int .i64 a1, .int .u64 a2] 24)).alloc (.cells #[.int .i64 0, .int .u64 0] 24)) w.heap.size 2 (.slice (some ⟨w.heap.size + 1, 0, none⟩) 1 1) 1 [.int .i64 0, .int .u64 0] := by
    have := Own.lit (B := w.heap.size) (size := 2) (w.alloc (.cells #[.int .i64 a1, .int .u64 a2] 24)) #[.int .i64 0, .int .u64 0] 24 1 (by simp) (by unfold maxLen; omega) rfl
    simpa using this
  have hb2 := ((hb.alloc hB (.cells #[.int .i64 a1, .int .u64 a2] 24)).alloc (by simp) (.cells #[.int .i64 0, .int .u64 0] 24))
  generalize (w.alloc (.cells #[.int .i64 a1, .int .u64 a2] 24)).alloc (.cells #[.int .i64 0, .int .u64 0] 24) = w2 at *
  have HRES := Lib.hid hres
  have HB2 := Lib.hid hb2
  have HX0 := Lib.hid x0
  have HX1 := Lib.hid x1
  clear hres hb2 hb hB
  go_region_with (first | (go_at_call 11; refine H1.out.step (w0 := w2) (B := w2.heap.size) ?_ ?_ ?_; exact Below.drew (.refl _ _); exact Nat.le_refl _; intro w3 hq hB; have z0 := cell_kept HX0.out hq; have z1 := cell_kept HX1.out hq) | (go_at_call 13; refine H2.out.step (w0 := w2) (B := w2.heap.size) hq hB ?_; clear hq hB z0 z1; intro w4 hq hB; obtain ⟨_, r1, _, r2, r3⟩ := (HRES.out.later hq).parts; have e0 := r2 0 _ rfl; have e1 := r2 1 _ rfl; have f0 := (r3 0 (by decide)).2; have f1 := (r3 1 (by decide)).2; rw [Nat.zero_add] at e0 e1 f0 f1))
  all_goals
    have hO := Own.stored (Own.stored (HRES.out.later hq) 0 (by decide) (.int .i64 s1)) 1 (by decide) (.int .u64 s2)
    have hb4 := ((HB2.out.trans (hq.mono HB2.out.size)).setCell (Nat.le_succ _) (p := ⟨w.heap.size + 1, 0 + 0, none⟩) (.int .i64 s1)).setCell (Nat.le_succ _) (p := ⟨w.heap.size + 1, 0 + 1, none⟩) (.int .u64 s2)
    simp only [Nat.zero_add] at hO hb4
    clear hq hB r1 r2 r3 e0 e1 f0 f1
    generalize (w4.setCell ⟨w.heap.size + 1, 0, none⟩ (.int .i64 s1)).setCell ⟨w.heap.size + 1, 1, none⟩ (.int .u64 s2) = w5 at *
    obtain ⟨_, _, _, e2, _⟩ := hO.parts
    have e0 := e2 0 _ rfl
    have e1 := e2 1 _ rfl
    rw [Nat.zero_add] at e0 e1
    clear e2 hO
    go_wp2
    refine ⟨rfl, .agg #[.int .i64 s1, .int .u64 s2], ?_, rfl, hb4⟩
    simp [results, Try.results15, go_sem, e0, e1]
end Go.Proofs.Ytcdbcimbbaceoaa
