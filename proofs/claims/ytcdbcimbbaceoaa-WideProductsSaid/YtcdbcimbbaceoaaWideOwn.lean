/- The contracts of layer 11's own Minus and Int. -/
import Derived.Test.YtcdbcimbbaceoaaWideSum
import Derived.Test.YtcdbcimbbaceoaaWideRefC
namespace Go.Proofs.Ytcdbcimbbaceoaa
open Go Go.RowKit

set_option maxHeartbeats 2000000 in
theorem wide_minus_calls {a : Wd} (ha : InW a) : Gives Try.prog 14 #[wV a] (wV (minusD a)) := by
  intro w
  obtain ⟨hb, hB⟩ := start w
  have HR := Lib.hid (notD_sum ha)
  have H1 := Lib.hid (wide_of_calls 1 (by decide) (by decide))
  have H2 := Lib.hid (wide_sum_calls (notD_in ha) (ofD_in 1))
  rw [HR.out] at H2
  clear HR
  generalize minusD a = s at *
  obtain ⟨a1, a2⟩ := a
  obtain ⟨s1, s2⟩ := s
  unfold wV notD at *
  dsimp only at *
  generalize (ofD 1).1 = c1 at *
  generalize (ofD 1).2 = c2 at *
  obtain ⟨⟨ha0, ha1⟩, ha2, ha3⟩ := ha
  rw [← not_i64 a1 ha0 ha1, ← not_u64 a2 ha2 ha3] at H2
  clear ha0 ha1 ha2 ha3
  go_enter Try.func14, Try.ntmps14
  go_wp2
  have x0 : ((w.alloc (.cells #[.int .i64 a1, .int .u64 a2] 24)).alloc (.cells #[.int .i64 0, .int .u64 0] 24)).cell? ⟨w.heap.size, 0, none⟩ = some (.int .i64 a1) := by simp [go_sem]
  have x1 : ((w.alloc (.cells #[.int .i64 a1, .int .u64 a2] 24)).alloc (.cells #[.int .i64 0, .int .u64 0] 24)).cell? ⟨w.heap.size, 1, none⟩ = some (.int .u64 a2) := by simp [go_sem]
  have hres : Own ((w.alloc (.cells #[.int .i64 a1, .int .u64 a2] 24)).alloc (.cells #[.int .i64 0, .int .u64 0] 24)) w.heap.size 2 (.slice (some ⟨w.heap.size + 1, 0, none⟩) 1 1) 1 [.int .i64 0, .int .u64 0] := by
    have := Own.lit (B := w.heap.size) (size := 2) (w.alloc (.cells #[.int .i64 a1, .int .u64 a2] 24)) #[.int .i64 0, .int .u64 0] 24 1 (by simp) (by unfold maxLen; omega) rfl
    simpa using this
  have hb2 := ((hb.alloc hB (.cells #[.int .i64 a1, .int .u64 a2] 24)).alloc (by simp) (.cells #[.int .i64 0, .int .u64 0] 24))
  generalize (w.alloc (.cells #[.int .i64 a1, .int .u64 a2] 24)).alloc (.cells #[.int .i64 0, .int .u64 0] 24) = w2 at *
  have HRES := Lib.hid hres
  have HB2 := Lib.hid hb2
  have HX0 := Lib.hid x0
  have HX1 := Lib.hid x1
  clear hres hb2 hb hB
  go_region_with (first | (go_at_call 10; refine H1.out.step (w0 := w2) (B := w2.heap.size) ?_ ?_ ?_; exact Below.drew (.refl _ _); exact Nat.le_refl _; intro w3 hq hB; have z0 := cell_kept HX0.out hq; have z1 := cell_kept HX1.out hq) | (go_at_call 12; refine H2.out.step (w0 := w2) (B := w2.heap.size) hq hB ?_; clear hq hB z0 z1; intro w4 hq hB; obtain ⟨_, r1, _, r2, r3⟩ := (HRES.out.later hq).parts; have e0 := r2 0 _ rfl; have e1 := r2 1 _ rfl; have f0 := (r3 0 (by decide)).2; have f1 := (r3 1 (by decide)).2; rw [Nat.zero_add] at e0 e1 f0 f1))
  all_goals
    have hO := Own.stored (Own.stored (HRES.out.later hq) 0 (by decide) (.int .i64 s1)) 1 (by decide) (.int .u64 s2)
    have hb4 := ((HB2.out.trans (hq.mono HB2.out.size)).setCell (Nat.le_succ _) (p := ⟨w.heap.size + 1, 0 + 0, none⟩) (.int .i64 s1)).setCell (Nat.le_succ _) (p := ⟨w.heap.size + 1, 0 + 1, none⟩) (.int .u64 s2)
    simp only [Nat.zero_add] at hO hb4
    clear hq hB r1 r2 r3 e0 e1 f0 f1
    generalize (w4.setCell ⟨w.heap.size + 1, 0, none⟩ (.int .i64 s1)).setCell ⟨w.heap.size + 1, 1, none⟩ (.int .u64 s2) = w5 at *
    obtain ⟨_, _, _, e2, _⟩ := hO.parts
    have e0 := e2 0 _ rfl
    have e1 := e2 1 _ rfl
    rw [Nat.zero_add] at e0 e1
    clear e2 hO
    go_wp2
    refine ⟨rfl, .agg #[.int .i64 s1, .int .u64 s2], ?_, rfl, hb4⟩
    simp [results, Try.results14, go_sem, e0, e1]

set_option maxHeartbeats 2000000 in
theorem wide_int_calls {a : Wd} (ha : InW a) : Gives Try.prog 7 #[wV a] (.tuple #[.int .i64 (intD a), .int .i64 (errD a)]) := by
  intro w
  obtain ⟨hb, hB⟩ := start w
  have hw := wrap64_in a.2
  have H1 := Lib.hid (wide_of_calls (wrap64 a.2) hw.1 hw.2)
  have hiff := fits_iff ha
  have hint := int_of ha
  obtain ⟨o, ho⟩ : ∃ o, ofD (wrap64 a.2) = o := ⟨_, rfl⟩
  rw [ho] at H1 hiff
  have HF : Hid (o ≠ a → fitsD a = false) := fun h => by
    cases hf : fitsD a with
    | false => rfl
    | true => exact absurd (hiff.1 hf) h
  have HT : Hid (o = a → fitsD a = true) := fun h => hiff.2 h
  have HI := Lib.hid hint
  have HE1 : Hid (fitsD a = true → errD a = 0) := fun h => by unfold errD; rw [h]; rfl
  have HE0 : Hid (fitsD a = false → errD a = 7 ∧ intD a = 0) := fun h => by unfold errD intD; rw [h]; exact ⟨rfl, rfl⟩
  clear hiff hint ho hw ha
  obtain ⟨a1, a2⟩ := a
  obtain ⟨o1, o2⟩ := o
  unfold wV at *
  dsimp only at *
  have x0 : (w.alloc (.cells #[.int .i64 a1, .int .u64 a2] 24)).cell? ⟨w.heap.size, 0, none⟩ = some (.int .i64 a1) := by simp [go_sem]
  have x1 : (w.alloc (.cells #[.int .i64 a1, .int .u64 a2] 24)).cell? ⟨w.heap.size, 1, none⟩ = some (.int .u64 a2) := by simp [go_sem]
  have hb2 := (below_alloc hb hB (.cells #[.int .i64 a1, .int .u64 a2] 24)).1
  by_cases he : o1 = a1 ∧ o2 = a2
  · obtain ⟨rfl, rfl⟩ := he
    have hf := HT.out rfl
    have HR := Lib.hid (HI.out hf)
    have HE := Lib.hid (HE1.out hf)
    clear HT HF HI HE1 HE0 hf
    go_enter Try.func7, Try.ntmps7
    go_wp2
    generalize w.alloc (.cells #[.int .i64 o1, .int .u64 o2] 24) = w2 at *
    have b0 := fun d os => cell_regrown x0 d os
    have b1 := fun d os => cell_regrown x1 d os
    refine wp_region_quiet_below (by kernel_rfl) (by kernel_rfl) ?_
    repeat (first | go_big_quiet_skip | (go_big_quiet_want; go_big_quiet_op; first | go_big_quiet_on | (apply Exists.intro; refine ⟨fun _ => ?_, ?_⟩; (first | (go_at_call 10; exact Calls.regrown_of (H1.out _))); go_big_quiet_on)))
    refine wpQuiet_nil ?_
    rintro w3 ⟨p, hw3⟩
    have hbq : Below w2.heap.size w2 w3 := hw3 ▸ below_regrown w2 p.d p.os
    clear hw3 b0 b1
    have z1 := cell_kept x1 hbq
    go_wp2
    go_ret2
    exact ⟨by rw [HR.out, HE.out]; rfl, hb2.trans (hbq.mono hb2.size)⟩
  · have hf := HF.out (fun e => he ⟨congrArg Prod.fst e, congrArg Prod.snd e⟩)
    have HR := Lib.hid (HE0.out hf)
    clear HT HF HI HE1 HE0 hf
    by_cases h1 : o1 = a1
    · have h2 : ¬ o2 = a2 := fun e => he ⟨h1, e⟩
      subst h1
      have d2 : (o2 == a2) = false := by rw [beq_eq_false_iff_ne]; exact h2
      clear he
      go_enter Try.func7, Try.ntmps7
      go_wp2
      generalize w.alloc (.cells #[.int .i64 o1, .int .u64 a2] 24) = w2 at *
      have b0 := fun d os => cell_regrown x0 d os
      have b1 := fun d os => cell_regrown x1 d os
      refine wp_region_quiet_below (by kernel_rfl) (by kernel_rfl) ?_
      repeat (first | go_big_quiet_skip | (go_big_quiet_want; go_big_quiet_op; first | go_big_quiet_on | (apply Exists.intro; refine ⟨fun _ => ?_, ?_⟩; (first | (go_at_call 10; exact Calls.regrown_of (H1.out _))); go_big_quiet_on)))
      refine wpQuiet_nil ?_
      rintro w3 ⟨p, hw3⟩
      have hbq : Below w2.heap.size w2 w3 := hw3 ▸ below_regrown w2 p.d p.os
      clear hw3 b0 b1
      go_wp2
      go_ret2
      exact ⟨by rw [HR.out.1, HR.out.2]; rfl, hb2.trans (hbq.mono hb2.size)⟩
    · have d1 : (o1 == a1) = false := by rw [beq_eq_false_iff_ne]; exact h1
      clear he
      go_enter Try.func7, Try.ntmps7
      go_wp2
      generalize w.alloc (.cells #[.int .i64 a1, .int .u64 a2] 24) = w2 at *
      have b0 := fun d os => cell_regrown x0 d os
      have b1 := fun d os => cell_regrown x1 d os
      refine wp_region_quiet_below (by kernel_rfl) (by kernel_rfl) ?_
      repeat (first | go_big_quiet_skip | (go_big_quiet_want; go_big_quiet_op; first | go_big_quiet_on | (apply Exists.intro; refine ⟨fun _ => ?_, ?_⟩; (first | (go_at_call 10; exact Calls.regrown_of (H1.out _))); go_big_quiet_on)))
      refine wpQuiet_nil ?_
      rintro w3 ⟨p, hw3⟩
      have hbq : Below w2.heap.size w2 w3 := hw3 ▸ below_regrown w2 p.d p.os
      clear hw3 b0 b1
      go_wp2
      go_ret2
      exact ⟨by rw [HR.out.1, HR.out.2]; rfl, hb2.trans (hbq.mono hb2.size)⟩
end Go.Proofs.Ytcdbcimbbaceoaa
