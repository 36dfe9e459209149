/- The law StepsTells. -/
import Derived.Test.YtbpigfpkcflbkaaStepsLaws
namespace Go.Proofs.Ytbpigfpkcflbkaa
open Go Go.RowKit

set_option maxHeartbeats 4000000 in
set_option maxRecDepth 100000 in
theorem stepsTells_in {w : World} {v : Value} {l : List ByteArray} (h : StrsIn w v l) (s : ByteArray) (many : Int) (hsm : smallL l = true) (hs : s.size ≤ 1000) :
    GivesAt Try.prog 3 #[v, .string s, .int .i64 many] w (.bool true) := by
  have HS := Lib.hid (small_calls h)
  rw [hsm] at HS
  obtain ⟨hl, _⟩ := smallL_of hsm
  have d : decide (1000 < (s.size : Int)) = false := by rw [decide_eq_false_iff_not]; omega
  obtain ⟨rl, r, bad, hll, R1, R2⟩ := steps_both s many
  have HR1 := Lib.hid (R1 w.heap.size)
  have HR2 := Lib.hid (R2 (w.heap.size + 1))
  clear R1 R2
  obtain ⟨t1, t2, hb⟩ := two_tapes w s 27 29
  have hB := hb.size
  have HL := Lib.hid h
  obtain ⟨A, cap, rfl, _⟩ := one_at h
  clear h hsm
  unfold GivesAt
  go_enter Try.func3, Try.ntmps3
  go_wp2_with (go_at_call 6; refine HS.out.step ?_)
  refine (HR1.out _ t1).mono ?_
  rintro e w1 ⟨v1, s1, rfl, hi1, hf1, t1', hg, HE1⟩
  replace hb := hb.grown hg hB (fun k hk => by cases hk; omega)
  replace hB := Nat.le_trans hB hg.size
  replace t2 := t2.other hg (by omega)
  have hf1' : Fresh (w.heap.size + 1 + 1) v1 := by simpa using hf1
  have hz1 : w.heap.size + 1 + 1 ≤ w1.heap.size := by have := hg.size; simpa using this
  clear t1 hg hf1
  go_wp2_with fail
  refine (HR2.out _ t2).mono ?_
  rintro e w2 ⟨v2, s2, rfl, hi2, hf2, t2', hg, HE2⟩
  replace hb := hb.grown hg hB (fun k hk => by cases hk; omega)
  replace hB := Nat.le_trans hB hg.size
  replace t1' := t1'.other hg (by omega)
  replace hi1 := SliceOf.fresh hi1 hf1' hg (by omega)
  have E1 := Lib.hid HE1
  have E2 := Lib.hid HE2
  clear t2 hg hf2 hf1' hz1 HE1 HE2
  obtain ⟨A1, d1, rfl, _⟩ := one_at hi1
  obtain ⟨A2, d2, rfl, _⟩ := one_at hi2
  have HSM : Hid (∀ d os, GivesAt Try.prog 14 #[.slice A1 rl.length d1, .slice A2 rl.length d2] (Go.Sort.grow (Go.redrawn w2 d) os) (.bool true)) := by
    intro d os
    have hs := same_strs (StrsIn.kept hi1 (below_regrown w2 d os)) (StrsIn.kept hi2 (below_regrown w2 d os)) (by omega) (by omega)
    rw [decide_eq_true rfl] at hs
    exact hs
  have hlw := StrsIn.kept HL.out hb
  have HM1 := Lib.hid (fun d os => may_calls (StrsIn.kept hlw (below_regrown w2 d os)))
  have HM2 := Lib.hid (fun d os => ref_may_calls (StrsIn.kept hlw (below_regrown w2 d os)))
  have HP1 := Lib.hid (fun d os => steps_print_calls (StrsIn.kept hlw (below_regrown w2 d os)) (by omega))
  have HP2 := Lib.hid (fun d os => ref_steps_print_calls (StrsIn.kept hlw (below_regrown w2 d os)) (by omega))
  clear hi1 hi2 HR1 HR2 HS hlw HL
  cases bad with
  | true =>
    have a1 := fun d os => cell_regrown t1'.c1 d os
    have a2 := fun d os => cell_regrown t2'.c1 d os
    clear t1' t2'
    go_wp2_with fail
    refine wp_region_quiet_below (by kernel_rfl) (by kernel_rfl) ?_
    repeat (first | go_big_quiet_skip | (go_big_quiet_want; go_big_quiet_op; first | go_big_quiet_on | (apply Exists.intro; refine ⟨fun _ => ?_, ?_⟩; (first | (go_at_call 7; exact Calls.regrown_of (awake_calls _)) | (go_at_call 14; exact Calls.regrown_of (HSM.out _ _)) | (go_at_call 10; exact Calls.regrown_of (HM1.out _ _)) | (go_at_call 11; exact Calls.regrown_of (HM2.out _ _)) | (go_at_call 12; exact Calls.regrown_of (HP1.out _ _)) | (go_at_call 13; exact Calls.regrown_of (HP2.out _ _))); go_big_quiet_on)))
    refine wpQuiet_nil ?_
    rintro w6 ⟨p, hw6⟩
    have hbq : Below w2.heap.size w2 w6 := hw6 ▸ below_regrown w2 p.d p.os
    clear hw6
    go_wp2
    go_ret
    exact ⟨ret_bool (by simp), hb.trans (hbq.mono hB)⟩
  | false =>
    obtain rfl := E1.out rfl
    obtain rfl := E2.out rfl
    have a1 := fun d os => cell_regrown t1'.c1 d os
    have a2 := fun d os => cell_regrown t2'.c1 d os
    have a7 := fun d os => cell_regrown t1'.c0 d os
    have a8 := fun d os => cell_regrown t2'.c0 d os
    clear t1' t2'
    go_wp2_with fail
    refine wp_region_quiet_below (by kernel_rfl) (by kernel_rfl) ?_
    repeat (first | go_big_quiet_skip | (go_big_quiet_want; go_big_quiet_op; first | go_big_quiet_on | (apply Exists.intro; refine ⟨fun _ => ?_, ?_⟩; (first | (go_at_call 7; exact Calls.regrown_of (awake_calls _)) | (go_at_call 14; exact Calls.regrown_of (HSM.out _ _)) | (go_at_call 10; exact Calls.regrown_of (HM1.out _ _)) | (go_at_call 11; exact Calls.regrown_of (HM2.out _ _)) | (go_at_call 12; exact Calls.regrown_of (HP1.out _ _)) | (go_at_call 13; exact Calls.regrown_of (HP2.out _ _))); go_big_quiet_on)))
    refine wpQuiet_nil ?_
    rintro w6 ⟨p, hw6⟩
    have hbq : Below w2.heap.size w2 w6 := hw6 ▸ below_regrown w2 p.d p.os
    clear hw6
    go_wp2
    go_ret
    exact ⟨ret_bool (by simp), hb.trans (hbq.mono hB)⟩

set_option maxHeartbeats 1000000 in
theorem stepsTells_calls {w : World} {v : Value} {l : List ByteArray} (h : StrsIn w v l) (s : ByteArray) (many : Int) : GivesAt Try.prog 3 #[v, .string s, .int .i64 many] w (.bool true) := by
  by_cases hgo : smallL l = true ∧ s.size ≤ 1000
  · exact stepsTells_in h s many hgo.1 hgo.2
  · obtain ⟨hb, hB⟩ := start w
    have HS := Lib.hid (small_calls h)
    obtain ⟨A, cap, rfl, _⟩ := one_at h
    clear h
    unfold GivesAt
    cases hsm : smallL l with
    | false =>
      rw [hsm] at HS
      clear hgo
      go_enter Try.func3, Try.ntmps3
      go_wp2_with (first | (go_at_call 6; refine HS.out.step ?_) | (go_at_call 7; refine awake_calls.step (w0 := w) (B := w.heap.size) hb hB ?_; clear hb hB; intro w' hb hB))
      go_ret
      exact ⟨rfl, hb⟩
    | true =>
      rw [hsm] at HS
      have d1 : decide (1000 < (s.size : Int)) = true := by rw [decide_eq_true_eq]; have : ¬ s.size ≤ 1000 := fun h => hgo ⟨hsm, h⟩; omega
      clear hgo hsm
      go_enter Try.func3, Try.ntmps3
      go_wp2_with (first | (go_at_call 6; refine HS.out.step ?_) | (go_at_call 7; refine awake_calls.step (w0 := w) (B := w.heap.size) hb hB ?_; clear hb hB; intro w' hb hB))
      go_ret
      exact ⟨rfl, hb⟩
end Go.Proofs.Ytbpigfpkcflbkaa
