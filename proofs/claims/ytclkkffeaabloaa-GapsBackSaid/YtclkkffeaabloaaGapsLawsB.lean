/- The laws GapsTells, GapsReads. -/
import Derived.Test.YtclkkffeaabloaaGapsLaws
namespace Go.Proofs.Ytclkkffeaabloaa
open Go Go.RowKit

set_option maxHeartbeats 4000000 in
set_option maxRecDepth 100000 in
theorem gapsTells_in {w : World} {v vi : Value} {l : List ByteArray} {is : List Bool} (h : StrsIn w v l) (hi : BoolsIn w vi is) (hsm : smallL l = true) (hn : is.length ≤ 300) :
    GivesAt Try.prog 3 #[v, vi] w (.bool true) := by
  have HS := Lib.hid (small_calls h)
  rw [hsm] at HS
  obtain ⟨hl, _⟩ := smallL_of hsm
  have d : decide (300 < (is.length : Int)) = false := by rw [decide_eq_false_iff_not]; omega
  obtain ⟨hb, hB⟩ := start w
  have hvl := h
  have hvi := hi
  obtain ⟨A, cap, rfl, _⟩ := one_at h
  obtain ⟨A0, cap0, rfl, _⟩ := one_at hi
  have hfl := fullL_length l
  have hjl := joinL_length is l
  have hil := isL_length l
  clear h hi hsm
  unfold GivesAt
  go_enter Try.func3, Try.ntmps3
  go_wp2_with (go_at_call 7; refine HS.out.step ?_)
  refine (split_calls hvl (by omega)).mono ?_
  rintro e w1 ⟨v1, v2, rfl, h1, h2, hq⟩
  replace hb := hb.trans (hq.mono hB)
  replace hB := hb.size
  replace hvl := StrsIn.kept hvl hq
  replace hvi := BoolsIn.kept hvi hq
  clear hq
  go_wp2_with fail
  refine (ref_split_calls hvl (by omega)).mono ?_
  rintro e w2 ⟨v3, v4, rfl, h3, h4, hq⟩
  replace hb := hb.trans (hq.mono hB)
  replace hB := hb.size
  replace hvl := StrsIn.kept hvl hq
  replace hvi := BoolsIn.kept hvi hq
  replace h1 := BoolsIn.kept h1 hq
  replace h2 := StrsIn.kept h2 hq
  clear hq
  go_wp2_with fail
  refine (join_calls hvi hvl (by omega) (by omega)).mono ?_
  rintro e w3 ⟨v5, rfl, h5, hq⟩
  replace hb := hb.trans (hq.mono hB)
  replace hB := hb.size
  replace hvl := StrsIn.kept hvl hq
  replace hvi := BoolsIn.kept hvi hq
  replace h1 := BoolsIn.kept h1 hq
  replace h2 := StrsIn.kept h2 hq
  replace h3 := BoolsIn.kept h3 hq
  replace h4 := StrsIn.kept h4 hq
  clear hq
  go_wp2_with fail
  refine (ref_join_calls hvi hvl (by omega)).mono ?_
  rintro e w4 ⟨v6, rfl, h6, hq⟩
  replace hb := hb.trans (hq.mono hB)
  replace hB := hb.size
  replace hvi := BoolsIn.kept hvi hq
  replace h1 := BoolsIn.kept h1 hq
  replace h2 := StrsIn.kept h2 hq
  replace h3 := BoolsIn.kept h3 hq
  replace h4 := StrsIn.kept h4 hq
  replace h5 := StrsIn.kept h5 hq
  clear hq hvl
  generalize joinOk is l = ok at *
  go_wp2_with fail
  refine awake_calls.stepB (w0 := w) (B := w.heap.size) hb hB ?_
  clear hb hB
  intro w5 hb hB hq
  replace hvi := BoolsIn.kept hvi hq
  replace h1 := BoolsIn.kept h1 hq
  replace h2 := StrsIn.kept h2 hq
  replace h3 := BoolsIn.kept h3 hq
  replace h4 := StrsIn.kept h4 hq
  replace h5 := StrsIn.kept h5 hq
  replace h6 := StrsIn.kept h6 hq
  clear hq
  go_wp2_with fail
  have hs := same_bools h1 h3 (by omega) (by omega)
  rw [decide_eq_true rfl] at hs
  refine hs.stepB (w0 := w) (B := w.heap.size) hb hB ?_
  clear hb hB hs
  intro w6 hb hB hq
  replace hvi := BoolsIn.kept hvi hq
  replace h2 := StrsIn.kept h2 hq
  replace h4 := StrsIn.kept h4 hq
  replace h5 := StrsIn.kept h5 hq
  replace h6 := StrsIn.kept h6 hq
  clear hq h1 h3
  go_wp2_with fail
  have hs := same_strs h2 h4 (by omega) (by omega)
  rw [decide_eq_true rfl] at hs
  refine hs.stepB (w0 := w) (B := w.heap.size) hb hB ?_
  clear hb hB hs
  intro w7 hb hB hq
  replace hvi := BoolsIn.kept hvi hq
  replace h5 := StrsIn.kept h5 hq
  replace h6 := StrsIn.kept h6 hq
  clear hq h2 h4
  go_wp2_with fail
  have hs := same_strs h5 h6 (by omega) (by omega)
  rw [decide_eq_true rfl] at hs
  refine hs.stepB (w0 := w) (B := w.heap.size) hb hB ?_
  clear hb hB hs
  intro w8 hb hB hq
  replace hvi := BoolsIn.kept hvi hq
  clear hq h5 h6
  cases ok
  all_goals
    go_wp2_with fail
    refine (gaps_print_calls hvi (by omega)).stepB (w0 := w) (B := w.heap.size) hb hB ?_
    clear hb hB
    intro w9 hb hB hq
    replace hvi := BoolsIn.kept hvi hq
    clear hq
    go_wp2_with fail
    refine (ref_gaps_print_calls hvi (by omega)).step (w0 := w) (B := w.heap.size) hb hB ?_
    clear hb hB
    intro w10 hb hB
    go_wp2
    go_ret
    exact ⟨ret_bool (by simp), hb⟩

set_option maxHeartbeats 1000000 in
theorem gapsTells_calls {w : World} {v vi : Value} {l : List ByteArray} {is : List Bool} (h : StrsIn w v l) (hi : BoolsIn w vi is) : GivesAt Try.prog 3 #[v, vi] w (.bool true) := by
  by_cases hgo : smallL l = true ∧ is.length ≤ 300
  · exact gapsTells_in h hi hgo.1 hgo.2
  · obtain ⟨hb, hB⟩ := start w
    have HS := Lib.hid (small_calls h)
    obtain ⟨A, cap, rfl, _⟩ := one_at h
    obtain ⟨A0, cap0, rfl, _⟩ := one_at hi
    clear h hi
    unfold GivesAt
    cases hsm : smallL l with
    | false =>
      rw [hsm] at HS
      clear hgo
      go_enter Try.func3, Try.ntmps3
      go_wp2_with (first | (go_at_call 7; refine HS.out.step ?_) | (go_at_call 8; refine awake_calls.step (w0 := w) (B := w.heap.size) hb hB ?_; clear hb hB; intro w' hb hB))
      go_ret
      exact ⟨rfl, hb⟩
    | true =>
      rw [hsm] at HS
      have d1 : decide (300 < (is.length : Int)) = true := by rw [decide_eq_true_eq]; have : ¬ is.length ≤ 300 := fun h => hgo ⟨hsm, h⟩; omega
      clear hgo hsm
      go_enter Try.func3, Try.ntmps3
      go_wp2_with (first | (go_at_call 7; refine HS.out.step ?_) | (go_at_call 8; refine awake_calls.step (w0 := w) (B := w.heap.size) hb hB ?_; clear hb hB; intro w' hb hB))
      go_ret
      exact ⟨rfl, hb⟩

set_option maxHeartbeats 4000000 in
set_option maxRecDepth 100000 in
theorem gapsReads_in (w : World) (s : ByteArray) (many : Int) (hs : s.size ≤ 1000) :
    GivesAt Try.prog 4 #[.string s, .int .i64 many] w (.bool true) := by
  have d : decide (1000 < (s.size : Int)) = false := by rw [decide_eq_false_iff_not]; omega
  obtain ⟨rl, r, bad, hll, R1, R2⟩ := gaps_both s many
  have HR1 := Lib.hid (R1 w.heap.size)
  have HR2 := Lib.hid (R2 (w.heap.size + 1))
  clear R1 R2
  obtain ⟨t1, t2, hb⟩ := two_tapes w s 36 38
  have hB := hb.size
  unfold GivesAt
  go_enter Try.func4, Try.ntmps4
  go_wp2_with fail
  refine (HR1.out _ t1).mono ?_
  rintro e w1 ⟨v1, s1, rfl, hi1, hf1, t1', hg, HE1⟩
  replace hb := hb.grown hg hB (fun k hk => by cases hk; omega)
  replace hB := Nat.le_trans hB hg.size
  replace t2 := t2.other hg (by omega)
  have hf1' : Fresh (w.heap.size + 1 + 1) v1 := by simpa using hf1
  have hz1 : w.heap.size + 1 + 1 ≤ w1.heap.size := by have := hg.size; simpa using this
  clear t1 hg hf1
  go_wp2_with fail
  refine (HR2.out _ t2).mono ?_
  rintro e w2 ⟨v2, s2, rfl, hi2, hf2, t2', hg, HE2⟩
  replace hb := hb.grown hg hB (fun k hk => by cases hk; omega)
  replace hB := Nat.le_trans hB hg.size
  replace t1' := t1'.other hg (by omega)
  replace hi1 := SliceOf.fresh hi1 hf1' hg (by omega)
  have E1 := Lib.hid HE1
  have E2 := Lib.hid HE2
  clear t2 hg hf2 hf1' hz1 HE1 HE2
  obtain ⟨A1, d1, rfl, _⟩ := one_at hi1
  obtain ⟨A2, d2, rfl, _⟩ := one_at hi2
  have HSM : Hid (∀ d os, GivesAt Try.prog 13 #[.slice A1 rl.length d1, .slice A2 rl.length d2] (Go.Sort.grow (Go.redrawn w2 d) os) (.bool true)) := by
    intro d os
    have hs := same_bools (BoolsIn.kept hi1 (below_regrown w2 d os)) (BoolsIn.kept hi2 (below_regrown w2 d os)) (by omega) (by omega)
    rw [decide_eq_true rfl] at hs
    exact hs
  clear hi1 hi2 HR1 HR2
  cases bad with
  | true =>
    have a1 := fun d os => cell_regrown t1'.c1 d os
    have a2 := fun d os => cell_regrown t2'.c1 d os
    clear t1' t2'
    go_wp2_with fail
    refine wp_region_quiet_below (by kernel_rfl) (by kernel_rfl) ?_
    repeat (first | go_big_quiet_skip | (go_big_quiet_want; go_big_quiet_op; first | go_big_quiet_on | (apply Exists.intro; refine ⟨fun _ => ?_, ?_⟩; (first | (go_at_call 8; exact Calls.regrown_of (awake_calls _)) | (go_at_call 13; exact Calls.regrown_of (HSM.out _ _))); go_big_quiet_on)))
    refine wpQuiet_nil ?_
    rintro w6 ⟨p, hw6⟩
    have hbq : Below w2.heap.size w2 w6 := hw6 ▸ below_regrown w2 p.d p.os
    clear hw6
    go_wp2
    go_ret
    exact ⟨ret_bool (by simp), hb.trans (hbq.mono hB)⟩
  | false =>
    obtain rfl := E1.out rfl
    obtain rfl := E2.out rfl
    have a1 := fun d os => cell_regrown t1'.c1 d os
    have a2 := fun d os => cell_regrown t2'.c1 d os
    have a7 := fun d os => cell_regrown t1'.c0 d os
    have a8 := fun d os => cell_regrown t2'.c0 d os
    clear t1' t2'
    go_wp2_with fail
    refine wp_region_quiet_below (by kernel_rfl) (by kernel_rfl) ?_
    repeat (first | go_big_quiet_skip | (go_big_quiet_want; go_big_quiet_op; first | go_big_quiet_on | (apply Exists.intro; refine ⟨fun _ => ?_, ?_⟩; (first | (go_at_call 8; exact Calls.regrown_of (awake_calls _)) | (go_at_call 13; exact Calls.regrown_of (HSM.out _ _))); go_big_quiet_on)))
    refine wpQuiet_nil ?_
    rintro w6 ⟨p, hw6⟩
    have hbq : Below w2.heap.size w2 w6 := hw6 ▸ below_regrown w2 p.d p.os
    clear hw6
    go_wp2
    go_ret
    exact ⟨ret_bool (by simp), hb.trans (hbq.mono hB)⟩

set_option maxHeartbeats 1000000 in
theorem gapsReads_calls (w : World) (s : ByteArray) (many : Int) : GivesAt Try.prog 4 #[.string s, .int .i64 many] w (.bool true) := by
  by_cases hgo : s.size ≤ 1000
  · exact gapsReads_in w s many hgo
  · obtain ⟨hb, hB⟩ := start w
    have d1 : decide (1000 < (s.size : Int)) = true := by rw [decide_eq_true_eq]; omega
    clear hgo
    unfold GivesAt
    go_enter Try.func4, Try.ntmps4
    go_wp2_with (go_at_call 8; refine awake_calls.step (w0 := w) (B := w.heap.size) hb hB ?_; clear hb hB; intro w' hb hB)
    go_ret
    exact ⟨rfl, hb⟩
end Go.Proofs.Ytclkkffeaabloaa
