/- The law DictReads. -/
import Derived.Test.YtlcpkhgilihjlaaGStrs
import Derived.Test.YtlcpkhgilihjlaaGDictLaws
namespace Go.Proofs.Ytlcpkhgilihjlaa
open Go Go.RowKit

theorem ref_dict_read_some (b : Nat) (s : ByteArray) (hs : s.size ≤ 1000000) {many : Int} {l : List ByteArray} {r : List UInt8} (h : DictAt s.data.toList many l r) :
    TakesStrs Try.prog 34 17 [.int .i64 many] b s l (mkB r) := by
  intro w hT
  refine Calls.mono (ref_dict_read_calls b s many hs w hT) ?_
  rintro e w' ⟨s0, ⟨v, l', r', he, hd, hi, hf, hT', hg⟩ | ⟨_, _, _, hn⟩⟩
  · obtain ⟨rfl, rfl⟩ := h.same hd
    exact ⟨v, he, hi, hf, hT', hg⟩
  · exact absurd ⟨_, _, h⟩ hn
theorem ref_dict_read_none (b : Nat) (s : ByteArray) (hs : s.size ≤ 1000000) (many : Int) (h : ¬ ∃ l r, DictAt s.data.toList many l r) :
    TakesNone Try.prog 34 17 [.int .i64 many] b s false (.slice none 0 0) := by
  intro w hT
  refine Calls.mono (ref_dict_read_calls b s many hs w hT) ?_
  rintro e w' ⟨s0, ⟨v, l', r', he, hd, hi, hf, hT', hg⟩ | ⟨he, hT', hg, _⟩⟩
  · exact absurd ⟨_, _, hd⟩ h
  · exact ⟨s0, he, hT', hg⟩
theorem dict_both (s : ByteArray) (hs : s.size ≤ 1000000) (many : Int) : ∃ l r bad, l.length ≤ 4096 ∧ (∀ b, ReadsStrs Try.prog 32 16 [.int .i64 many] b s l r bad) ∧
    ∀ b, ReadsStrs Try.prog 34 17 [.int .i64 many] b s l r bad := by
  by_cases h : ∃ l r, DictAt s.data.toList many l r
  · obtain ⟨l, r, h⟩ := h
    exact ⟨l, mkB r, false, by have := h.2.2.1; have := h.2.1; omega, fun b => (dict_read_some b s (by omega) h).reads, fun b => (ref_dict_read_some b s hs h).reads⟩
  · exact ⟨[], ⟨#[]⟩, true, by simp, fun b => (dict_read_none b s (by omega) many h).reads, fun b => (ref_dict_read_none b s hs many h).reads⟩

set_option maxHeartbeats 4000000 in
set_option maxRecDepth 100000 in
theorem dictReads_calls (s : ByteArray) (many : Int) : Gives Try.prog 4 #[.string s, .int .i64 many] (.bool true) := by
  intro w
  by_cases hs : s.size ≤ 1000
  · have d : decide (1000 < (s.size : Int)) = false := by rw [decide_eq_false_iff_not]; omega
    obtain ⟨l, r, bad, hll, R1, R2⟩ := dict_both s (by omega) many
    have HR1 := Lib.hid (R1 w.heap.size)
    have HR2 := Lib.hid (R2 (w.heap.size + 1))
    clear R1 R2
    obtain ⟨t1, t2, hb⟩ := two_tapes w s 32 34
    have hB := hb.size
    go_enter Try.func4, Try.ntmps4
    go_wp2_with fail
    refine (HR1.out _ t1).mono ?_
    rintro e w1 ⟨v1, s1, rfl, hi1, hf1, t1', hg, HE1⟩
    replace hb := hb.grown hg hB (fun k hk => by cases hk; omega)
    replace hB := Nat.le_trans hB hg.size
    replace t2 := t2.other hg (by omega)
    have hf1' : Fresh (w.heap.size + 1 + 1) v1 := by simpa using hf1
    have hz1 : w.heap.size + 1 + 1 ≤ w1.heap.size := by have := hg.size; simpa using this
    clear t1 hg hf1
    go_wp2_with fail
    refine (HR2.out _ t2).mono ?_
    rintro e w2 ⟨v2, s2, rfl, hi2, hf2, t2', hg, HE2⟩
    replace hb := hb.grown hg hB (fun k hk => by cases hk; omega)
    replace hB := Nat.le_trans hB hg.size
    replace t1' := t1'.other hg (by omega)
    replace hi1 := SliceOf.fresh hi1 hf1' hg (by omega)
    have E1 := Lib.hid HE1
    have E2 := Lib.hid HE2
    clear t2 hg hf2 hf1' hz1 HE1 HE2
    obtain ⟨A1, d1, rfl, _⟩ := one_at hi1
    obtain ⟨A2, d2, rfl, _⟩ := one_at hi2
    have HS : Hid (∀ d os, GivesAt Try.prog 10 #[.slice A1 l.length d1, .slice A2 l.length d2] (Go.Sort.grow (Go.redrawn w2 d) os) (.bool true)) := by
      intro d os
      have hs := same_strs (StrsIn.kept hi1 (below_regrown w2 d os)) (StrsIn.kept hi2 (below_regrown w2 d os)) (by omega) (by omega)
      rw [decide_eq_true rfl] at hs
      exact hs
    clear hi1 hi2 HR1 HR2
    cases bad with
    | true =>
      have a1 := fun d os => cell_regrown t1'.c1 d os
      have a2 := fun d os => cell_regrown t2'.c1 d os
      clear t1' t2'
      go_wp2_with fail
      refine wp_region_quiet_below (by kernel_rfl) (by kernel_rfl) ?_
      repeat (first | go_big_quiet_skip | (go_big_quiet_want; go_big_quiet_op; first | go_big_quiet_on | (apply Exists.intro; refine ⟨fun _ => ?_, ?_⟩; (first | (go_at_call 8; exact Calls.regrown_of (awake_calls _)) | (go_at_call 10; exact Calls.regrown_of (HS.out _ _))); go_big_quiet_on)))
      refine wpQuiet_nil ?_
      rintro w6 ⟨p, hw6⟩
      have hbq : Below w2.heap.size w2 w6 := hw6 ▸ below_regrown w2 p.d p.os
      clear hw6
      go_wp2
      go_ret
      exact ⟨ret_bool (by simp), hb.trans (hbq.mono hB)⟩
    | false =>
      obtain rfl := E1.out rfl
      obtain rfl := E2.out rfl
      have a1 := fun d os => cell_regrown t1'.c1 d os
      have a2 := fun d os => cell_regrown t2'.c1 d os
      have a7 := fun d os => cell_regrown t1'.c0 d os
      have a8 := fun d os => cell_regrown t2'.c0 d os
      clear t1' t2'
      go_wp2_with fail
      refine wp_region_quiet_below (by kernel_rfl) (by kernel_rfl) ?_
      repeat (first | go_big_quiet_skip | (go_big_quiet_want; go_big_quiet_op; first | go_big_quiet_on | (apply Exists.intro; refine ⟨fun _ => ?_, ?_⟩; (first | (go_at_call 8; exact Calls.regrown_of (awake_calls _)) | (go_at_call 10; exact Calls.regrown_of (HS.out _ _))); go_big_quiet_on)))
      refine wpQuiet_nil ?_
      rintro w6 ⟨p, hw6⟩
      have hbq : Below w2.heap.size w2 w6 := hw6 ▸ below_regrown w2 p.d p.os
      clear hw6
      go_wp2
      go_ret
      exact ⟨ret_bool (by simp), hb.trans (hbq.mono hB)⟩
  · have d : decide (1000 < (s.size : Int)) = true := by rw [decide_eq_true_eq]; omega
    obtain ⟨hb, hB⟩ := start w
    go_enter Try.func4, Try.ntmps4
    go_wp2_with (go_at_call 8; refine awake_calls.step (w0 := w) (B := w.heap.size) hb hB ?_; clear hb hB; intro w' hb hB)
    go_ret
    exact ⟨rfl, hb⟩
end Go.Proofs.Ytlcpkhgilihjlaa
