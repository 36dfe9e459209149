/- The law RunsReads. -/
import Derived.Test.YtkmmjdjckedghaaRunsLawsB
namespace Go.Proofs.Ytkmmjdjckedghaa
open Go Go.RowKit

theorem four_tapes (w : World) (s : ByteArray) (T1 T2 : TypeId) :
    TapeIn T1 ((((w.alloc (.cells #[.string s, .bool false] T1)).alloc (.cells #[.string s, .bool false] T2)).alloc (.cells #[.string s, .bool false] T1)).alloc (.cells #[.string s, .bool false] T2)) w.heap.size s false ∧
    TapeIn T2 ((((w.alloc (.cells #[.string s, .bool false] T1)).alloc (.cells #[.string s, .bool false] T2)).alloc (.cells #[.string s, .bool false] T1)).alloc (.cells #[.string s, .bool false] T2)) (w.heap.size + 1) s false ∧
    TapeIn T1 ((((w.alloc (.cells #[.string s, .bool false] T1)).alloc (.cells #[.string s, .bool false] T2)).alloc (.cells #[.string s, .bool false] T1)).alloc (.cells #[.string s, .bool false] T2)) (w.heap.size + 1 + 1) s false ∧
    TapeIn T2 ((((w.alloc (.cells #[.string s, .bool false] T1)).alloc (.cells #[.string s, .bool false] T2)).alloc (.cells #[.string s, .bool false] T1)).alloc (.cells #[.string s, .bool false] T2)) (w.heap.size + 1 + 1 + 1) s false ∧
    Below w.heap.size w ((((w.alloc (.cells #[.string s, .bool false] T1)).alloc (.cells #[.string s, .bool false] T2)).alloc (.cells #[.string s, .bool false] T1)).alloc (.cells #[.string s, .bool false] T2)) := by
  have h1 := box_tape w s false T1
  have h2 := box_tape (w.alloc (.cells #[.string s, .bool false] T1)) s false T2
  have h3 := box_tape ((w.alloc (.cells #[.string s, .bool false] T1)).alloc (.cells #[.string s, .bool false] T2)) s false T1
  have h4 := box_tape (((w.alloc (.cells #[.string s, .bool false] T1)).alloc (.cells #[.string s, .bool false] T2)).alloc (.cells #[.string s, .bool false] T1)) s false T2
  refine ⟨((h1.alloc _).alloc _).alloc _, ?_, ?_, ?_, ?_⟩
  · have := (h2.alloc (.cells #[.string s, .bool false] T1)).alloc (.cells #[.string s, .bool false] T2); simpa using this
  · have := h3.alloc (.cells #[.string s, .bool false] T2); simpa using this
  · simpa using h4
  · exact ((((Below.refl _ w).alloc (Nat.le_refl _) _).alloc (by simp) _).alloc (by simp; omega) _).alloc (by simp; omega) _

/-- A tape's call that gives texts, or none: the texts, what is left, whether the tape is bad. -/
def ReadsStrs (P : Program) (T : TypeId) (f : FuncId) (more : List Value) (b : Nat) (s : ByteArray) (l : List ByteArray) (r : ByteArray) (bad : Bool) : Prop :=
  ∀ w : World, TapeIn T w b s false → Calls P f (Value.pointer (some ⟨b, 0, none⟩) :: more).toArray w fun e w' => ∃ v s', e = .returned v ∧ StrsIn w' v l ∧ Fresh w.heap.size v ∧ TapeIn T w' b s' bad ∧ w.grownBy w' (some b) ∧ (bad = false → s' = r)
theorem TakesStrs.reads {P : Program} {T : TypeId} {f : FuncId} {more : List Value} {b : Nat} {s s' : ByteArray} {l : List ByteArray} (h : TakesStrs P T f more b s l s') : ReadsStrs P T f more b s l s' false :=
  fun w hT => (h w hT).mono fun _ _ ⟨v, he, hi, hf, hT', hg⟩ => ⟨v, s', he, hi, hf, hT', hg, fun _ => rfl⟩
theorem Takes.reads {P : Program} {T : TypeId} {f : FuncId} {more : List Value} {b : Nat} {s s' r : ByteArray} (h : Takes P T f more b s false (.slice none 0 0) s' true) : ReadsStrs P T f more b s [] r true :=
  fun w hT => (h w hT).mono fun _ _ ⟨he, hT', hg⟩ => ⟨_, s', he, SliceOf.nil_ _ _ _ _, fresh_nil _, hT', hg, fun h => absurd h (by decide)⟩
theorem TakesNone.reads {P : Program} {T : TypeId} {f : FuncId} {more : List Value} {b : Nat} {s r : ByteArray} (h : TakesNone P T f more b s false (.slice none 0 0)) : ReadsStrs P T f more b s [] r true :=
  fun w hT => (h w hT).mono fun _ _ ⟨s', he, hT', hg⟩ => ⟨_, s', he, SliceOf.nil_ _ _ _ _, fresh_nil _, hT', hg, fun h => absurd h (by decide)⟩
theorem runs_both (s : ByteArray) (hs : s.size ≤ 9223372036854775807) (many : Int) : ∃ l r bad, l.length ≤ 4096 ∧ (∀ b, ReadsStrs Try.prog 33 16 [.int .i64 many] b s l r bad) ∧
    ∀ b, ReadsStrs Try.prog 35 17 [.int .i64 many] b s l r bad := by
  by_cases h : ∃ l r, RunsAt s.data.toList many l r
  · obtain ⟨l, r, h⟩ := h
    exact ⟨l, mkB r, false, by have := h.2.2.1; have := h.2.1; omega, fun b => (runs_read_some b s hs h).reads, fun b => (ref_runs_read_some b s hs h).reads⟩
  · exact ⟨[], s, true, by simp, fun b => (runs_read_none b s hs many h).reads, fun b => (ref_runs_read_none b s false hs many (.inr h)).reads⟩
theorem cell_both (s : ByteArray) (hs : s.size ≤ 9223372036854775807) : ∃ c r1 r2 bad, (bad = false → r1 = r2) ∧ (∀ b, Takes Try.prog 33 18 [] b s false (.string c) r1 bad) ∧
    ∀ b, Takes Try.prog 35 19 [] b s false (.string c) r2 bad := by
  have h1 := fun b => readCell_calls b s false hs
  have h2 := fun b => ref_readCell_calls b s false hs
  unfold readT at h1
  unfold readRT at h2
  cases hok : cellOk s false with
  | true => rw [hok] at h1 h2; exact ⟨_, _, _, _, fun _ => rfl, h1, h2⟩
  | false => rw [hok] at h1 h2; exact ⟨_, _, _, _, fun h => by simp at h, h1, h2⟩

set_option maxHeartbeats 4000000 in
set_option maxRecDepth 100000 in
theorem runsReads_calls (s : ByteArray) (many : Int) : Gives Try.prog 4 #[.string s, .int .i64 many] (.bool true) := by
  intro w
  by_cases hs : s.size ≤ 1000
  · have d : decide (1000 < (s.size : Int)) = false := by rw [decide_eq_false_iff_not]; omega
    obtain ⟨l, r, bad, hll, R1, R2⟩ := runs_both s (by omega) many
    obtain ⟨c, r1, r2, bad2, hr12, C1, C2⟩ := cell_both s (by omega)
    have HR1 := Lib.hid (R1 w.heap.size)
    have HR2 := Lib.hid (R2 (w.heap.size + 1))
    have HC1 := Lib.hid (C1 (w.heap.size + 1 + 1))
    have HC2 := Lib.hid (C2 (w.heap.size + 1 + 1 + 1))
    have H12 := Lib.hid hr12
    clear R1 R2 C1 C2 hr12
    obtain ⟨t1, t2, t3, t4, hb⟩ := four_tapes w s 33 35
    have hB := hb.size
    go_enter Try.func4, Try.ntmps4
    go_wp2_with fail
    refine (HR1.out _ t1).mono ?_
    rintro e w1 ⟨v1, s1, rfl, hi1, hf1, t1', hg, HE1⟩
    replace hb := hb.grown hg hB (fun k hk => by cases hk; omega)
    replace hB := Nat.le_trans hB hg.size
    replace t2 := t2.other hg (by omega)
    replace t3 := t3.other hg (by omega)
    replace t4 := t4.other hg (by omega)
    have hf1' : Fresh (w.heap.size + 1 + 1 + 1 + 1) v1 := by simpa using hf1
    have hz1 : w.heap.size + 1 + 1 + 1 + 1 ≤ w1.heap.size := by have := hg.size; simpa using this
    clear t1 hg hf1
    go_wp2_with fail
    refine (HR2.out _ t2).mono ?_
    rintro e w2 ⟨v2, s2, rfl, hi2, hf2, t2', hg, HE2⟩
    replace hb := hb.grown hg hB (fun k hk => by cases hk; omega)
    replace hB := Nat.le_trans hB hg.size
    replace t1' := t1'.other hg (by omega)
    replace t3 := t3.other hg (by omega)
    replace t4 := t4.other hg (by omega)
    replace hi1 := SliceOf.fresh hi1 hf1' hg (by omega)
    have hz2 := Nat.le_trans hz1 hg.size
    have hf2' : Fresh (w.heap.size + 1 + 1 + 1 + 1) v2 := hf2.mono hz1
    clear t2 hg hf2
    have E1 := Lib.hid HE1
    have E2 := Lib.hid HE2
    clear HE1 HE2
    go_wp2_with fail
    refine (HC1.out _ t3).mono ?_
    rintro e w3 ⟨rfl, t3', hg⟩
    replace hb := hb.grown hg hB (fun k hk => by cases hk; omega)
    replace hB := Nat.le_trans hB hg.size
    replace t1' := t1'.other hg (by omega)
    replace t2' := t2'.other hg (by omega)
    replace t4 := t4.other hg (by omega)
    replace hi1 := SliceOf.fresh hi1 hf1' hg (by omega)
    replace hi2 := SliceOf.fresh hi2 hf2' hg (by omega)
    clear t3 hg
    go_wp2_with fail
    refine (HC2.out _ t4).mono ?_
    rintro e w4 ⟨rfl, t4', hg⟩
    replace hb := hb.grown hg hB (fun k hk => by cases hk; omega)
    replace hB := Nat.le_trans hB hg.size
    replace t1' := t1'.other hg (by omega)
    replace t2' := t2'.other hg (by omega)
    replace t3' := t3'.other hg (by omega)
    replace hi1 := SliceOf.fresh hi1 hf1' hg (by omega)
    replace hi2 := SliceOf.fresh hi2 hf2' hg (by omega)
    clear t4 hg hf1' hf2' hz1 hz2
    obtain ⟨A1, d1, rfl, _⟩ := one_at hi1
    obtain ⟨A2, d2, rfl, _⟩ := one_at hi2
    have HS : Hid (∀ d os, GivesAt Try.prog 11 #[.slice A1 l.length d1, .slice A2 l.length d2] (Go.Sort.grow (Go.redrawn w4 d) os) (.bool true)) := by
      intro d os
      have hs := same_strs (StrsIn.kept hi1 (below_regrown w4 d os)) (StrsIn.kept hi2 (below_regrown w4 d os)) (by omega) (by omega)
      rw [decide_eq_true rfl] at hs
      exact hs
    clear hi1 hi2 HR1 HR2 HC1 HC2
    cases bad with
    | true =>
      have a1 := fun d os => cell_regrown t1'.c1 d os
      have a2 := fun d os => cell_regrown t2'.c1 d os
      cases bad2 with
      | true =>
        have a3 := fun d os => cell_regrown t3'.c1 d os
        have a4 := fun d os => cell_regrown t4'.c1 d os
        clear t1' t2' t3' t4'
        go_wp2_with fail
        refine wp_region_quiet_below (by kernel_rfl) (by kernel_rfl) ?_
        simp only [List.append_eq, List.cons_append, List.nil_append]
        repeat (first | go_big_quiet_skip | (go_big_quiet_want; go_big_quiet_op; first | go_big_quiet_on | (apply Exists.intro; refine ⟨fun _ => ?_, ?_⟩; (first | (go_at_call 8; exact Calls.regrown_of (awake_calls _)) | (go_at_call 11; exact Calls.regrown_of (HS.out _ _))); go_big_quiet_on)))
        refine wpQuiet_nil ?_
        rintro w6 ⟨p, hw6⟩
        have hbq : Below w4.heap.size w4 w6 := hw6 ▸ below_regrown w4 p.d p.os
        clear hw6
        go_wp2
        go_ret
        exact ⟨ret_bool (by simp), hb.trans (hbq.mono hB)⟩
      | false =>
        obtain rfl := H12.out rfl
        have a3 := fun d os => cell_regrown t3'.c1 d os
        have a4 := fun d os => cell_regrown t4'.c1 d os
        have a5 := fun d os => cell_regrown t3'.c0 d os
        have a6 := fun d os => cell_regrown t4'.c0 d os
        clear t1' t2' t3' t4'
        go_wp2_with fail
        refine wp_region_quiet_below (by kernel_rfl) (by kernel_rfl) ?_
        simp only [List.append_eq, List.cons_append, List.nil_append]
        repeat (first | go_big_quiet_skip | (go_big_quiet_want; go_big_quiet_op; first | go_big_quiet_on | (apply Exists.intro; refine ⟨fun _ => ?_, ?_⟩; (first | (go_at_call 8; exact Calls.regrown_of (awake_calls _)) | (go_at_call 11; exact Calls.regrown_of (HS.out _ _))); go_big_quiet_on)))
        refine wpQuiet_nil ?_
        rintro w6 ⟨p, hw6⟩
        have hbq : Below w4.heap.size w4 w6 := hw6 ▸ below_regrown w4 p.d p.os
        clear hw6
        go_wp2
        go_ret
        exact ⟨ret_bool (by simp), hb.trans (hbq.mono hB)⟩
    | false =>
      obtain rfl := E1.out rfl
      obtain rfl := E2.out rfl
      have a1 := fun d os => cell_regrown t1'.c1 d os
      have a2 := fun d os => cell_regrown t2'.c1 d os
      have a7 := fun d os => cell_regrown t1'.c0 d os
      have a8 := fun d os => cell_regrown t2'.c0 d os
      cases bad2 with
      | true =>
        have a3 := fun d os => cell_regrown t3'.c1 d os
        have a4 := fun d os => cell_regrown t4'.c1 d os
        clear t1' t2' t3' t4'
        go_wp2_with fail
        refine wp_region_quiet_below (by kernel_rfl) (by kernel_rfl) ?_
        simp only [List.append_eq, List.cons_append, List.nil_append]
        repeat (first | go_big_quiet_skip | (go_big_quiet_want; go_big_quiet_op; first | go_big_quiet_on | (apply Exists.intro; refine ⟨fun _ => ?_, ?_⟩; (first | (go_at_call 8; exact Calls.regrown_of (awake_calls _)) | (go_at_call 11; exact Calls.regrown_of (HS.out _ _))); go_big_quiet_on)))
        refine wpQuiet_nil ?_
        rintro w6 ⟨p, hw6⟩
        have hbq : Below w4.heap.size w4 w6 := hw6 ▸ below_regrown w4 p.d p.os
        clear hw6
        go_wp2
        go_ret
        exact ⟨ret_bool (by simp), hb.trans (hbq.mono hB)⟩
      | false =>
        obtain rfl := H12.out rfl
        have a3 := fun d os => cell_regrown t3'.c1 d os
        have a4 := fun d os => cell_regrown t4'.c1 d os
        have a5 := fun d os => cell_regrown t3'.c0 d os
        have a6 := fun d os => cell_regrown t4'.c0 d os
        clear t1' t2' t3' t4'
        go_wp2_with fail
        refine wp_region_quiet_below (by kernel_rfl) (by kernel_rfl) ?_
        simp only [List.append_eq, List.cons_append, List.nil_append]
        repeat (first | go_big_quiet_skip | (go_big_quiet_want; go_big_quiet_op; first | go_big_quiet_on | (apply Exists.intro; refine ⟨fun _ => ?_, ?_⟩; (first | (go_at_call 8; exact Calls.regrown_of (awake_calls _)) | (go_at_call 11; exact Calls.regrown_of (HS.out _ _))); go_big_quiet_on)))
        refine wpQuiet_nil ?_
        rintro w6 ⟨p, hw6⟩
        have hbq : Below w4.heap.size w4 w6 := hw6 ▸ below_regrown w4 p.d p.os
        clear hw6
        go_wp2
        go_ret
        exact ⟨ret_bool (by simp), hb.trans (hbq.mono hB)⟩
  · obtain ⟨hb, hB⟩ := start w
    have d : decide (1000 < (s.size : Int)) = true := by rw [decide_eq_true_eq]; omega
    go_enter Try.func4, Try.ntmps4
    go_wp2_with (go_at_call 8; refine awake_calls.step (w0 := w) (B := w.heap.size) hb hB ?_; clear hb hB; intro w' hb hB)
    go_ret
    exact ⟨rfl, hb⟩
end Go.Proofs.Ytkmmjdjckedghaa
