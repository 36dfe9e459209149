/- The law GapsBack. -/
import Derived.Test.YtclkkffeaabloaaGapsLaws
namespace Go.Proofs.Ytclkkffeaabloaa
open Go Go.RowKit

theorem join_back (l : List ByteArray) : joinOk (isL l) (fullL l) = true ∧ joinL (isL l) (fullL l) = l := by
  refine ⟨by unfold joinOk; rw [decide_eq_true (cnt_isL l)], ?_⟩
  unfold joinL
  rw [if_pos (cnt_isL l), joinF_back]
theorem gapsT_size (l : List Bool) (h : l.length ≤ 1000000) : (gapsT l).size ≤ 20000000 := by
  unfold gapsT gapsP
  rw [mkB_size]
  obtain ⟨⟨n, tl, e, h1⟩, _⟩ := lensOf_good l
  have hs := sumN_lensOf l
  have h2 := gapsB_size (lensOf l) (fun k hk => by have := sumN_le k hk; omega)
  have h3 : ∀ (tl : List Nat), (∀ k ∈ tl, 1 ≤ k) → tl.length ≤ sumN tl := by
    intro tl
    induction tl with
    | nil => intro _; simp
    | cons x tl ih =>
      intro h
      have := h x List.mem_cons_self
      have := ih (fun k hk => h k (List.mem_cons_of_mem _ hk))
      simp only [sumN, List.length_cons]; omega
  have h4 := h3 tl h1
  rw [e] at h2 hs ⊢
  simp only [sumN, List.length_cons] at h2 hs
  omega

set_option maxHeartbeats 4000000 in
set_option maxRecDepth 100000 in
theorem gapsBack_in {w : World} {v : Value} {l : List ByteArray} (h : StrsIn w v l) (more : ByteArray) (hsm : smallL l = true) (hm : more.size ≤ 100) :
    GivesAt Try.prog 5 #[v, .string more] w (.bool true) := by
  have HS := Lib.hid (small_calls h)
  rw [hsm] at HS
  obtain ⟨hl, _⟩ := smallL_of hsm
  have d : decide (100 < (more.size : Int)) = false := by rw [decide_eq_false_iff_not]; omega
  obtain ⟨hb, hB⟩ := start w
  have hvl := h
  obtain ⟨A, cap, rfl, _⟩ := one_at h
  have hfl := fullL_length l
  have hil := isL_length l
  have HIL := Lib.hid hil
  have HNE : Hid (∀ c ∈ fullL l, c ≠ ⟨#[]⟩) := fun c hc => by
    have := (List.mem_filter.1 hc).2
    simpa using this
  have HJ := Lib.hid (join_back l)
  clear h hsm
  unfold GivesAt
  go_enter Try.func5, Try.ntmps5
  go_wp2_with (go_at_call 7; refine HS.out.step ?_)
  refine (split_calls hvl (by omega)).mono ?_
  rintro e w1 ⟨v1, v2, rfl, h1, h2, hq⟩
  replace hb := hb.trans (hq.mono hB)
  replace hB := hb.size
  replace hvl := StrsIn.kept hvl hq
  clear hq
  go_wp2_with fail
  have hs := join_calls h1 h2 (by omega) (by rw [HIL.out]; omega)
  unfold JoinEnd at hs
  rw [HJ.out.1, HJ.out.2] at hs
  refine hs.mono ?_
  rintro e w2 ⟨v3, rfl, h3, hq⟩
  replace hb := hb.trans (hq.mono hB)
  replace hB := hb.size
  replace hvl := StrsIn.kept hvl hq
  replace h1 := BoolsIn.kept h1 hq
  replace h2 := StrsIn.kept h2 hq
  clear hq hs
  clear hil HJ
  generalize isL l = is at *
  obtain ⟨A1, p1, rfl, _⟩ := one_at h1
  obtain ⟨A2, p2, rfl, hat⟩ := one_at h2
  have d3 : ((is.length : Int) == (l.length : Int)) = true := by rw [beq_iff_eq, HIL.out]
  go_wp2_with fail
  have hs := same_strs h3 hvl (by omega) (by omega)
  rw [decide_eq_true rfl] at hs
  refine hs.stepB (w0 := w) (B := w.heap.size) hb hB ?_
  clear hb hB hs h3
  intro w3 hb hB hq
  replace h1 := BoolsIn.kept h1 hq
  replace h2 := StrsIn.kept h2 hq
  obtain ⟨A2', p2', he2, hat2⟩ := one_at h2
  simp only [Value.slice.injEq, true_and] at he2
  obtain ⟨rfl, rfl⟩ := he2
  have HAT := Lib.hid hat2
  clear hq h2 hat hat2 hvl
  generalize fullL l = fl at *
  go_wp2
  go_loopw [9] (fun i wr => ∃ k : Nat, k ≤ fl.length ∧ i = .int .i64 k ∧ wr = w3) (fun i _ => fl.length - (intOf i).toNat)
  case atStart => exact ⟨0, Nat.zero_le _, rfl, rfl⟩
  case round =>
    obtain ⟨k, hk, rfl, rfl⟩ := hrel
    by_cases hlt : k < fl.length
    · obtain ⟨b, off, rfl, hbl, hc⟩ := HAT.out k hlt
      have hx := hc k hlt
      have hne := HNE.out _ (List.getElem_mem hlt)
      clear hc
      generalize fl[k] = c at *
      obtain ⟨_, g1, g2⟩ := (str_ne_cases c ⟨#[]⟩).resolve_left (fun x => hne x.1)
      rw [empty_toList] at g1 g2
      have g3 : c.toList.isEmpty = false := by simpa using g2
      clear hne
      go_wp2
      go_roundw
      case rel => exact ⟨k + 1, by omega, by go_num, trivial⟩
      case measure => simp [intOf]; omega
    · obtain rfl : k = fl.length := by omega
      have hsz := gapsT_size is (by rw [HIL.out]; omega)
      have HAT3 := Lib.hid (gaps_at is (by rw [HIL.out]; omega) more)
      generalize hT : gapsT is = T at *
      have hov : ¬ 9223372036854775807 < T.size + more.size := by omega
      go_wp2_with fail
      have hs := gaps_print_calls h1 (by rw [HIL.out]; omega)
      rw [hT] at hs
      refine hs.stepB (w0 := w) (B := w.heap.size) hb hB ?_
      clear hb hB hs
      intro w4 hb hB hq
      replace h1 := BoolsIn.kept h1 hq
      clear hq
      go_wp2_with fail
      refine (gaps_read_calls w4.heap.size (T ++ more) false is.length _ (box_tape w4 _ _ _)).mono ?_
      intro e w5 h
      obtain ⟨v6, s6, rfl, hx, _, hT6, hg, hs6⟩ := h.yes HAT3.out
      obtain rfl := hs6 rfl
      rw [mkB_of] at hT6
      have hq := boxed_below hg
      replace hb := hb.trans (hq.mono hB)
      replace hB := hb.size
      replace h1 := BoolsIn.kept h1 hq
      clear hq hg h hs6
      go_wp2_with fail
      refine awake_calls.stepB (w0 := w) (B := w.heap.size) hb hB ?_
      clear hb hB
      intro w6 hb hB hq
      replace h1 := BoolsIn.kept h1 hq
      replace hx := BoolsIn.kept hx hq
      replace hT6 := hT6.kept hq
      clear hq
      go_wp2_with fail
      have hs := same_bools hx h1 (by rw [HIL.out]; omega) (by rw [HIL.out]; omega)
      rw [decide_eq_true rfl] at hs
      refine hs.stepB (w0 := w) (B := w.heap.size) hb hB ?_
      clear hb hB hs
      intro w7 hb hB hq
      have t1 := (hT6.kept hq).c0
      have t2 := (hT6.kept hq).c1
      clear h1 hx hT6 hq
      go_wp2
      go_ret
      exact ⟨ret_bool (by simp), hb⟩

set_option maxHeartbeats 1000000 in
theorem gapsBack_calls {w : World} {v : Value} {l : List ByteArray} (h : StrsIn w v l) (more : ByteArray) : GivesAt Try.prog 5 #[v, .string more] w (.bool true) := by
  by_cases hgo : smallL l = true ∧ more.size ≤ 100
  · exact gapsBack_in h more hgo.1 hgo.2
  · obtain ⟨hb, hB⟩ := start w
    have HS := Lib.hid (small_calls h)
    obtain ⟨A, cap, rfl, _⟩ := one_at h
    clear h
    unfold GivesAt
    cases hsm : smallL l with
    | false =>
      rw [hsm] at HS
      clear hgo
      go_enter Try.func5, Try.ntmps5
      go_wp2_with (first | (go_at_call 7; refine HS.out.step ?_) | (go_at_call 8; refine awake_calls.step (w0 := w) (B := w.heap.size) hb hB ?_; clear hb hB; intro w' hb hB))
      go_ret
      exact ⟨rfl, hb⟩
    | true =>
      rw [hsm] at HS
      have d1 : decide (100 < (more.size : Int)) = true := by rw [decide_eq_true_eq]; have : ¬ more.size ≤ 100 := fun h => hgo ⟨hsm, h⟩; omega
      clear hgo hsm
      go_enter Try.func5, Try.ntmps5
      go_wp2_with (first | (go_at_call 7; refine HS.out.step ?_) | (go_at_call 8; refine awake_calls.step (w0 := w) (B := w.heap.size) hb hB ?_; clear hb hB; intro w' hb hB))
      go_ret
      exact ⟨rfl, hb⟩
end Go.Proofs.Ytclkkffeaabloaa
