/- The law ShapePicks. -/
import Derived.Test.YtilnioloeijfhaaShapeLaws
namespace Go.Proofs.Ytilnioloeijfhaa
open Go Go.RowKit

set_option maxHeartbeats 2000000 in
set_option maxRecDepth 100000 in
theorem shapePicks_calls {w : World} {vr vc : Value} {row : List ByteArray} {cols : List Int} (hr : StrsIn w vr row) (hc : IntsIn w vc cols) : GivesAt Try.prog 3 #[vr, vc] w (.bool true) := by
  have hsm := small_calls hr
  obtain ⟨hb, hB⟩ := start w
  unfold GivesAt
  cases hs : smallL row with
  | false =>
    rw [hs] at hsm
    obtain ⟨A1, cap1, rfl, _⟩ := one_at hr
    obtain ⟨A2, cap2, rfl, _⟩ := one_at hc
    clear hr hc hs
    go_enter Try.func3, Try.ntmps3
    go_wp2_with (first | (go_at_call 6; refine hsm.step ?_) | (go_at_call 7; refine awake_calls.step (w0 := w) (B := w.heap.size) hb hB ?_; clear hb hB; intro w' hb hB))
    go_ret
    exact ⟨rfl, hb⟩
  | true =>
    rw [hs] at hsm
    have hlen := (smallL_of hs).1
    clear hs
    by_cases hn : cols.length ≤ 30
    · have d1 : decide (30 < (cols.length : Int)) = false := by rw [decide_eq_false_iff_not]; omega
      have hpl := pickL_length row cols
      obtain ⟨A1, cap1, rfl, _⟩ := one_at hr
      obtain ⟨A2, cap2, rfl, _⟩ := one_at hc
      go_enter Try.func3, Try.ntmps3
      go_wp2_with (go_at_call 6; refine hsm.step ?_; clear hsm)
      refine (shape_pick_calls hr hc (by omega)).mono ?_
      rintro e w1 ⟨v1, rfl, h1, hk⟩
      replace hr := StrsIn.kept hr hk
      replace hc := IntsIn.kept hc hk
      replace hb := hb.trans (hk.mono hB)
      replace hB := hb.size
      clear hk
      go_wp2_with fail
      refine (ref_shape_pick_calls hr hc (by omega)).mono ?_
      rintro e w2 ⟨v2, rfl, h2, hk⟩
      replace h1 := StrsIn.kept h1 hk
      replace hb := hb.trans (hk.mono hB)
      replace hB := hb.size
      clear hk hr hc
      go_wp2_with fail
      refine awake_calls.stepB (w0 := w) (B := w.heap.size) hb hB ?_
      clear hb hB
      intro w3 hb hB hk
      replace h1 := StrsIn.kept h1 hk
      replace h2 := StrsIn.kept h2 hk
      clear hk
      go_wp2_with fail
      have hq := same_strs h1 h2 (by omega) (by omega)
      rw [decide_eq_true rfl] at hq
      clear h1 h2
      generalize pickOk row cols = ok at *
      refine hq.step (w0 := w) (B := w.heap.size) hb hB ?_
      clear hb hB hq
      intro w4 hb hB
      go_wp2
      go_ret
      exact ⟨ret_bool (by simp), hb⟩
    · have d1 : decide (30 < (cols.length : Int)) = true := by rw [decide_eq_true_eq]; omega
      obtain ⟨A1, cap1, rfl, _⟩ := one_at hr
      obtain ⟨A2, cap2, rfl, _⟩ := one_at hc
      clear hr hc
      go_enter Try.func3, Try.ntmps3
      go_wp2_with (first | (go_at_call 6; refine hsm.step ?_) | (go_at_call 7; refine awake_calls.step (w0 := w) (B := w.heap.size) hb hB ?_; clear hb hB; intro w' hb hB))
      go_ret
      exact ⟨rfl, hb⟩
end Go.Proofs.Ytilnioloeijfhaa
