/- The law WeighGroup. -/
import Derived.Test.YtoamnoafamoldaaGWeighSmall
import Derived.Test.YtoamnoafamoldaaGZWeighLaws
namespace Go.Proofs.Ytoamnoafamoldaa
open Go Go.RowKit

set_option maxHeartbeats 4000000 in
set_option maxRecDepth 100000 in
theorem weighGroup_short {w : World} {v1 v2 v3 : Value} {l m o : List Tm} (hl : TimesIn w v1 l) (hm : TimesIn w v2 m) (ho : TimesIn w v3 o) (sl : smallW l = true) (sm : smallW m = true) (so : smallW o = true) :
    GivesAt Try.prog 5 #[v1, v2, v3] w (.bool true) := by
  have hsl := small_calls hl
  have hsm := small_calls hm
  have hso := small_calls ho
  rw [sl] at hsl
  rw [sm] at hsm
  rw [so] at hso
  obtain ⟨hb, hB⟩ := start w
  obtain ⟨A0, p0, rfl⟩ := times_slice hl
  obtain ⟨A00, p00, rfl⟩ := times_slice hm
  obtain ⟨A000, p000, rfl⟩ := times_slice ho
  have n1 := (smallW_of sl).1
  have n2 := (smallW_of sm).1
  have n3 := (smallW_of so).1
  have t1 := small_wt sl
  have t2 := small_wt sm
  have t3 := small_wt so
  have HS1 := Lib.hid (short_small sl)
  have HS2 := Lib.hid (short_small sm)
  have HS3 := Lib.hid (short_small so)
  have q1 := sum_length l m
  have q2 := sum_length m o
  have q3 := wt_sum l m
  have q4 := wt_sum m o
  have q5 := sum_length (sumW l m) o
  have q6 := of_length l
  have q7 := Nat.le_of_eq (minus_length l)
  have q8 := Nat.le_of_eq (wt_minus l)
  have HR1 := Lib.hid (show rightW (sumW l m) = true from decide_eq_true (sum_right _ _))
  have HR2 := Lib.hid (show rightW (sumW l (sumW m o)) = true from decide_eq_true (sum_right _ _))
  have HC := Lib.hid (sum_comm m l)
  have HA := Lib.hid (sum_assoc l m o)
  have HM := Lib.hid (sum_minus l)
  rw [HA.out] at q5
  clear sl sm so
  unfold GivesAt
  go_enter Try.func5, Try.ntmps5
  go_wp2_with fail
  refine (hsl).step ?_
  go_wp2_with fail
  refine (hsm).step ?_
  go_wp2_with fail
  refine (hso).step ?_
  clear hsl hsm hso
  go_wp2_with fail
  have hq := weigh_sum_calls hl hm (by omega) (by omega) HS1.out HS2.out
  refine hq.stepB (w0 := w) (B := w.heap.size) hb hB ?_
  clear hb hB hq
  intro v1 w1 ha hb hB hk
  replace hl := TimesIn.kept hl hk
  replace hm := TimesIn.kept hm hk
  replace ho := TimesIn.kept ho hk
  clear hk
  obtain ⟨A1, p1, rfl⟩ := times_slice ha
  go_wp2_with fail
  have hq := weigh_sum_calls hm hl (by omega) (by omega) HS2.out HS1.out
  rw [HC.out] at hq
  refine hq.stepB (w0 := w) (B := w.heap.size) hb hB ?_
  clear hb hB hq
  intro v2 w2 hb2 hb hB hk
  replace hl := TimesIn.kept hl hk
  replace hm := TimesIn.kept hm hk
  replace ho := TimesIn.kept ho hk
  replace ha := TimesIn.kept ha hk
  clear hk
  obtain ⟨A2, p2, rfl⟩ := times_slice hb2
  go_wp2_with fail
  have hq := weigh_sum_calls hl hm (by omega) (by omega) HS1.out HS2.out
  refine hq.stepB (w0 := w) (B := w.heap.size) hb hB ?_
  clear hb hB hq
  intro v3 w3 hx hb hB hk
  replace hl := TimesIn.kept hl hk
  replace hm := TimesIn.kept hm hk
  replace ho := TimesIn.kept ho hk
  replace ha := TimesIn.kept ha hk
  replace hb2 := TimesIn.kept hb2 hk
  clear hk
  obtain ⟨A3, p3, rfl⟩ := times_slice hx
  go_wp2_with fail
  have hq := weigh_sum_calls hx ho (by omega) (by omega) (HS1.out.sum HS2.out) HS3.out
  rw [HA.out] at hq
  refine hq.stepB (w0 := w) (B := w.heap.size) hb hB ?_
  clear hb hB hq
  intro v4 w4 hc hb hB hk
  replace hl := TimesIn.kept hl hk
  replace hm := TimesIn.kept hm hk
  replace ho := TimesIn.kept ho hk
  replace ha := TimesIn.kept ha hk
  replace hb2 := TimesIn.kept hb2 hk
  replace hx := TimesIn.kept hx hk
  clear hk
  obtain ⟨A4, p4, rfl⟩ := times_slice hc
  clear hx
  go_wp2_with fail
  have hq := weigh_sum_calls hm ho (by omega) (by omega) HS2.out HS3.out
  refine hq.stepB (w0 := w) (B := w.heap.size) hb hB ?_
  clear hb hB hq
  intro v5 w5 hx hb hB hk
  replace hl := TimesIn.kept hl hk
  replace hm := TimesIn.kept hm hk
  replace ho := TimesIn.kept ho hk
  replace ha := TimesIn.kept ha hk
  replace hb2 := TimesIn.kept hb2 hk
  replace hc := TimesIn.kept hc hk
  clear hk
  obtain ⟨A5, p5, rfl⟩ := times_slice hx
  go_wp2_with fail
  have hq := weigh_sum_calls hl hx (by omega) (by omega) HS1.out (HS2.out.sum HS3.out)
  refine hq.stepB (w0 := w) (B := w.heap.size) hb hB ?_
  clear hb hB hq
  intro v6 w6 hd hb hB hk
  replace hl := TimesIn.kept hl hk
  replace hm := TimesIn.kept hm hk
  replace ho := TimesIn.kept ho hk
  replace ha := TimesIn.kept ha hk
  replace hb2 := TimesIn.kept hb2 hk
  replace hc := TimesIn.kept hc hk
  replace hx := TimesIn.kept hx hk
  clear hk
  obtain ⟨A6, p6, rfl⟩ := times_slice hd
  clear hx hm ho
  go_wp2_with fail
  have hq := awake_calls.at_ w6
  refine hq.stepB (w0 := w) (B := w.heap.size) hb hB ?_
  clear hb hB hq
  intro w7 hb hB hk
  replace hl := TimesIn.kept hl hk
  replace ha := TimesIn.kept ha hk
  replace hb2 := TimesIn.kept hb2 hk
  replace hc := TimesIn.kept hc hk
  replace hd := TimesIn.kept hd hk
  clear hk
  go_wp2_with fail
  have hq := same_times ha hb2 (by omega) (HS1.out.sum HS2.out) (HS1.out.sum HS2.out)
  rw [decide_eq_true rfl] at hq
  refine hq.stepB (w0 := w) (B := w.heap.size) hb hB ?_
  clear hb hB hq
  intro w8 hb hB hk
  replace hl := TimesIn.kept hl hk
  replace ha := TimesIn.kept ha hk
  replace hb2 := TimesIn.kept hb2 hk
  replace hc := TimesIn.kept hc hk
  replace hd := TimesIn.kept hd hk
  clear hk
  clear hb2
  go_wp2_with fail
  have hq := same_times hc hd (by omega) (HS1.out.sum (HS2.out.sum HS3.out)) (HS1.out.sum (HS2.out.sum HS3.out))
  rw [decide_eq_true rfl] at hq
  refine hq.stepB (w0 := w) (B := w.heap.size) hb hB ?_
  clear hb hB hq
  intro w9 hb hB hk
  replace hl := TimesIn.kept hl hk
  replace ha := TimesIn.kept ha hk
  replace hc := TimesIn.kept hc hk
  replace hd := TimesIn.kept hd hk
  clear hk
  clear hd
  go_wp2_with fail
  have hq := weigh_sum_calls hl (l := []) (TimesIn.nil_ _ none 0) (by show _ + 0 ≤ _; omega) (by show _ + 0 ≤ _; omega) HS1.out ShortR.nil
  rw [sum_nil] at hq
  refine hq.stepB (w0 := w) (B := w.heap.size) hb hB ?_
  clear hb hB hq
  intro v10 w10 hx hb hB hk
  replace hl := TimesIn.kept hl hk
  replace ha := TimesIn.kept ha hk
  replace hc := TimesIn.kept hc hk
  clear hk
  obtain ⟨A10, p10, rfl⟩ := times_slice hx
  go_wp2_with fail
  have hq := weigh_of_calls hl (by omega) (by omega) HS1.out
  refine hq.stepB (w0 := w) (B := w.heap.size) hb hB ?_
  clear hb hB hq
  intro v11 w11 hy hb hB hk
  replace hl := TimesIn.kept hl hk
  replace ha := TimesIn.kept ha hk
  replace hc := TimesIn.kept hc hk
  replace hx := TimesIn.kept hx hk
  clear hk
  obtain ⟨A11, p11, rfl⟩ := times_slice hy
  go_wp2_with fail
  have hq := same_times hx hy (by omega) HS1.out.of HS1.out.of
  rw [decide_eq_true rfl] at hq
  refine hq.stepB (w0 := w) (B := w.heap.size) hb hB ?_
  clear hb hB hq
  intro w12 hb hB hk
  replace hl := TimesIn.kept hl hk
  replace ha := TimesIn.kept ha hk
  replace hc := TimesIn.kept hc hk
  replace hx := TimesIn.kept hx hk
  replace hy := TimesIn.kept hy hk
  clear hk
  clear hx hy
  go_wp2_with fail
  have hq := weigh_minus_calls hl (by omega) (by omega) HS1.out
  refine hq.stepB (w0 := w) (B := w.heap.size) hb hB ?_
  clear hb hB hq
  intro v13 w13 hx hb hB hk
  replace hl := TimesIn.kept hl hk
  replace ha := TimesIn.kept ha hk
  replace hc := TimesIn.kept hc hk
  clear hk
  obtain ⟨A13, p13, rfl⟩ := times_slice hx
  go_wp2_with fail
  have hq := weigh_sum_calls hl hx (by omega) (by omega) HS1.out HS1.out.minus
  rw [HM.out] at hq
  refine hq.stepB (w0 := w) (B := w.heap.size) hb hB ?_
  clear hb hB hq
  intro v14 w14 hy hb hB hk
  replace hl := TimesIn.kept hl hk
  replace ha := TimesIn.kept ha hk
  replace hc := TimesIn.kept hc hk
  replace hx := TimesIn.kept hx hk
  clear hk
  obtain ⟨A14, p14, rfl⟩ := times_slice hy
  clear hx hl hy
  go_wp2_with fail
  have hq := weigh_right_calls ha
  rw [HR1.out] at hq
  refine hq.stepB (w0 := w) (B := w.heap.size) hb hB ?_
  clear hb hB hq
  intro w15 hb hB hk
  replace ha := TimesIn.kept ha hk
  replace hc := TimesIn.kept hc hk
  clear hk
  clear ha
  go_wp2_with fail
  have hq := weigh_right_calls hc
  rw [HR2.out] at hq
  refine hq.stepB (w0 := w) (B := w.heap.size) hb hB ?_
  clear hb hB hq
  intro w16 hb hB hk
  replace hc := TimesIn.kept hc hk
  clear hk
  clear hc
  go_wp2
  go_ret
  exact ⟨rfl, hb⟩

set_option maxHeartbeats 2000000 in
theorem weighGroup_calls {w : World} {v1 v2 v3 : Value} {l m o : List Tm} (hl : TimesIn w v1 l) (hm : TimesIn w v2 m) (ho : TimesIn w v3 o) : GivesAt Try.prog 5 #[v1, v2, v3] w (.bool true) := by
  cases sl : smallW l with
  | true =>
    cases sm : smallW m with
    | true =>
      cases so : smallW o with
      | true => exact weighGroup_short hl hm ho sl sm so
      | false =>
        obtain ⟨hb, hB⟩ := start w
        have hsl := small_calls hl
        rw [sl] at hsl
        have hsm := small_calls hm
        rw [sm] at hsm
        have hso := small_calls ho
        rw [so] at hso
        obtain ⟨A0, p0, rfl⟩ := times_slice hl
        obtain ⟨A00, p00, rfl⟩ := times_slice hm
        obtain ⟨A000, p000, rfl⟩ := times_slice ho
        clear hl hm ho sl sm so
        unfold GivesAt
        go_enter Try.func5, Try.ntmps5
        go_wp2_with fail
        refine (hsl).step ?_
        clear hsl
        go_wp2_with fail
        refine (hsm).step ?_
        clear hsm
        go_wp2_with fail
        refine (hso).step ?_
        clear hso
        go_wp2_with (go_at_call 9; refine awake_calls.step (w0 := w) (B := w.heap.size) hb hB ?_; clear hb hB; intro w' hb hB)
        go_ret
        exact ⟨rfl, hb⟩
    | false =>
      obtain ⟨hb, hB⟩ := start w
      have hsl := small_calls hl
      rw [sl] at hsl
      have hsm := small_calls hm
      rw [sm] at hsm
      obtain ⟨A0, p0, rfl⟩ := times_slice hl
      obtain ⟨A00, p00, rfl⟩ := times_slice hm
      obtain ⟨A000, p000, rfl⟩ := times_slice ho
      clear hl hm ho sl sm
      unfold GivesAt
      go_enter Try.func5, Try.ntmps5
      go_wp2_with fail
      refine (hsl).step ?_
      clear hsl
      go_wp2_with fail
      refine (hsm).step ?_
      clear hsm
      go_wp2_with (go_at_call 9; refine awake_calls.step (w0 := w) (B := w.heap.size) hb hB ?_; clear hb hB; intro w' hb hB)
      go_ret
      exact ⟨rfl, hb⟩
  | false =>
    obtain ⟨hb, hB⟩ := start w
    have hsl := small_calls hl
    rw [sl] at hsl
    obtain ⟨A0, p0, rfl⟩ := times_slice hl
    obtain ⟨A00, p00, rfl⟩ := times_slice hm
    obtain ⟨A000, p000, rfl⟩ := times_slice ho
    clear hl hm ho sl
    unfold GivesAt
    go_enter Try.func5, Try.ntmps5
    go_wp2_with fail
    refine (hsl).step ?_
    clear hsl
    go_wp2_with (go_at_call 9; refine awake_calls.step (w0 := w) (B := w.heap.size) hb hB ?_; clear hb hB; intro w' hb hB)
    go_ret
    exact ⟨rfl, hb⟩
end Go.Proofs.Ytoamnoafamoldaa
