/- The law WeighTells. -/
import Derived.Test.YtoamnoafamoldaaGWeighSmall
import Derived.Test.YtoamnoafamoldaaGZWeighLaws
namespace Go.Proofs.Ytoamnoafamoldaa
open Go Go.RowKit

/-- The literal of one row for 'small'. -/
theorem lit_one (w : World) (T : TypeId) {Ar : Option Addr} {pr : Nat} {row : List ByteArray} (n : Int) (h : StrsIn w (.slice Ar row.length pr) row) : TimesIn (w.alloc (.cells #[.slice Ar row.length pr, .int .i64 n] T)) (.slice (some ⟨w.heap.size, 0, none⟩) 1 1) [(row, n)] :=
  lit_times w T [(.slice Ar row.length pr, n)] [(row, n)] ⟨⟨h, rfl⟩, trivial⟩ (by show 1 ≤ 1000; decide)

set_option maxHeartbeats 4000000 in
set_option maxRecDepth 100000 in
theorem weighTells_calls {w : World} {v u : Value} {l : List Tm} {row : List ByteArray} (hl : TimesIn w v l) (hr : StrsIn w u row) : GivesAt Try.prog 3 #[v, u] w (.bool true) := by
  have hsl := small_calls hl
  obtain ⟨hb, hB⟩ := start w
  obtain ⟨A0, p0, rfl⟩ := times_slice hl
  obtain ⟨Ar, pr, rfl, _⟩ := one_at hr
  unfold GivesAt
  cases sl : smallW l with
  | false =>
    rw [sl] at hsl
    clear sl hl hr
    go_enter Try.func3, Try.ntmps3
    go_wp2_with fail
    refine (hsl).step ?_
    clear hsl
    go_wp2_with (go_at_call 9; refine awake_calls.step (w0 := w) (B := w.heap.size) hb hB ?_; clear hb hB; intro w' hb hB)
    go_ret
    exact ⟨rfl, hb⟩
  | true =>
    rw [sl] at hsl
    have hsr := small_calls (lit_one w 26 0 hr)
    cases sr : smallW [(row, (0 : Int))] with
    | false =>
      rw [sr] at hsr
      clear sl sr hl hr
      go_enter Try.func3, Try.ntmps3
      go_wp2_with fail
      refine (hsl).step ?_
      clear hsl
      go_wp2_with fail
      refine (hsr).step ?_
      clear hsr
      go_wp2_with (go_at_call 9; refine awake_calls.step (w0 := w) (B := w.heap.size) (below_alloc hb hB _).1 (below_alloc hb hB _).2 ?_; clear hb hB; intro w' hb hB)
      go_ret
      exact ⟨rfl, hb⟩
    | true =>
      rw [sr] at hsr
      have hn := (smallW_of sl).1
      have hwt := small_wt sl
      have HSH := Lib.hid (short_small sl)
      have hol := of_length l
      have hml := Nat.le_of_eq (minus_length l)
      clear sl sr
      go_enter Try.func3, Try.ntmps3
      go_wp2_with fail
      refine (hsl).step ?_
      clear hsl
      go_wp2_with fail
      refine (hsr).step ?_
      clear hsr
      have hq0 := (Below.refl w.heap.size w).alloc (Nat.le_refl _) (.cells #[.slice Ar row.length pr, .int .i64 0] 26)
      replace hl := hl.kept hq0
      replace hr := hr.kept hq0
      replace hb := (below_alloc hb hB (.cells #[.slice Ar row.length pr, .int .i64 0] 26)).1
      replace hB := hb.size
      clear hq0
      generalize w.alloc (.cells #[.slice Ar row.length pr, .int .i64 0] 26) = wa at *
      go_wp2_with fail
      have hq := awake_calls.at_ wa
      refine hq.stepB (w0 := w) (B := w.heap.size) hb hB ?_
      clear hb hB hq
      intro w1 hb hB hk
      replace hl := TimesIn.kept hl hk
      replace hr := StrsIn.kept hr hk
      clear hk
      go_wp2_with fail
      have hq := weigh_of_calls hl (by omega) (by omega) HSH.out
      refine hq.stepB (w0 := w) (B := w.heap.size) hb hB ?_
      clear hb hB hq
      intro v2 w2 h1 hb hB hk
      replace hl := TimesIn.kept hl hk
      replace hr := StrsIn.kept hr hk
      clear hk
      obtain ⟨A2, p2, rfl⟩ := times_slice h1
      go_wp2_with fail
      have hq := ref_weigh_of_calls hl (by omega) (by omega)
      refine hq.stepB (w0 := w) (B := w.heap.size) hb hB ?_
      clear hb hB hq
      intro v3 w3 h2 hb hB hk
      replace hl := TimesIn.kept hl hk
      replace hr := StrsIn.kept hr hk
      replace h1 := TimesIn.kept h1 hk
      clear hk
      obtain ⟨A3, p3, rfl⟩ := times_slice h2
      go_wp2_with fail
      have hq := same_times h1 h2 (by omega) HSH.out.of HSH.out.of
      rw [decide_eq_true rfl] at hq
      refine hq.stepB (w0 := w) (B := w.heap.size) hb hB ?_
      clear hb hB hq
      intro w4 hb hB hk
      replace hl := TimesIn.kept hl hk
      replace hr := StrsIn.kept hr hk
      replace h1 := TimesIn.kept h1 hk
      replace h2 := TimesIn.kept h2 hk
      clear hk
      clear h1 h2
      go_wp2_with fail
      have hq := weigh_minus_calls hl (by omega) (by omega) HSH.out
      refine hq.stepB (w0 := w) (B := w.heap.size) hb hB ?_
      clear hb hB hq
      intro v5 w5 h1 hb hB hk
      replace hl := TimesIn.kept hl hk
      replace hr := StrsIn.kept hr hk
      clear hk
      obtain ⟨A5, p5, rfl⟩ := times_slice h1
      go_wp2_with fail
      have hq := ref_weigh_minus_calls hl (by omega) (by omega)
      refine hq.stepB (w0 := w) (B := w.heap.size) hb hB ?_
      clear hb hB hq
      intro v6 w6 h2 hb hB hk
      replace hl := TimesIn.kept hl hk
      replace hr := StrsIn.kept hr hk
      replace h1 := TimesIn.kept h1 hk
      clear hk
      obtain ⟨A6, p6, rfl⟩ := times_slice h2
      go_wp2_with fail
      have hq := same_times h1 h2 (by omega) HSH.out.minus HSH.out.minus
      rw [decide_eq_true rfl] at hq
      refine hq.stepB (w0 := w) (B := w.heap.size) hb hB ?_
      clear hb hB hq
      intro w7 hb hB hk
      replace hl := TimesIn.kept hl hk
      replace hr := StrsIn.kept hr hk
      replace h1 := TimesIn.kept h1 hk
      replace h2 := TimesIn.kept h2 hk
      clear hk
      clear h1 h2
      go_wp2_with fail
      have hq := weigh_right_calls hl
      refine hq.stepB (w0 := w) (B := w.heap.size) hb hB ?_
      clear hb hB hq
      intro w8 hb hB hk
      replace hl := TimesIn.kept hl hk
      replace hr := StrsIn.kept hr hk
      clear hk
      go_wp2_with fail
      have hq := ref_weigh_right_calls hl
      refine hq.stepB (w0 := w) (B := w.heap.size) hb hB ?_
      clear hb hB hq
      intro w9 hb hB hk
      replace hl := TimesIn.kept hl hk
      replace hr := StrsIn.kept hr hk
      clear hk
      go_wp2_with fail
      generalize rightW l = b1 at *
      have hq := weigh_whole_calls hl
      refine hq.stepB (w0 := w) (B := w.heap.size) hb hB ?_
      clear hb hB hq
      intro w10 hb hB hk
      replace hl := TimesIn.kept hl hk
      replace hr := StrsIn.kept hr hk
      clear hk
      go_wp2_with fail
      have hq := ref_weigh_whole_calls hl
      refine hq.stepB (w0 := w) (B := w.heap.size) hb hB ?_
      clear hb hB hq
      intro w11 hb hB hk
      replace hl := TimesIn.kept hl hk
      replace hr := StrsIn.kept hr hk
      clear hk
      go_wp2_with fail
      generalize wholeW l = b2 at *
      have hq := weigh_find_calls hl hr (by omega)
      refine hq.stepB (w0 := w) (B := w.heap.size) hb hB ?_
      clear hb hB hq
      intro w12 hb hB hk
      replace hl := TimesIn.kept hl hk
      replace hr := StrsIn.kept hr hk
      clear hk
      go_wp2_with fail
      have hq := ref_weigh_find_calls hl hr (by omega)
      refine hq.stepB (w0 := w) (B := w.heap.size) hb hB ?_
      clear hb hB hq
      intro w13 hb hB hk
      replace hl := TimesIn.kept hl hk
      replace hr := StrsIn.kept hr hk
      clear hk
      clear hl hr
      generalize cntW l row = c at *
      go_wp2
      go_ret
      exact ⟨ret_bool (by simp), hb⟩

end Go.Proofs.Ytoamnoafamoldaa
