/- The walk of the document's examples of layer 10. -/
import Derived.Test.YtoamnoafamoldaaGWeighSmall
import Derived.Test.YtoamnoafamoldaaGZSliceKit
import Derived.Test.YtoamnoafamoldaaGZWeighCalls
namespace Go.Proofs.Ytoamnoafamoldaa
open Go Go.RowKit

set_option maxHeartbeats 4000000 in
set_option maxRecDepth 100000 in
theorem awake_calls : Gives Try.prog 9 #[] (.bool true) := by
  intro w
  obtain ⟨hb, hB⟩ := start w
  go_enter Try.func9, Try.ntmps9
  go_wp2_with fail
  refine (at_calls _ ⟨#[116, 98]⟩ 2).mono ?_
  rintro e w1 ⟨A1, p1, rfl, h1, hk⟩
  replace hb := hb.trans (hk.mono hB)
  replace hB := hb.size
  clear hk
  go_wp2_with fail
  refine (at_calls _ ⟨#[116, 97]⟩ 1).mono ?_
  rintro e w2 ⟨A2, p2, rfl, h2, hk⟩
  replace hb := hb.trans (hk.mono hB)
  replace hB := hb.size
  replace h1 := StrsIn.kept h1 hk
  clear hk
  go_wp2_with fail
  refine (at_calls _ ⟨#[116, 98]⟩ (-2)).mono ?_
  rintro e w3 ⟨A3, p3, rfl, h3, hk⟩
  replace hb := hb.trans (hk.mono hB)
  replace hB := hb.size
  replace h1 := StrsIn.kept h1 hk
  replace h2 := StrsIn.kept h2 hk
  clear hk
  go_wp2_with fail
  refine (at_calls _ ⟨#[116, 99]⟩ (-1)).mono ?_
  rintro e w4 ⟨A4, p4, rfl, h4, hk⟩
  replace hb := hb.trans (hk.mono hB)
  replace hB := hb.size
  replace h1 := StrsIn.kept h1 hk
  replace h2 := StrsIn.kept h2 hk
  replace h3 := StrsIn.kept h3 hk
  clear hk
  go_wp2_with fail
  have hq := weigh_of_calls (lit_times w4 26 [(.slice A1 1 p1, 2), (.slice A2 1 p2, 1), (.slice A3 1 p3, -2), (.slice A4 1 p4, -1)] [([cTb], 2), ([cTa], 1), ([cTb], -2), ([cTc], -1)] ⟨⟨h1, rfl⟩, ⟨h2, rfl⟩, ⟨h3, rfl⟩, ⟨h4, rfl⟩, trivial⟩ (by show 4 ≤ 1000; decide)) (by show 4 ≤ 1000000; decide) (by show 6 ≤ 4611686018427387904; decide) (short_lit _ (by decide))
  rw [aw_of] at hq
  refine hq.stepB (w0 := w) (B := w.heap.size) (below_alloc hb hB _).1 (below_alloc hb hB _).2 ?_
  clear hb hB hq h1 h2 h3 h4
  intro vl w5 hl hb hB _
  obtain ⟨bl, ol, cl, rfl⟩ := times_some hl (by show 0 < 2; decide)
  go_wp2_with fail
  refine (at_calls _ ⟨#[116, 99]⟩ 1).mono ?_
  rintro e w6 ⟨A6, p6, rfl, h6, hk⟩
  replace hb := hb.trans (hk.mono hB)
  replace hB := hb.size
  replace hl := TimesIn.kept hl hk
  clear hk
  go_wp2_with fail
  have hq := weigh_sum_calls (TimesIn.kept hl ((Below.refl _ w6).alloc (Nat.le_refl _) (.cells #[.slice A6 1 p6, .int .i64 1] 26))) (lit_times w6 26 [(.slice A6 1 p6, 1)] [([cTc], 1)] ⟨⟨h6, rfl⟩, trivial⟩ (by show 1 ≤ 1000; decide)) (by show 3 ≤ 1000000; decide) (by show 3 ≤ 4611686018427387904; decide) (short_lit _ (by decide)) (short_lit _ (by decide))
  rw [aw_sum] at hq
  refine hq.stepB (w0 := w) (B := w.heap.size) (below_alloc hb hB _).1 (below_alloc hb hB _).2 ?_
  clear hb hB hq h6
  intro vs w7 hs hb hB hk
  replace hk := lit_below hk
  replace hl := TimesIn.kept hl hk
  clear hk
  obtain ⟨bs, os, cs, rfl⟩ := times_some hs (by show 0 < 1; decide)
  go_wp2_with fail
  have hq := weigh_minus_calls hl (by show 2 ≤ 1000000; decide) (by show 2 ≤ 4611686018427387904; decide) (short_lit _ (by decide))
  rw [aw_minus] at hq
  refine hq.stepB (w0 := w) (B := w.heap.size) hb hB ?_
  clear hb hB hq
  intro vm w8 hm hb hB hk
  replace hl := TimesIn.kept hl hk
  replace hs := TimesIn.kept hs hk
  clear hk
  obtain ⟨bm, om, cm, rfl⟩ := times_some hm (by show 0 < 2; decide)
  obtain ⟨r0, hr0, x0, _⟩ := times_cellAt hl 0 (by show 0 < 2; decide)
  obtain ⟨_, _, _, x1⟩ := times_cellAt hl 1 (by show 1 < 2; decide)
  obtain ⟨_, _, _, x2⟩ := times_cellAt hm 0 (by show 0 < 2; decide)
  obtain ⟨b0, o0, c0, rfl⟩ := strs_some hr0 (by show 0 < 1; decide)
  have x3 : w8.cell? ⟨b0, o0, none⟩ = some (.string ⟨#[116, 97]⟩) := SliceOf.cellAt hr0 (by show 0 < 1; decide) 0 _ rfl
  have x0' : w8.cell? ⟨bl, ol, none⟩ = some (.slice (some ⟨b0, o0, none⟩) 1 c0) := x0
  have x1' : w8.cell? ⟨bl, ol + 2 + 1, none⟩ = some (.int .i64 (-1)) := x1
  have x2' : w8.cell? ⟨bm, om + 1, none⟩ = some (.int .i64 (-1)) := x2
  clear hr0 x0 x1 x2 hm
  go_wp2_with fail
  clear x0' x1' x2' x3
  -- Right(l)
  have hq := weigh_right_calls hl
  rw [aw_rightW] at hq
  refine hq.stepB (w0 := w) (B := w.heap.size) hb hB ?_
  clear hb hB hq
  intro w9 hb hB hk
  replace hl := TimesIn.kept hl hk
  replace hs := TimesIn.kept hs hk
  clear hk
  go_wp2_with fail
  -- Whole(l)
  have hq := weigh_whole_calls hl
  rw [aw_whole1] at hq
  refine hq.stepB (w0 := w) (B := w.heap.size) hb hB ?_
  clear hb hB hq
  intro w10 hb hB hk
  replace hl := TimesIn.kept hl hk
  replace hs := TimesIn.kept hs hk
  clear hk
  go_wp2_with fail
  -- Whole(s)
  have hq := weigh_whole_calls hs
  rw [aw_whole2] at hq
  refine hq.stepB (w0 := w) (B := w.heap.size) hb hB ?_
  clear hb hB hq
  intro w11 hb hB hk
  replace hl := TimesIn.kept hl hk
  replace hs := TimesIn.kept hs hk
  clear hk
  go_wp2_with fail
  -- Find(l, tc)
  have hq := weigh_find_calls (TimesIn.kept hl ((Below.refl _ w11).alloc (Nat.le_refl _) (.cells #[.string ⟨#[116, 99]⟩] 9))) (lit_strs w11 9 [cTc] (by decide)) (by show 2 ≤ 4611686018427387904; decide)
  rw [aw_find1] at hq
  refine hq.stepB (w0 := w) (B := w.heap.size) (below_alloc hb hB _).1 (below_alloc hb hB _).2 ?_
  clear hb hB hq
  intro w12 hb hB hk
  replace hk := lit_below hk
  replace hl := TimesIn.kept hl hk
  clear hk
  go_wp2_with fail
  -- Find(l, nil)
  have hq := weigh_find_calls hl (row := []) (SliceOf.nil_ w12 1 none 0) (by show 2 ≤ 4611686018427387904; decide)
  rw [aw_find2] at hq
  refine hq.stepB (w0 := w) (B := w.heap.size) hb hB ?_
  clear hb hB hq
  intro w13 hb hB hk
  replace hl := TimesIn.kept hl hk
  clear hk
  go_wp2_with fail
  refine (at_calls _ ⟨#[116, 98]⟩ 1).mono ?_
  rintro e w14 ⟨A14, p14, rfl, h14, hk⟩
  replace hb := hb.trans (hk.mono hB)
  replace hB := hb.size
  clear hk
  go_wp2_with fail
  refine (at_calls _ ⟨#[116, 97]⟩ 1).mono ?_
  rintro e w15 ⟨A15, p15, rfl, h15, hk⟩
  replace hb := hb.trans (hk.mono hB)
  replace hB := hb.size
  replace h14 := StrsIn.kept h14 hk
  clear hk
  go_wp2_with fail
  -- Right(tb ta)
  have hq := weigh_right_calls (lit_times w15 26 [(.slice A14 1 p14, 1), (.slice A15 1 p15, 1)] [([cTb], 1), ([cTa], 1)] ⟨⟨h14, rfl⟩, ⟨h15, rfl⟩, trivial⟩ (by show 2 ≤ 1000; decide))
  rw [aw_right2] at hq
  refine hq.stepB (w0 := w) (B := w.heap.size) (below_alloc hb hB _).1 (below_alloc hb hB _).2 ?_
  clear hb hB hq
  intro w16 hb hB hk
  replace hk := lit_below hk
  clear hk
  go_wp2_with fail
  refine (at_calls _ ⟨#[116, 97]⟩ 0).mono ?_
  rintro e w17 ⟨A17, p17, rfl, h17, hk⟩
  replace hb := hb.trans (hk.mono hB)
  replace hB := hb.size
  clear hk
  go_wp2_with fail
  -- Right(0)
  have hq := weigh_right_calls (lit_times w17 26 [(.slice A17 1 p17, 0)] [([cTa], 0)] ⟨⟨h17, rfl⟩, trivial⟩ (by show 1 ≤ 1000; decide))
  rw [aw_right3] at hq
  refine hq.stepB (w0 := w) (B := w.heap.size) (below_alloc hb hB _).1 (below_alloc hb hB _).2 ?_
  clear hb hB hq
  intro w18 hb hB hk
  replace hk := lit_below hk
  clear hk
  go_wp2_with fail
  refine (at_calls _ ⟨#[116, 97]⟩ 0).mono ?_
  rintro e w19 ⟨A19, p19, rfl, h19, hk⟩
  replace hb := hb.trans (hk.mono hB)
  replace hB := hb.size
  clear hk
  go_wp2_with fail
  have hq := weigh_put_calls (TimesIn.nil_ w19 none 0) RightP.nil h19 (n := 0) (by decide) (by decide) ShortR.nil (by show 1 ≤ 1000000; decide)
  rw [aw_put] at hq
  refine hq.stepB (w0 := w) (B := w.heap.size) hb hB ?_
  clear hb hB hq
  intro vp w20 hp hb hB _
  obtain ⟨Ap, cp, rfl⟩ := times_slice hp
  go_wp2
  go_ret
  exact ⟨rfl, hb⟩
end Go.Proofs.Ytoamnoafamoldaa
