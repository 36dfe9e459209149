/- The law WeighSums. -/
import Derived.Test.YtoamnoafamoldaaGWeighRef
import Derived.Test.YtoamnoafamoldaaGWeighSmall
import Derived.Test.YtoamnoafamoldaaGZWeighLaws
import Derived.StillTailTactics
import Derived.Deep.RegionWith
namespace Go.Proofs.Ytoamnoafamoldaa
open Go Go.RowKit

theorem lit_one' (w : World) (T : TypeId) {Ar : Option Addr} {pr : Nat} {row : List ByteArray} (n : Int) (h : StrsIn w (.slice Ar row.length pr) row) : TimesIn (w.alloc (.cells #[.slice Ar row.length pr, .int .i64 n] T)) (.slice (some ⟨w.heap.size, 0, none⟩) 1 1) [(row, n)] :=
  lit_times w T [(.slice Ar row.length pr, n)] [(row, n)] ⟨⟨h, rfl⟩, trivial⟩ (by show 1 ≤ 1000; decide)
theorem small_one {row : List ByteArray} {n : Int} (h : smallW [(row, n)] = true) : row.length ≤ 10 ∧ n.natAbs ≤ 1099511627776 := by
  have := smallT_of ((smallW_of h).2 _ (List.mem_singleton.2 rfl))
  dsimp only at this
  omega

set_option maxHeartbeats 8000000 in
set_option maxRecDepth 100000 in
theorem weighSums_short {w : World} {v1 v2 : Value} {Ar : Option Addr} {pr : Nat} {l m : List Tm} {row : List ByteArray} {n : Int} (hl : TimesIn w v1 l) (hm : TimesIn w v2 m) (hx : StrsIn w (.slice Ar row.length pr) row)
    (sl : smallW l = true) (sm : smallW m = true) (sx : smallW [(row, n)] = true) : GivesAt Try.prog 4 #[v1, v2, .agg #[.slice Ar row.length pr, .int .i64 n]] w (.bool true) := by
  obtain ⟨hb, hB⟩ := start w
  have hbox := box_tm w 26 (.slice Ar row.length pr) n
  have hq0 := (Below.refl w.heap.size w).alloc (Nat.le_refl _) (.cells #[.slice Ar row.length pr, .int .i64 n] 26)
  replace hl := hl.kept hq0
  replace hm := hm.kept hq0
  replace hx := hx.kept hq0
  have hb1 := hb.trans hq0
  obtain ⟨A0, p0, rfl⟩ := times_slice hl
  obtain ⟨A00, p00, rfl⟩ := times_slice hm
  have n1 := (smallW_of sl).1
  have n2 := (smallW_of sm).1
  have t1 := small_wt sl
  have t2 := small_wt sm
  have hs := small_one sx
  have HRL := Lib.hid (show row.length ≤ 1000000 by omega)
  have HS1 := Lib.hid (short_small sl)
  have HS2 := Lib.hid (short_small sm)
  have q1 := of_length l
  have q2 := sum_length l m
  have q3 := wt_of l
  have q4 := put_length (ofW l) (row, n)
  have HRO := Lib.hid (of_right l)
  clear hq0 hb hB
  unfold GivesAt
  go_enter Try.func4, Try.ntmps4
  go_wp2_with fail
  generalize w.alloc (.cells #[.slice Ar row.length pr, .int .i64 n] 26) = w1 at *
  have hb := hb1
  have hB := hb.size
  clear hb1
  have hsl := small_calls hl
  have hsm := small_calls hm
  have hsx := small_calls (lit_one' w1 26 n hx)
  rw [sl] at hsl
  rw [sm] at hsm
  rw [sx] at hsx
  clear sl sm sx
  obtain ⟨y0, y1, _, _⟩ := BoxOf.cells hbox
  refine hsl.step ?_
  clear hsl
  go_wp2_with fail
  refine hsm.step ?_
  clear hsm
  go_wp2_with fail
  refine hsx.step ?_
  clear hsx
  have hq0 := (Below.refl w1.heap.size w1).alloc (Nat.le_refl _) (.cells #[.slice Ar row.length pr, .int .i64 n] 26)
  replace hl := hl.kept hq0
  replace hm := hm.kept hq0
  replace hx := hx.kept hq0
  replace y0 := cell_kept y0 hq0
  replace y1 := cell_kept y1 hq0
  replace hb := hb.trans (hq0.mono hB)
  replace hB := hb.size
  clear hq0 hbox
  generalize w1.alloc (.cells #[.slice Ar row.length pr, .int .i64 n] 26) = w2 at *
  go_wp2_with fail
  have hq := ref_weigh_of_calls hl (by omega) (by omega)
  refine hq.stepB (w0 := w) (B := w.heap.size) hb hB ?_
  clear hb hB hq
  intro vo w3 ho hb hB hk
  replace hl := hl.kept hk
  replace hm := hm.kept hk
  replace hx := hx.kept hk
  replace y0 := cell_kept y0 hk
  replace y1 := cell_kept y1 hk
  clear hk
  obtain ⟨Ao, po, rfl⟩ := times_slice ho
  have HL := Lib.hid hl
  have HM := Lib.hid hm
  have HX := Lib.hid hx
  have HO := Lib.hid ho
  have HY0 := Lib.hid y0
  have HY1 := Lib.hid y1
  have HB0 := Lib.hid hb
  clear hl hm hx ho hb hB
  go_wp2_with fail
  go_region_with (first | (go_at_call 9; refine awake_calls.step (w0 := w3) (B := w3.heap.size) ?_ ?_ ?_; exact Below.drew (.refl _ _); exact Nat.le_refl _; intro wa hq hB; have z0 := cell_kept HY0.out hq; have z1 := cell_kept HY1.out hq) | (go_at_call 21; refine GivesTimes.stepB (w0 := w3) (B := w3.heap.size) (weigh_put_calls (HO.out.kept hq) HRO.out (HX.out.kept hq) (by omega) (by omega) HS1.out.of HRL.out) hq hB ?_; clear hq hB z0 z1; intro v4 w4 h4 hq hB hkw4; obtain ⟨Aw4, pw4, rfl⟩ := times_slice h4; have z0 := cell_kept HY0.out hq; have z1 := cell_kept HY1.out hq) | (go_at_call 22; refine GivesTimes.stepB (w0 := w3) (B := w3.heap.size) (ref_weigh_put_calls (HO.out.kept hq) (HX.out.kept hq) (by omega) (by omega)) hq hB ?_; clear hq hB z0 z1; intro v5 w5 h5 hq hB hkw5; obtain ⟨Aw5, pw5, rfl⟩ := times_slice h5; have z0 := cell_kept HY0.out hq; have z1 := cell_kept HY1.out hq) | (go_at_call 23; refine GivesTimes.stepB (w0 := w3) (B := w3.heap.size) (weigh_sum_calls (HL.out.kept hq) (HM.out.kept hq) (by omega) (by omega) HS1.out HS2.out) hq hB ?_; clear hq hB z0 z1; intro v7 w7 h7 hq hB hkw7; obtain ⟨Aw7, pw7, rfl⟩ := times_slice h7; have z0 := cell_kept HY0.out hq; have z1 := cell_kept HY1.out hq) | (go_at_call 24; refine GivesTimes.stepB (w0 := w3) (B := w3.heap.size) (ref_weigh_sum_calls (HL.out.kept hq) (HM.out.kept hq) (by omega) (by omega)) hq hB ?_; clear hq hB z0 z1; intro v8 w8 h8 hq hB hkw8; obtain ⟨Aw8, pw8, rfl⟩ := times_slice h8; have z0 := cell_kept HY0.out hq; have z1 := cell_kept HY1.out hq) | (go_at_call 10; have hqs := same_times (TimesIn.kept h7 hkw8) h8 (by omega) (HS1.out.sum HS2.out) (HS1.out.sum HS2.out); rw [decide_eq_true rfl] at hqs; refine hqs.step (w0 := w3) (B := w3.heap.size) hq hB ?_; clear hq hB hqs z0 z1; intro w9 hq hB; have z0 := cell_kept HY0.out hq; have z1 := cell_kept HY1.out hq) | (go_at_call 10; have hqs := same_times (TimesIn.kept h4 hkw5) h5 (by omega) (HS1.out.of.put (by show row.length ≤ 1000000; omega)) (HS1.out.of.put (by show row.length ≤ 1000000; omega)); rw [decide_eq_true rfl] at hqs; refine hqs.step (w0 := w3) (B := w3.heap.size) hq hB ?_; clear hq hB hqs z0 z1; intro w6 hq hB; have z0 := cell_kept HY0.out hq; have z1 := cell_kept HY1.out hq))
  all_goals
    go_wp2
    go_ret
    exact ⟨rfl, HB0.out.trans (hq.mono HB0.out.size)⟩
end Go.Proofs.Ytoamnoafamoldaa
