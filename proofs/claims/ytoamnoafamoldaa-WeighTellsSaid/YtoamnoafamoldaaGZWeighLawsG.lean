/- The law WeighTwice. -/
import Derived.Test.YtoamnoafamoldaaGZWeighLawsE
namespace Go.Proofs.Ytoamnoafamoldaa
open Go Go.RowKit

theorem dbl_length (l : List Tm) : (dblW l).length = l.length := List.length_map _
theorem dbl_get (l : List Tm) (k : Nat) (h : k < l.length) (h2 : k < (dblW l).length) : (dblW l)[k]'h2 = (l[k].1, 2 * l[k].2) := by
  have e : (dblW l)[k]? = some (l[k].1, 2 * l[k].2) := by unfold dblW; rw [List.getElem?_map, List.getElem?_eq_getElem h]; rfl
  exact (List.getElem?_eq_some_iff.1 e).2
theorem cnt_put_here (l : List Tm) (row : List ByteArray) (n : Int) : cntW (putW l (row, n)) row = cntW l row + n := by rw [cntW_put, if_pos rfl]

set_option maxHeartbeats 8000000 in
set_option maxRecDepth 100000 in
theorem weighTwice_short {w : World} {v1 : Value} {Ar : Option Addr} {pr : Nat} {l : List Tm} {row : List ByteArray} {n : Int} (hl : TimesIn w v1 l) (hx : StrsIn w (.slice Ar row.length pr) row)
    (sl : smallW l = true) (sx : smallW [(row, n)] = true) : GivesAt Try.prog 7 #[v1, .agg #[.slice Ar row.length pr, .int .i64 n]] w (.bool true) := by
  obtain ⟨hb, hB⟩ := start w
  have hbox := box_tm w 26 (.slice Ar row.length pr) n
  have hq0 := (Below.refl w.heap.size w).alloc (Nat.le_refl _) (.cells #[.slice Ar row.length pr, .int .i64 n] 26)
  replace hl := hl.kept hq0
  replace hx := hx.kept hq0
  have hb1 := hb.trans hq0
  obtain ⟨A0, p0, rfl⟩ := times_slice hl
  have n1 := (smallW_of sl).1
  have t1 := small_wt sl
  have hs := small_one sx
  have HRL := Lib.hid (show row.length ≤ 1000000 by omega)
  have HS0 := Lib.hid (short_small sl)
  have HS1 := Lib.hid (short_small sl).of
  have HSD := Lib.hid (sum_self l)
  have q1 : (ofW l).length ≤ 100 := Nat.le_trans (of_length l) n1
  have q3 : wtW (ofW l) ≤ 109951162777600 := Nat.le_trans (wt_of l) t1
  have hcl := cnt_le (ofW l) row
  have HRO := Lib.hid (of_right l)
  clear hq0 hb hB
  unfold GivesAt
  go_enter Try.func7, Try.ntmps7
  go_wp2_with fail
  generalize w.alloc (.cells #[.slice Ar row.length pr, .int .i64 n] 26) = w1 at *
  have hb := hb1
  have hB := hb.size
  clear hb1
  have hsl := small_calls hl
  have hsx := small_calls (lit_one' w1 26 n hx)
  rw [sl] at hsl
  rw [sx] at hsx
  clear sl sx
  obtain ⟨y0, y1, _, _⟩ := BoxOf.cells hbox
  refine hsl.step ?_
  clear hsl
  go_wp2_with fail
  refine hsx.step ?_
  clear hsx
  have hq0 := (Below.refl w1.heap.size w1).alloc (Nat.le_refl _) (.cells #[.slice Ar row.length pr, .int .i64 n] 26)
  replace hl := hl.kept hq0
  replace hx := hx.kept hq0
  replace y0 := cell_kept y0 hq0
  replace y1 := cell_kept y1 hq0
  replace hb := hb.trans (hq0.mono hB)
  replace hB := hb.size
  clear hq0 hbox
  generalize w1.alloc (.cells #[.slice Ar row.length pr, .int .i64 n] 26) = w2 at *
  go_wp2_with fail
  have hq := weigh_of_calls hl (by omega) (by omega) HS0.out
  refine hq.stepB (w0 := w) (B := w.heap.size) hb hB ?_
  clear hb hB hq
  intro vo w3 ho hb hB hk
  replace hl := hl.kept hk
  replace hx := hx.kept hk
  replace y0 := cell_kept y0 hk
  replace y1 := cell_kept y1 hk
  clear hk
  obtain ⟨Ao, po, rfl⟩ := times_slice ho
  go_wp2_with fail
  have hq := weigh_sum_calls hl hl (by omega) (by omega) HS0.out HS0.out
  rw [HSD.out] at hq
  refine hq.stepB (w0 := w) (B := w.heap.size) hb hB ?_
  clear hb hB hq
  intro vd w4 hd hb hB hk
  replace hx := hx.kept hk
  replace ho := ho.kept hk
  replace y0 := cell_kept y0 hk
  replace y1 := cell_kept y1 hk
  clear hk hl HSD
  generalize ofW l = o at *
  obtain ⟨Ad, pd, rfl⟩ := times_slice hd
  rw [dbl_length] at hd
  rw [dbl_length]
  have HX := Lib.hid hx
  have HO := Lib.hid ho
  have HD := Lib.hid hd
  have HY0 := Lib.hid y0
  have HY1 := Lib.hid y1
  have HB0 := Lib.hid hb
  have HWO := Lib.hid (fun t (ht : t ∈ o) => wt_mem ht)
  clear hx ho hd y0 y1 hb hB
  go_wp2
  go_loopw [7] (fun i wr => ∃ k : Nat, k ≤ o.length ∧ i = .int .i64 k ∧ Below w4.heap.size w4 wr) (fun i _ => o.length - (intOf i).toNat)
  case atStart => exact ⟨0, Nat.zero_le _, rfl, .refl _ _⟩
  case round =>
    obtain ⟨k, hk, rfl, hb⟩ := hrel
    by_cases hlt : k < o.length
    · obtain ⟨b1, o1, c1, e1⟩ := times_some HO.out (Nat.lt_of_le_of_lt (Nat.zero_le k) hlt)
      obtain ⟨b2, o2, c2, e2⟩ := times_some HD.out (by rw [dbl_length]; exact Nat.lt_of_le_of_lt (Nat.zero_le k) hlt)
      rw [dbl_length] at e2
      cases e1
      cases e2
      obtain ⟨r1, hs1, x11, x12⟩ := times_cellAt (TimesIn.kept HO.out hb) k hlt
      obtain ⟨r2, hs2, x21, x22⟩ := times_cellAt (TimesIn.kept HD.out hb) k (by rw [dbl_length]; exact hlt)
      rw [dbl_get o k hlt] at hs2 x22
      dsimp only at hs2 x22
      have hn := HWO.out _ (List.getElem_mem hlt)
      have HQ := Lib.hid (fun w' (hw : Below wr.heap.size wr w') => ref_compare_calls (StrsIn.kept hs2 hw) (StrsIn.kept hs1 hw))
      have hz := cmpL_self o[k].1
      rw [hz] at HQ
      have a11 := fun d os => cell_regrown x11 d os
      have a12 := fun d os => cell_regrown x12 d os
      have a21 := fun d os => cell_regrown x21 d os
      have a22 := fun d os => cell_regrown x22 d os
      clear hs1 hs2 x11 x12 x21 x22 hz
      generalize o[k].2 = m at *
      have q2 : IntKind.i64.wrap (2 * m) = 2 * m := IntWalk.i64_in _ (by omega)
      have d1 : (2 * m == 2 * m) = true := by simp
      have d2 : (2 * m != 2 * m) = false := by simp
      go_wp2
      refine wp_region_quiet_below (by kernel_rfl) (by kernel_rfl) ?_
      repeat (first | go_big_quiet_skip | (go_big_quiet_want; go_big_quiet_op; first | go_big_quiet_on | (apply Exists.intro; refine ⟨fun _ => ?_, ?_⟩; (first | (go_at_call 25; exact Calls.regrown_of (HQ.out _ (below_regrown wr _ _)))); go_big_quiet_on)))
      refine wpQuiet_nil ?_
      rintro w5 ⟨p, hw3⟩
      have hb2 : Below wr.heap.size wr w5 := hw3 ▸ below_regrown wr p.d p.os
      clear hw3 a11 a12 a21 a22 HQ
      replace hb := hb.trans (hb2.mono hb.size)
      clear hb2
      go_wp2
      go_roundw
      case rel => exact ⟨k + 1, by omega, by go_num, hb⟩
      case measure => simp [intOf]; omega
    · obtain rfl : k = o.length := by omega
      have hO := TimesIn.kept HO.out hb
      have hX := StrsIn.kept HX.out hb
      have y0 := cell_kept HY0.out hb
      have y1 := cell_kept HY1.out hb
      have hbw := HB0.out.trans (hb.mono HB0.out.size)
      have hBw := hbw.size
      clear hb hlt hk HO HX HY0 HY1 HB0 HD HWO
      have hf := weigh_find_calls hO hX (by omega)
      have HPG := Lib.hid (put_gone o row)
      have HPH := Lib.hid (cnt_put_here o row n)
      have HPR := Lib.hid (HRO.out.put (row, - cntW o row))
      have q6 := put_length o (row, - cntW o row)
      have q7 := wtW_put o (row, - cntW o row)
      have q8 := put_length o (row, n)
      have q9 := wtW_put o (row, n)
      dsimp only at q7 q9
      generalize hcc : cntW o row = c at *
      clear hcc
      have g1 : IntKind.i64.wrap (-c) = -c := IntWalk.i64_in _ (by omega)
      have g2 : IntKind.i64.wrap (c + n) = c + n := IntWalk.i64_in _ (by omega)
      go_wp2_with fail
      refine hf.stepB (w0 := w) (B := w.heap.size) hbw hBw ?_
      clear hbw hBw hf
      intro w6 hb hB hk
      replace hO := hO.kept hk
      replace hX := hX.kept hk
      replace y0 := cell_kept y0 hk
      replace y1 := cell_kept y1 hk
      clear hk
      go_wp2_with fail
      have hq := weigh_put_calls hO HRO.out hX (n := -c) (by omega) (by omega) HS1.out HRL.out
      refine hq.stepB (w0 := w) (B := w.heap.size) hb hB ?_
      clear hb hB hq
      intro vy w7 hy hb hB hk
      replace hO := hO.kept hk
      replace hX := hX.kept hk
      replace y0 := cell_kept y0 hk
      replace y1 := cell_kept y1 hk
      clear hk
      generalize putW o (row, -c) = y at *
      have HRY := Lib.hid (show rightW y = true from decide_eq_true HPR.out)
      obtain ⟨Ay, py, rfl⟩ := times_slice hy
      generalize hpx : putW o (row, n) = z at *
      have HO := Lib.hid hO
      have HX := Lib.hid hX
      have HYY := Lib.hid hy
      have HY0 := Lib.hid y0
      have HY1 := Lib.hid y1
      have HB0 := Lib.hid hb
      have HZ := Lib.hid hpx
      have HOO := Lib.hid (of_of_right HRO.out)
      have K1 := Lib.hid (show o.length ≤ 1000000 by omega)
      have K2 := Lib.hid (show wtW o ≤ 4611686018427387904 by omega)
      have K3 := Lib.hid (show wtW o + n.natAbs ≤ 4611686018427387904 by omega)
      have K4 := Lib.hid (show wtW y ≤ 4611686018427387904 by omega)
      have K5 := Lib.hid (show wtW z ≤ 4611686018427387904 by omega)
      clear hO hX hy hb hB hpx n1 t1 hs q1 q3 hcl q6 q7 q8 q9 g1 HPR
      go_wp2_with fail
      go_region_with (first | (go_at_call 9; refine awake_calls.step (w0 := w7) (B := w7.heap.size) ?_ ?_ ?_; exact Below.drew (.refl _ _); exact Nat.le_refl _; intro wa hq hB; have z0 := cell_kept HY0.out hq; have z1 := cell_kept HY1.out hq) | (go_at_call 11; have hqq := weigh_of_calls (HO.out.kept hq) K1.out K2.out HS1.out; rw [HOO.out] at hqq; refine hqq.stepB (w0 := w7) (B := w7.heap.size) hq hB ?_; clear hq hB hqq z0 z1; intro v8 w8 h8 hq hB _; obtain ⟨A8, p8, rfl⟩ := times_slice h8; have z0 := cell_kept HY0.out hq; have z1 := cell_kept HY1.out hq) | (go_at_call 10; have hqs := same_times h8 (HO.out.kept hq) K1.out HS1.out HS1.out; rw [decide_eq_true rfl] at hqs; refine hqs.step (w0 := w7) (B := w7.heap.size) hq hB ?_; clear hq hB hqs z0 z1; intro w9 hq hB; have z0 := cell_kept HY0.out hq; have z1 := cell_kept HY1.out hq) | (go_at_call 19; have hqs := weigh_find_calls h11 (HX.out.kept hq) K5.out; rw [HPH.out] at hqs; refine hqs.step (w0 := w7) (B := w7.heap.size) hq hB ?_; clear hq hB hqs z0 z1; intro w12 hq hB; have z0 := cell_kept HY0.out hq; have z1 := cell_kept HY1.out hq) | (go_at_call 19; have hqs := weigh_find_calls (HYY.out.kept hq) (HX.out.kept hq) K4.out; rw [HPG.out] at hqs; refine hqs.step (w0 := w7) (B := w7.heap.size) hq hB ?_; clear hq hB hqs z0 z1; intro w10 hq hB; have z0 := cell_kept HY0.out hq; have z1 := cell_kept HY1.out hq) | (go_at_call 15; have hqs := weigh_right_calls (HYY.out.kept hq); rw [HRY.out] at hqs; refine hqs.step (w0 := w7) (B := w7.heap.size) hq hB ?_; clear hq hB hqs z0 z1; intro w10b hq hB; have z0 := cell_kept HY0.out hq; have z1 := cell_kept HY1.out hq) | (go_at_call 21; have hqq := weigh_put_calls (HO.out.kept hq) HRO.out (HX.out.kept hq) (n := n) K1.out K3.out HS1.out HRL.out; rw [HZ.out] at hqq; refine hqq.stepB (w0 := w7) (B := w7.heap.size) hq hB ?_; clear hq hB hqq z0 z1; intro v11 w11 h11 hq hB _; obtain ⟨A11, p11, rfl⟩ := times_slice h11; have z0 := cell_kept HY0.out hq; have z1 := cell_kept HY1.out hq))
      all_goals
        go_wp2
        go_ret
        exact ⟨rfl, HB0.out.trans (hq.mono HB0.out.size)⟩
end Go.Proofs.Ytoamnoafamoldaa
