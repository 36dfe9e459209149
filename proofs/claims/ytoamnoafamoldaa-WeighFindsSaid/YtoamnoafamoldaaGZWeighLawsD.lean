/- The law WeighFinds. -/
import Derived.Test.YtoamnoafamoldaaGWeighSmall
import Derived.Test.YtoamnoafamoldaaGZWeighLaws
namespace Go.Proofs.Ytoamnoafamoldaa
open Go Go.RowKit

def anyR (l : List Tm) (r : List ByteArray) : Bool := l.any fun t => decide (t.1 = r)
theorem anyR_take (l : List Tm) (r : List ByteArray) (k : Nat) (h : k < l.length) : anyR (l.take (k + 1)) r = (anyR (l.take k) r || decide (l[k].1 = r)) := by
  unfold anyR
  rw [take_add l k h, List.any_append]
  simp
theorem anyR_of {l : List Tm} {t : Tm} (h : t ∈ ofW l) : anyR l t.1 = true := by
  obtain ⟨u, hu, e⟩ := mem_of h
  unfold anyR
  rw [List.any_eq_true]
  exact ⟨u, hu, by rw [decide_eq_true_eq]; exact e⟩
theorem of_some (l : List Tm) : ∀ t ∈ ofW l, t.2 ≠ 0 := (of_right l).2

set_option maxHeartbeats 8000000 in
set_option maxRecDepth 100000 in
theorem weighFinds_short {w : World} {v : Value} {l : List Tm} (hl : TimesIn w v l) (sl : smallW l = true) : GivesAt Try.prog 6 #[v] w (.bool true) := by
  have hsl := small_calls hl
  rw [sl] at hsl
  obtain ⟨hb, hB⟩ := start w
  have n1 := (smallW_of sl).1
  have t1 := small_wt sl
  have n2 := of_length l
  have HWX := Lib.hid (Nat.le_trans (wt_of l) (Nat.le_trans t1 (by omega : 109951162777600 ≤ 4611686018427387904)))
  have HCW := Lib.hid (fun k r => cnt_le (l.take k) r)
  have HWT : Hid (∀ k, wtW (l.take k) ≤ 109951162777600) := by
    intro k
    have := wtW_append (l.take k) (l.drop k)
    rw [List.take_append_drop] at this; omega
  have HRX := Lib.hid (show rightW (ofW l) = true from decide_eq_true (of_right l))
  have HCNT := Lib.hid (cnt_of l)
  have HANY := Lib.hid (fun t (ht : t ∈ ofW l) => anyR_of ht)
  have HSOME := Lib.hid (of_some l)
  obtain ⟨A0, p0, rfl⟩ := times_slice hl
  have hq := weigh_of_calls hl (by omega) (by omega) (short_small sl)
  have HL := Lib.hid hl
  obtain ⟨tv, A0', p0', e0, _, hat⟩ := times_at hl
  cases e0
  have HAT := Lib.hid hat
  clear hl hat sl t1
  unfold GivesAt
  go_enter Try.func6, Try.ntmps6
  go_wp2_with fail
  refine hsl.step ?_
  clear hsl
  go_wp2_with fail
  refine hq.stepB (w0 := w) (B := w.heap.size) hb hB ?_
  clear hb hB hq
  intro vx w1 hx hb hB _
  obtain ⟨Ax, px, rfl⟩ := times_slice hx
  have HX := Lib.hid hx
  obtain ⟨tvx, Ax', px', ex, _, hatx⟩ := times_at hx
  cases ex
  have HATX := Lib.hid hatx
  have HB1 := Lib.hid hb
  clear hx hatx hb hB
  go_wp2
  go_loopw [4] (fun i wr => ∃ k : Nat, k ≤ l.length ∧ i = .int .i64 k ∧ Below w1.heap.size w1 wr) (fun i _ => l.length - (intOf i).toNat)
  case atStart => exact ⟨0, Nat.zero_le _, rfl, .refl _ _⟩
  case round =>
    obtain ⟨k, hk, rfl, hb⟩ := hrel
    by_cases hlt : k < l.length
    · obtain ⟨b, off, rfl, hbl, hc⟩ := HAT.out k hlt
      obtain ⟨rk, hsk, _, ck, _⟩ := hc k hlt
      have HCK := Lib.hid (fun w' (hq : Below w.heap.size w w') => (hq.cell (p := ⟨b, off + k * 2, none⟩) hbl).trans ck)
      have HSK := Lib.hid hsk
      have HCC := Lib.hid hc
      clear hc ck hsk
      generalize l[k].1 = row at *
      obtain ⟨wo, hwo⟩ : ∃ wo, wo = wr := ⟨_, rfl⟩
      subst hwo
      have hbo := hb
      clear hb
      go_wp2
      go_loopw [5, 6] (fun n i wr => ∃ q : Nat, q ≤ l.length ∧ i = .int .i64 q ∧ n = .int .i64 (cntW (l.take q) row) ∧ Below w1.heap.size w1 wr) (fun _ i _ => l.length - (intOf i).toNat)
      case atStart => exact ⟨0, Nat.zero_le _, rfl, rfl, hbo⟩
      case round =>
        clear hbo
        obtain ⟨q, hq, rfl, rfl, hb⟩ := hrel
        have hbw := HB1.out.trans (hb.mono HB1.out.size)
        by_cases hql : q < l.length
        · obtain ⟨rq, hsq, _, cq, cn⟩ := HCC.out q hql
          have x1 := (hbw.cell (p := ⟨b, off + q * 2, none⟩) hbl).trans cq
          have x3 := HCK.out _ hbw
          have HX2 := Lib.hid (fun w' (hq : Below w.heap.size w w') => (hq.cell (p := ⟨b, off + q * 2 + 1, none⟩) hbl).trans cn)
          have a1 := fun d os => cell_regrown x1 d os
          have a3 := fun d os => cell_regrown x3 d os
          have HQ := Lib.hid (fun w' (hw : Below w.heap.size w w') => ref_compare_calls (StrsIn.kept hsq hw) (StrsIn.kept HSK.out hw))
          have HT := Lib.hid (cnt_take l row q hql)
          have h1 := HCW.out q row
          have h2 := HWT.out q
          have h3 := HCW.out (q + 1) row
          have h4 := HWT.out (q + 1)
          rw [HT.out] at h3
          have hz := cmpL_zero l[q].1 row
          have HQB := Lib.hid hbw
          clear cq cn hsq x1 x3 hbw
          generalize l[q] = t at *
          obtain ⟨r, n⟩ := t
          dsimp only at *
          generalize cntW (l.take q) row = c at *
          by_cases he : r = row
          · have d1 : (cmpL r row == 0) = true := by rw [beq_iff_eq]; exact hz.2 he
            rw [if_pos he] at h3
            have HT1 : Hid (cntW (l.take (q + 1)) row = c + n) := by show _ = _; rw [HT.out, if_pos he]
            have q2 : IntKind.i64.wrap (c + n) = c + n := IntWalk.i64_in _ (by omega)
            clear HT he hz
            generalize cmpL r row = z at *
            go_wp2
            refine wp_region_quiet_below (by kernel_rfl) (by kernel_rfl) ?_
            repeat (first | go_big_quiet_skip | (go_big_quiet_want; go_big_quiet_op; first | go_big_quiet_on | (apply Exists.intro; refine ⟨fun _ => ?_, ?_⟩; (first | (go_at_call 25; exact Calls.regrown_of (HQ.out _ (HQB.out.trans ((below_regrown wr _ _).mono HQB.out.size))))); go_big_quiet_on)))
            refine wpQuiet_nil ?_
            rintro w3 ⟨p, hw3⟩
            have hb2 : Below wr.heap.size wr w3 := hw3 ▸ below_regrown wr p.d p.os
            clear hw3 a1 a3 HQ
            replace hb := hb.trans (hb2.mono hb.size)
            clear hb2 HQB
            have x2 := HX2.out w3 (HB1.out.trans (hb.mono HB1.out.size))
            go_wp2
            go_roundw
            case rel => exact ⟨q + 1, by omega, by go_num, by rw [HT1.out], hb⟩
            case measure => simp [intOf]; omega
          · have d1 : (cmpL r row == 0) = false := by rw [beq_eq_false_iff_ne]; exact fun e => he (hz.1 e)
            have HT1 : Hid (cntW (l.take (q + 1)) row = c) := by show _ = _; rw [HT.out, if_neg he]; omega
            clear HT he hz h3
            generalize cmpL r row = z at *
            go_wp2
            refine wp_region_quiet_below (by kernel_rfl) (by kernel_rfl) ?_
            repeat (first | go_big_quiet_skip | (go_big_quiet_want; go_big_quiet_op; first | go_big_quiet_on | (apply Exists.intro; refine ⟨fun _ => ?_, ?_⟩; (first | (go_at_call 25; exact Calls.regrown_of (HQ.out _ (HQB.out.trans ((below_regrown wr _ _).mono HQB.out.size))))); go_big_quiet_on)))
            refine wpQuiet_nil ?_
            rintro w3 ⟨p, hw3⟩
            have hb2 : Below wr.heap.size wr w3 := hw3 ▸ below_regrown wr p.d p.os
            clear hw3 a1 a3 HQ
            replace hb := hb.trans (hb2.mono hb.size)
            clear hb2 HQB
            go_wp2
            go_roundw
            case rel => exact ⟨q + 1, by omega, by go_num, by rw [HT1.out], hb⟩
            case measure => simp [intOf]; omega
        · obtain rfl : q = l.length := by omega
          have x3 := HCK.out _ hbw
          have hf := weigh_find_calls (TimesIn.kept HX.out hb) (StrsIn.kept HSK.out hbw) HWX.out
          rw [HCNT.out row] at hf
          rw [List.take_length]
          clear hbw
          generalize cntW l row = c at *
          have d1 : (c == c) = true := by simp
          have d2 : (c != c) = false := by simp
          go_wp2_with fail
          refine hf.stepB (w0 := w1) (B := w1.heap.size) hb hb.size ?_
          clear hb hf x3
          intro w4 hb _ _
          go_wp2
          go_roundw
          case rel => exact ⟨k + 1, by omega, by go_num, hb⟩
          case measure => simp [intOf]; omega
    · obtain rfl : k = l.length := by omega
      obtain ⟨wo, hwo⟩ : ∃ wo, wo = wr := ⟨_, rfl⟩
      subst hwo
      have hbo := hb
      clear hb hlt
      go_wp2
      go_loopw [7] (fun i wr => ∃ k : Nat, k ≤ (ofW l).length ∧ i = .int .i64 k ∧ Below w1.heap.size w1 wr) (fun i _ => (ofW l).length - (intOf i).toNat)
      case atStart => exact ⟨0, Nat.zero_le _, rfl, hbo⟩
      case round =>
        clear hbo
        obtain ⟨k, hk, rfl, hb⟩ := hrel
        by_cases hlt : k < (ofW l).length
        · obtain ⟨bx, offx, rfl, hbx, hcx⟩ := HATX.out k hlt
          obtain ⟨rk, hsk, _, ck, cn⟩ := hcx k hlt
          have HCK := Lib.hid (fun w' (hq : Below w1.heap.size w1 w') => (hq.cell (p := ⟨bx, offx + k * 2, none⟩) hbx).trans ck)
          have HCN := Lib.hid (fun w' (hq : Below w1.heap.size w1 w') => (hq.cell (p := ⟨bx, offx + k * 2 + 1, none⟩) hbx).trans cn)
          have HSK := Lib.hid hsk
          have HA := Lib.hid (HANY.out _ (List.getElem_mem hlt))
          have hnz := HSOME.out _ (List.getElem_mem hlt)
          clear hcx ck cn hsk
          generalize (ofW l)[k].1 = row at *
          generalize (ofW l)[k].2 = nx at *
          obtain ⟨wo2, hwo2⟩ : ∃ wo2, wo2 = wr := ⟨_, rfl⟩
          subst hwo2
          have hbo := hb
          clear hb
          go_wp2
          go_loopw [8, 9] (fun s i wr => ∃ q : Nat, q ≤ l.length ∧ i = .int .i64 q ∧ s = .bool (anyR (l.take q) row) ∧ Below w1.heap.size w1 wr) (fun _ i _ => l.length - (intOf i).toNat)
          case atStart => exact ⟨0, Nat.zero_le _, rfl, rfl, hbo⟩
          case round =>
            clear hbo
            obtain ⟨q, hq, rfl, rfl, hb⟩ := hrel
            have hbw := HB1.out.trans (hb.mono HB1.out.size)
            by_cases hql : q < l.length
            · obtain ⟨b, off, rfl, hbl, hc⟩ := HAT.out q hql
              obtain ⟨rq, hsq, _, cq, _⟩ := hc q hql
              have x1 := (hbw.cell (p := ⟨b, off + q * 2, none⟩) hbl).trans cq
              have x3 := HCK.out _ hb
              have a1 := fun d os => cell_regrown x1 d os
              have a3 := fun d os => cell_regrown x3 d os
              have HQ := Lib.hid (fun w' (hw : Below w1.heap.size w1 w') => ref_compare_calls (StrsIn.kept (StrsIn.kept hsq HB1.out) (hw.mono (Nat.le_refl _))) (StrsIn.kept HSK.out hw))
              have HT := Lib.hid (anyR_take l row q hql)
              have hz := cmpL_zero l[q].1 row
              have HQB := Lib.hid hb
              clear hc cq hsq x1 x3 hbw
              generalize l[q].1 = r at *
              have d1 : (cmpL r row == 0) = decide (r = row) := by
                rw [Bool.eq_iff_iff, beq_iff_eq, decide_eq_true_eq]; exact hz
              clear hz
              generalize cmpL r row = z at *
              generalize decide (r = row) = dz at *
              cases hs0 : anyR (l.take q) row
              all_goals
                rw [hs0] at HT
                clear hs0
                go_wp2
                refine wp_region_quiet_below (by kernel_rfl) (by kernel_rfl) ?_
                repeat (first | go_big_quiet_skip | (go_big_quiet_want; go_big_quiet_op; first | go_big_quiet_on | (apply Exists.intro; refine ⟨fun _ => ?_, ?_⟩; (first | (go_at_call 25; exact Calls.regrown_of (HQ.out _ (HQB.out.trans ((below_regrown wr _ _).mono HQB.out.size))))); go_big_quiet_on)))
                refine wpQuiet_nil ?_
                rintro w3 ⟨p, hw3⟩
                have hb2 : Below wr.heap.size wr w3 := hw3 ▸ below_regrown wr p.d p.os
                clear hw3 a1 a3 HQ
                replace hb := hb.trans (hb2.mono hb.size)
                clear hb2 HQB
                go_wp2
                go_roundw
                case rel => exact ⟨q + 1, by omega, by go_num, by rw [HT.out]; rfl, hb⟩
                case measure => simp [intOf]; omega
            · obtain rfl : q = l.length := by omega
              have x4 := HCN.out _ hb
              rw [List.take_length, HA.out]
              have d1 : (nx == 0) = false := by rw [beq_eq_false_iff_ne]; exact hnz
              clear hbw
              go_wp2
              go_roundw
              case rel => exact ⟨k + 1, by omega, by go_num, hb⟩
              case measure => simp [intOf]; omega
        · have hbw := HB1.out.trans (hb.mono HB1.out.size)
          have hx := TimesIn.kept HX.out hb
          have hB := hbw.size
          clear hb
          go_wp2_with fail
          refine awake_calls.stepB (w0 := w) (B := w.heap.size) hbw hB ?_
          clear hbw hB
          intro w5 hb hB hk
          replace hx := hx.kept hk
          clear hk
          have hr := weigh_right_calls hx
          rw [HRX.out] at hr
          clear hx
          go_wp2_with fail
          refine hr.step (w0 := w) (B := w.heap.size) hb hB ?_
          clear hb hB hr
          intro w6 hb hB
          go_wp2
          go_ret
          exact ⟨rfl, hb⟩

set_option maxHeartbeats 2000000 in
theorem weighFinds_calls {w : World} {v : Value} {l : List Tm} (hl : TimesIn w v l) : GivesAt Try.prog 6 #[v] w (.bool true) := by
  cases sl : smallW l with
  | true => exact weighFinds_short hl sl
  | false =>
    obtain ⟨hb, hB⟩ := start w
    have hsl := small_calls hl
    rw [sl] at hsl
    obtain ⟨A0, p0, rfl⟩ := times_slice hl
    clear hl sl
    unfold GivesAt
    go_enter Try.func6, Try.ntmps6
    go_wp2_with fail
    refine hsl.step ?_
    clear hsl
    go_wp2_with (go_at_call 9; refine awake_calls.step (w0 := w) (B := w.heap.size) hb hB ?_; clear hb hB; intro w' hb hB)
    go_ret
    exact ⟨rfl, hb⟩
end Go.Proofs.Ytoamnoafamoldaa
