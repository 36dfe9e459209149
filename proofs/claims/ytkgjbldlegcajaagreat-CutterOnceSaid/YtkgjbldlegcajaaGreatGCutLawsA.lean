/- The law CutterPieces. -/
import Derived.Test.YtkgjbldlegcajaaGreatGWeighRef
import Derived.Test.YtkgjbldlegcajaaGreatGCutMade
import Derived.Test.YtkgjbldlegcajaaGreatGZBlockSame
import Derived.Test.YtkgjbldlegcajaaGreatGCutAwake
namespace Go.Proofs.YtkgjbldlegcajaaGreat
open Go Go.RowKit
set_option maxHeartbeats 4000000 in
set_option maxRecDepth 100000 in
theorem cutterTells_calls {w : World} {vc vl : Value} {cols : List (Int × Bool)} {l : List Tm} (hc : ColsIn w vc cols) (hl : TimesIn w vl l) (hin : InR (l.map Prod.snd)) : GivesAt Tryz.prog 3 #[vc, vl] w (.bool true) := by
 have HU := Lib.hid (underM_calls 60 hl hc)
 obtain ⟨hb, hB⟩ := start w
 have HL := Lib.hid hl
 obtain ⟨A2, p2, rfl, hx2⟩ := cols_at hc
 obtain ⟨tl, A1, p1, rfl, hx1, hat1⟩ := times_at hl
 have HAT := Lib.hid hat1
 clear hc hl hx1 hx2 hat1
 unfold GivesAt
 cases hu : underM l cols 60 with
 | false =>
  rw [hu] at HU
  clear hu HL HAT
  go_enter Tryz.func3, Tryz.ntmps3
  go_wp2_with (first | (go_at_call 9; refine HU.out.stepB (w0 := w) (B := w.heap.size) hb hB ?_; clear hb hB; intro w1 hb hB hq1) | (go_at_call 10; refine awake_calls.step (w0 := w) (B := w.heap.size) hb hB ?_; clear hb hB; intro w9 hb hB))
  go_ret
  exact ⟨rfl, hb⟩
 | true =>
  rw [hu] at HU
  obtain ⟨hf, hln, hcn, _⟩ := underM_facts hu
  have HFIT := Lib.hid hf
  have HSZ : Hid (∀ t ∈ l, cols.length ≤ t.1.length ∧ ∀ c ∈ t.1, c.size ≤ 1000000) := fun t ht => by
   obtain ⟨e, hr⟩ := fit_row (hf t ht)
   exact ⟨by omega, fun c hc => Nat.le_trans (rightB_size (hr c hc)) (by decide)⟩
  have HSH : Hid (∀ t ∈ l, t.1.length ≤ 1000000) := fun t ht => by have := (fit_row (hf t ht)).1; omega
  have HIN := Lib.hid hin
  clear hu hf hin
  go_enter Tryz.func3, Tryz.ntmps3
  go_wp2_with (go_at_call 9; refine HU.out.stepB (w0 := w) (B := w.heap.size) hb hB ?_; clear hb hB; intro w1 hb hB hq1)
  clear HU hq1 hB
  go_loopw [5] (fun i wr => ∃ k : Nat, k ≤ l.length ∧ i = .int .i64 k ∧ Below w.heap.size w wr) (fun i _ => l.length - (intOf i).toNat)
  case atStart => exact ⟨0, Nat.zero_le _, rfl, hb⟩
  case round =>
   clear hb
   obtain ⟨k, hk, rfl, hb⟩ := hrel
   have hB := hb.size
   by_cases hlt : k < l.length
   ·obtain ⟨b, off, rfl, hbl, hc⟩ := HAT.out k hlt
    obtain ⟨rv, hrs, htv, c1, c2⟩ := hc k hlt
    have x1 := (hb.cell (p := ⟨b, off + k * 2, none⟩) hbl).trans c1
    have hsz := (HSZ.out _ (List.getElem_mem hlt)).2
    have hrs' := StrsIn.kept hrs hb
    have HN1 : Hid (∀ w', Below wr.heap.size wr w' → GivesAt Tryz.prog 11 #[rv] w' (.int .u64 (numN l[k].1))) := fun w' hq => cut_number_calls (StrsIn.kept hrs' hq) hsz
    have HN2 : Hid (∀ w', Below wr.heap.size wr w' → GivesAt Tryz.prog 12 #[rv] w' (.int .u64 (numN l[k].1))) := fun w' hq => (ref_number_calls (StrsIn.kept hrs' hq) hsz).gives
    have HN3 : Hid (∀ w', Below wr.heap.size wr w' → GivesAt Tryz.prog 13 #[rv] w' (.bool (begR l[k].1))) := fun w' hq => cut_begins_calls (StrsIn.kept hrs' hq) hsz
    have HN4 : Hid (∀ w', Below wr.heap.size wr w' → GivesAt Tryz.prog 14 #[rv] w' (.bool (begR l[k].1))) := fun w' hq => (ref_begins_calls (StrsIn.kept hrs' hq) hsz).gives
    obtain ⟨Ar, pr, rfl, hone⟩ := one_at hrs
    have i0 : (0 : Int) ≤ (k : Int) := by omega
    have i1 : (k : Int) < (l.length : Int) := by omega
    clear hc c1 c2 htv hrs hrs' hsz hone
    generalize l[k] = t at *
    obtain ⟨row, n⟩ := t
    dsimp only at *
    generalize begR row = bg at *
    generalize hnm : ((numN row : Nat) : Int) = nm at *
    have g1 : (nm != nm) = false := by simp
    have g2 : (bg != bg) = false := by simp
    clear hnm
    have e1 := fun d os => cell_regrown x1 d os
    go_wp2_with fail
    refine wp_region_quiet_below (by kernel_rfl) (by kernel_rfl) ?_
    repeat (first | go_big_quiet_skip | (go_big_quiet_want; go_big_quiet_op; first | go_big_quiet_on | (apply Exists.intro; refine ⟨fun _ => ?_, ?_⟩; (first | (go_at_call 11; exact Calls.regrown_of (HN1.out _ (below_regrown wr _ _))) | (go_at_call 12; exact Calls.regrown_of (HN2.out _ (below_regrown wr _ _))) | (go_at_call 13; exact Calls.regrown_of (HN3.out _ (below_regrown wr _ _))) | (go_at_call 14; exact Calls.regrown_of (HN4.out _ (below_regrown wr _ _)))); go_big_quiet_on)))
    refine wpQuiet_nil ?_
    rintro w6 ⟨p6, hw6⟩
    have hq6 : Below wr.heap.size wr w6 := hw6 ▸ below_regrown wr p6.d p6.os
    have hb6 := hb.trans (hq6.mono hB)
    clear hw6 hq6 e1 x1 hb hB
    go_wp2
    go_roundw
    case rel => exact ⟨k + 1, by omega, by go_num, hb6⟩
    case measure => simp [intOf]; omega
   ·obtain rfl : k = l.length := by omega
    have HCA := Lib.hid (cut_cut_calls (HL.out.kept hb) (by omega) (fun t ht => (HSZ.out t ht).2) HSH.out)
    go_wp2_with fail
    refine HCA.out.mono ?_
    rintro e w2 ⟨v2, rfl, hP2, hq2⟩
    have hb2 := hb.trans (hq2.mono hB)
    have HCB := Lib.hid (ref_cut_calls (HL.out.kept hb2) (by omega) (fun t ht => (HSZ.out t ht).2))
    obtain ⟨A3, p3, rfl, hx3⟩ := pieces_at hP2
    have HP2 := Lib.hid hP2
    have HNP : Hid ((cutL l).length ≤ l.length) := cutL_length_le l
    have HPS : Hid (∀ p ∈ cutL l, p.length ≤ 1000000 ∧ ∀ t ∈ p, t.1.length ≤ 1000000) := fun p hp => ⟨by have := piece_small hp; omega, fun t ht => HSH.out t (piece_mem hp ht)⟩
    have HBA := Lib.hid (fun w' (hq : Below w.heap.size w w') => cut_blocks_calls (HL.out.kept hq) cols.length HSZ.out (by omega) (by omega) HIN.out HSH.out)
    have HBB := Lib.hid (fun w' (hq : Below w.heap.size w w') => ref_blocks_calls (HL.out.kept hq) cols.length HSZ.out (by omega) (by omega) HIN.out)
    have HBF : Hid ((blksL (cutL l) cols.length).length ≤ 1000000) := by show _ ≤ _; rw [blksL_length]; have := cutL_length_le l; omega
    clear hP2 hx3 hq2 hb hB HCA HSZ HFIT HSH
    generalize cutL l = P at *
    go_wp2_with fail
    refine HCB.out.mono ?_
    rintro e w3 ⟨v3, rfl, hP3, hq3⟩
    have hb3 := hb2.trans (hq3.mono hb2.size)
    obtain ⟨A4, p4, rfl, hat4⟩ := pieces_at hP3
    obtain ⟨A3', p3', e3, hat3⟩ := pieces_at (HP2.out.kept hq3)
    simp only [Value.slice.injEq, true_and] at e3
    obtain ⟨rfl, rfl⟩ := e3
    have HAT3 := Lib.hid hat3
    have HAT4 := Lib.hid hat4
    have HB3 := Lib.hid hb3
    have hpl : P.length ≤ 60 := by have := HNP.out; omega
    have d5 : ((P.length : Int) != (P.length : Int)) = false := by simp
    clear hP3 hat3 hat4 hq3 hb2 hb3 HCB HP2
    go_wp2_with fail
    go_loopw [8] (fun i wr => ∃ k : Nat, k ≤ P.length ∧ i = .int .i64 k ∧ Below w3.heap.size w3 wr) (fun i _ => P.length - (intOf i).toNat)
    case atStart => exact ⟨0, Nat.zero_le _, rfl, .refl _ _⟩
    case round =>
     obtain ⟨k, hk, rfl, hb⟩ := hrel
     by_cases hlt : k < P.length
     ·obtain ⟨b3, off3, rfl, hbl3, hc3⟩ := HAT3.out k hlt
      obtain ⟨pv3, ht3, c3⟩ := hc3 k hlt
      obtain ⟨b4, off4, rfl, hbl4, hc4⟩ := HAT4.out k hlt
      obtain ⟨pv4, ht4, c4⟩ := hc4 k hlt
      have x3 := (hb.cell (p := ⟨b3, off3 + k, none⟩) hbl3).trans c3
      have x4 := (hb.cell (p := ⟨b4, off4 + k, none⟩) hbl4).trans c4
      obtain ⟨h1, h2⟩ := HPS.out P[k] (List.getElem_mem hlt)
      have HSM : Hid (∀ w', Below wr.heap.size wr w' → GivesAt Tryz.prog 17 #[pv3, pv4] w' (.bool true)) := fun w' hq => by
       have := same_times ((ht3.kept hb).kept hq) ((ht4.kept hb).kept hq) h1 h2 h2
       rwa [decide_eq_true rfl] at this
      obtain ⟨t3, A5, p5, rfl, hx1, hx2⟩ := times_at ht3
      obtain ⟨t4, A6, p6, rfl, hx3, hx4⟩ := times_at ht4
      have i0 : (0 : Int) ≤ (k : Int) := by omega
      have i1 : (k : Int) < (P.length : Int) := by omega
      clear hc3 hc4 ht3 ht4 c3 c4 hx1 hx2 hx3 hx4 h1 h2
      generalize P[k].length = pl at *
      have e3 := fun d os => cell_regrown x3 d os
      have e4 := fun d os => cell_regrown x4 d os
      go_wp2_with fail
      refine wp_region_quiet_below (by kernel_rfl) (by kernel_rfl) ?_
      repeat (first | go_big_quiet_skip | (go_big_quiet_want; go_big_quiet_op; first | go_big_quiet_on | (apply Exists.intro; refine ⟨fun _ => ?_, ?_⟩; (first | (go_at_call 17; exact Calls.regrown_of (HSM.out _ (below_regrown wr _ _)))); go_big_quiet_on)))
      refine wpQuiet_nil ?_
      rintro w6 ⟨q6, hw6⟩
      have hq6 : Below wr.heap.size wr w6 := hw6 ▸ below_regrown wr q6.d q6.os
      have hb6 := hb.trans (hq6.mono hb.size)
      clear hw6 hq6 e3 e4 x3 x4 hb
      go_wp2
      go_roundw
      case rel => exact ⟨k + 1, by omega, by go_num, hb6⟩
      case measure => simp [intOf]; omega
     ·obtain rfl : k = P.length := by omega
      have HB := Lib.hid (HB3.out.trans (hb.mono HB3.out.size))
      clear hb HB3 HAT3 HAT4 HPS
      go_wp2_with fail
      refine awake_calls.step (w0 := wr) (B := wr.heap.size) (.refl _ _) (Nat.le_refl _) ?_
      intro w7 hk7 _
      have hb7 := HB.out.trans (hk7.mono HB.out.size)
      clear hk7 HB
      go_wp2_with fail
      refine (HBA.out w7 hb7).mono ?_
      rintro e w8 ⟨v8, rfl, hv8, hq8⟩
      have hb8 := hb7.trans (hq8.mono hb7.size)
      have HV8 := Lib.hid hv8
      obtain ⟨A8, p8, rfl⟩ := blks_slice hv8
      clear hv8 hq8 hb7 HBA
      generalize hn8 : (blksL P cols.length).length = n8 at HV8 ⊢
      clear hn8
      go_wp2_with fail
      refine (HBB.out w8 hb8).mono ?_
      rintro e w9 ⟨v9, rfl, hv9, hq9⟩
      have hb9 := hb8.trans (hq9.mono hb8.size)
      have HSM2 := same_blks (HV8.out.kept hq9) hv9 HBF.out (blksL_few (by omega)) (blksL_few (by omega))
      rw [decide_eq_true rfl] at HSM2
      replace HSM2 := Lib.hid HSM2
      obtain ⟨A9, p9, rfl⟩ := blks_slice hv9
      clear hv9 hq9 hb8 HBB HV8
      generalize hn9 : (blksL P cols.length).length = n9 at HSM2 ⊢
      clear hn9
      go_wp2_with fail
      refine HSM2.out.stepB (w0 := w9) (B := w9.heap.size) (.refl _ _) (Nat.le_refl _) ?_
      intro w10 g1 g2 hk10
      have hbe := hb9.trans (hk10.mono hb9.size)
      clear g1 g2 hk10
      go_wp2
      go_ret
      exact ⟨rfl, hbe⟩
set_option maxHeartbeats 4000000 in
set_option maxRecDepth 100000 in
theorem cutterChanges_calls {w : World} {vc vl vm : Value} {cols : List (Int × Bool)} {l more : List Tm} (hc : ColsIn w vc cols) (hl : TimesIn w vl l) (hm : TimesIn w vm more) : GivesAt Tryz.prog 4 #[vc, vl, vm] w (.bool true) := by
 have HU := Lib.hid (underM_calls 30 hm hc)
 obtain ⟨hb, hB⟩ := start w
 have HC := Lib.hid hc
 have HL := Lib.hid hl
 have HM := Lib.hid hm
 obtain ⟨A2, p2, rfl, hx2⟩ := cols_at hc
 obtain ⟨tl, A1, p1, rfl, hx1, hx4⟩ := times_at hl
 obtain ⟨tm, A3, p3, rfl, hx3, hx5⟩ := times_at hm
 clear hc hl hm hx1 hx2 hx3 hx4 hx5
 unfold GivesAt
 by_cases h1 : 6 < cols.length
 ·have d1 : decide (6 < cols.length) = true := decide_eq_true h1
  have e1 : decide ((6 : Int) < (cols.length : Int)) = true := by rw [decide_eq_true_eq]; omega
  clear h1 HU HC HL HM
  go_enter Tryz.func4, Tryz.ntmps4
  go_wp2_with (go_at_call 10; refine awake_calls.step (w0 := w) (B := w.heap.size) hb hB ?_; clear hb hB; intro w9 hb hB)
  go_ret
  exact ⟨rfl, hb⟩
 ·have d1 : decide (6 < cols.length) = false := decide_eq_false h1
  have e1 : decide ((6 : Int) < (cols.length : Int)) = false := by rw [decide_eq_false_iff_not]; omega
  cases hu : underM more cols 30 with
  | false =>
   rw [hu] at HU
   clear h1 hu HC HL HM
   go_enter Tryz.func4, Tryz.ntmps4
   go_wp2_with (first | (go_at_call 9; refine HU.out.stepB (w0 := w) (B := w.heap.size) hb hB ?_; clear hb hB; intro w1 hb hB hq1) | (go_at_call 10; refine awake_calls.step (w0 := w) (B := w.heap.size) hb hB ?_; clear hb hB; intro w9 hb hB))
   go_ret
   exact ⟨rfl, hb⟩
  | true =>
   rw [hu] at HU
   by_cases h2 : 60 < l.length
   ·have d2 : decide (60 < l.length) = true := decide_eq_true h2
    have e2 : decide ((60 : Int) < (l.length : Int)) = true := by rw [decide_eq_true_eq]; omega
    clear h1 hu h2 HC HL HM
    go_enter Tryz.func4, Tryz.ntmps4
    go_wp2_with (first | (go_at_call 9; refine HU.out.stepB (w0 := w) (B := w.heap.size) hb hB ?_; clear hb hB; intro w1 hb hB hq1) | (go_at_call 10; refine awake_calls.step (w0 := w) (B := w.heap.size) hb hB ?_; clear hb hB; intro w9 hb hB))
    go_ret
    exact ⟨rfl, hb⟩
   ·have d2 : decide (60 < l.length) = false := decide_eq_false h2
    have e2 : decide ((60 : Int) < (l.length : Int)) = false := by rw [decide_eq_false_iff_not]; omega
    obtain ⟨hf, hmn, hcn, hmw⟩ := underM_facts hu
    have hR := madeL_rows cols l
    have HCH := Lib.hid (hR.changing hf (by omega) (by omega) (by omega))
    have HG := Lib.hid (hR.good (by omega) (by omega))
    have HCU : Hid (cutL (cutL (madeL cols l)).flatten = cutL (madeL cols l)) := congrArg cutL (cutL_flatten _)
    have HRW : Hid (rightW (cutL (madeL cols l)).flatten = true) := HCH.out.right
    have HSZ : Hid (∀ t ∈ madeL cols l, cols.length ≤ t.1.length ∧ ∀ c ∈ t.1, c.size ≤ 1000000) := fun t ht => by
     obtain ⟨e, hr⟩ := fit_row (hR.fits t ht)
     exact ⟨by omega, fun c hc => Nat.le_trans (rightB_size (hr c hc)) (by decide)⟩
    have HIN : Hid (InR ((madeL cols l).map Prod.snd)) := wt_range (by have := hR.wt; omega)
    have hRl := hR.len
    have hPl := HCH.out.few
    have hFl := HCH.out.len
    have hAf := HCH.out.after
    have HMD : Hid (∀ w', Below w.heap.size w w' → GivesTimes Tryz.prog 21 #[.slice A1 l.length p1, .slice A2 cols.length p2] w' (madeL cols l)) := fun w' hq => made_calls (HL.out.kept hq) (HC.out.kept hq)
    clear h1 h2 hu hf hmw hR HL
    generalize madeL cols l = R at *
    go_enter Tryz.func4, Tryz.ntmps4
    go_wp2_with (go_at_call 9; refine HU.out.stepB (w0 := w) (B := w.heap.size) hb hB ?_; clear hb hB; intro w1 hb hB hq1)
    refine (HMD.out _ hb).stepB (w0 := w) (B := w.heap.size) hb hB ?_
    clear hb hB hq1
    intro v2 w2 hR hb hB hq2
    have HBL := Lib.hid (ref_blocks_calls hR cols.length HSZ.out (by omega) (by omega) HIN.out)
    obtain ⟨t2, B2, q2, rfl, hx1, hx2⟩ := times_at hR
    clear hx1 hx2 hR hq2 HMD HSZ
    generalize cutL R = P at *
    generalize R.length = rl at *
    go_wp2_with fail
    refine HBL.out.mono ?_
    rintro e w3 ⟨v3, rfl, hb3, hq3⟩
    replace hb := hb.trans (hq3.mono hB)
    replace hB := hb.size
    have HB3 := Lib.hid hb3
    obtain ⟨B3, q3, rfl⟩ := blks_slice hb3
    clear hb3 hq3 HBL
    rw [blksL_length] at HB3 ⊢
    go_wp2_with fail
    refine (cut_change_calls HB3.out (HC.out.kept hb) (HM.out.kept hb) HCH.out HCU.out).mono ?_
    rintro e w4 ⟨v4, rfl, hb4, hq4⟩
    replace hb := hb.trans (hq4.mono hB)
    replace hB := hb.size
    replace HB3 := Lib.hid (HB3.out.kept hq4)
    have HX := Lib.hid hb4
    obtain ⟨B4, q4, rfl⟩ := blks_slice hb4
    clear hb4 hq4
    generalize hn4 : (blksL (changeP P more) cols.length).length = n4 at HX ⊢
    clear hn4
    generalize hN : changeN P more = nN at *
    generalize hE : changeC P more = nE at *
    go_wp2_with fail
    refine (ref_change_calls HB3.out (HC.out.kept hb) (HM.out.kept hb) HCH.out).mono ?_
    rintro e w5 ⟨v5, rfl, hb5, hq5⟩
    replace hb := hb.trans (hq5.mono hB)
    replace hB := hb.size
    replace HB3 := Lib.hid (HB3.out.kept hq5)
    replace HX := Lib.hid (HX.out.kept hq5)
    have HY := Lib.hid hb5
    obtain ⟨B5, q5, rfl⟩ := blks_slice hb5
    clear hb5 hq5
    generalize hn5 : (blksL (changeP P more) cols.length).length = n5 at HY ⊢
    clear hn5
    rw [hN, hE]
    clear hN hE
    go_wp2_with fail
    refine (cut_all_calls HB3.out (HC.out.kept hb) HG.out (by omega) (by omega) (by omega)).mono ?_
    rintro e w6 ⟨v6, he, hT6, hq6⟩
    rw [HRW.out] at he hT6
    rw [if_pos rfl] at he hT6
    subst he
    replace hb := hb.trans (hq6.mono hB)
    replace hB := hb.size
    replace HB3 := Lib.hid (HB3.out.kept hq6)
    replace HX := Lib.hid (HX.out.kept hq6)
    replace HY := Lib.hid (HY.out.kept hq6)
    have HU6 := Lib.hid hT6
    obtain ⟨t6, B6, q6, rfl, hx1, hx2⟩ := times_at hT6
    clear hT6 hq6 hx1 hx2
    generalize hn6 : P.flatten.length = n6 at HU6 ⊢
    clear hn6
    go_wp2_with fail
    refine (ref_all_calls HB3.out (HC.out.kept hb) HG.out (by omega) (by omega) (by omega)).mono ?_
    rintro e w7 ⟨v7, he, hT7, hq7⟩
    rw [HRW.out] at he hT7
    rw [if_pos rfl] at he hT7
    subst he
    replace hb := hb.trans (hq7.mono hB)
    replace hB := hb.size
    replace HX := Lib.hid (HX.out.kept hq7)
    replace HY := Lib.hid (HY.out.kept hq7)
    replace HU6 := Lib.hid (HU6.out.kept hq7)
    have HU7 := Lib.hid hT7
    obtain ⟨t7, B7, q7, rfl, hx1, hx2⟩ := times_at hT7
    clear hT7 hq7 hx1 hx2 HB3
    generalize hn7 : P.flatten.length = n7 at HU7 ⊢
    clear hn7
    go_wp2_with fail
    refine awake_calls.step (w0 := w7) (B := w7.heap.size) (.refl _ _) (Nat.le_refl _) ?_
    intro w8 hk8 _
    replace HX := Lib.hid (HX.out.kept hk8)
    replace HY := Lib.hid (HY.out.kept hk8)
    replace HU6 := Lib.hid (HU6.out.kept hk8)
    replace HU7 := Lib.hid (HU7.out.kept hk8)
    replace hb := hb.trans (hk8.mono hB)
    replace hB := hb.size
    have HS1 := same_blks HX.out HY.out (by rw [blksL_length]; omega) (blksL_few (by omega)) (blksL_few (by omega))
    rw [decide_eq_true rfl] at HS1
    replace HS1 := Lib.hid HS1
    clear hk8
    go_wp2_with fail
    refine HS1.out.stepB (w0 := w8) (B := w8.heap.size) (.refl _ _) (Nat.le_refl _) ?_
    intro w10 _ _ hk10
    have HS2 := same_times (HU6.out.kept hk10) (HU7.out.kept hk10) (by omega) (fun t ht => by have := (HCH.out.old ht).1; omega) (fun t ht => by have := (HCH.out.old ht).1; omega)
    rw [decide_eq_true rfl] at HS2
    replace HS2 := Lib.hid HS2
    replace hb := hb.trans (hk10.mono hB)
    replace hB := hb.size
    clear hk10
    go_wp2_with fail
    refine HS2.out.stepB (w0 := w10) (B := w10.heap.size) (.refl _ _) (Nat.le_refl _) ?_
    intro w11 _ _ hk11
    replace hb := hb.trans (hk11.mono hB)
    clear hk11
    go_wp2
    go_ret
    exact ⟨rfl, hb⟩
theorem CutP.heads {P : List (List Tm)} (h : CutP P) {i : Nat} (hi : i < P.length) (h0 : 0 < i) (hk : 0 < P[i].length) : begR (P[i][0]).1 = true := by
 refine h.2 P[i] ?_ (P[i][0]) ?_
 ·cases P with
  | nil => simp at hi
  | cons a P =>
   obtain ⟨j, rfl⟩ : ∃ j, i = j + 1 := ⟨i - 1, by omega⟩
   simp
 ·rw [List.head?_eq_getElem?, List.getElem?_eq_getElem hk]
theorem CutP.others {P : List (List Tm)} (h : CutP P) {i k : Nat} (hi : i < P.length) (h0 : 0 < k) (hk : k < P[i].length) : begR (P[i][k]).1 = false := by
 refine (h.1 P[i] (List.getElem_mem hi)).2 _ ?_
 rw [List.mem_iff_getElem]
 refine ⟨k - 1, by rw [List.length_tail]; omega, ?_⟩
 rw [List.getElem_tail]
 congr 1
 omega
set_option maxHeartbeats 4000000 in
set_option maxRecDepth 100000 in
theorem cutterPieces_calls {w : World} {vc vl : Value} {cols : List (Int × Bool)} {l : List Tm} (hc : ColsIn w vc cols) (hl : TimesIn w vl l) : GivesAt Tryz.prog 7 #[vc, vl] w (.bool true) := by
 have HU := Lib.hid (underM_calls 60 hl hc)
 obtain ⟨m0, hm, mz0, mz1, mz2⟩ := info_parts Tryz.infoCb30
 obtain ⟨hb, hB⟩ := start w
 have HL := Lib.hid hl
 obtain ⟨A2, p2, rfl, hx2⟩ := cols_at hc
 obtain ⟨tl, A1, p1, rfl, hx1, hat1⟩ := times_at hl
 clear hc hl hx1 hx2 hat1
 unfold GivesAt
 cases hu : underM l cols 60 with
 | false =>
  rw [hu] at HU
  clear hu HL
  go_enter Tryz.func7, Tryz.ntmps7
  go_wp2_with (first | (go_at_call 9; refine HU.out.stepB (w0 := w) (B := w.heap.size) hb hB ?_; clear hb hB; intro w1 hb hB hq1) | (go_at_call 10; refine awake_calls.step (w0 := w) (B := w.heap.size) hb hB ?_; clear hb hB; intro w9 hb hB))
  go_ret
  exact ⟨rfl, hb⟩
 | true =>
  rw [hu] at HU
  obtain ⟨hf, hln, hcn, _⟩ := underM_facts hu
  have HSZ : Hid (∀ t ∈ l, ∀ c ∈ t.1, c.size ≤ 1000000) := fun t ht c hc => Nat.le_trans (rightB_size ((fit_row (hf t ht)).2 c hc)) (by decide)
  have HSH : Hid (∀ t ∈ l, t.1.length ≤ 1000000) := fun t ht => by have := (fit_row (hf t ht)).1; omega
  clear hu hf
  go_enter Tryz.func7, Tryz.ntmps7
  go_wp2_with (go_at_call 9; refine HU.out.stepB (w0 := w) (B := w.heap.size) hb hB ?_; clear hb hB; intro w1 hb hB hq1)
  clear HU hq1
  refine (cut_cut_calls (HL.out.kept hb) (by omega) HSZ.out HSH.out).mono ?_
  rintro e w2 ⟨v2, rfl, hP, hq2⟩
  replace hb := hb.trans (hq2.mono hB)
  have HB := Lib.hid hb
  obtain ⟨A3, p3, rfl, hat3⟩ := pieces_at hP
  have HAT := Lib.hid hat3
  have HG := Lib.hid (cutL_good l)
  have HFL := Lib.hid (cutL_flatten l)
  have HNP : Hid ((cutL l).length ≤ 60) := Nat.le_trans (cutL_length_le l) hln
  have HPS : Hid (∀ p ∈ cutL l, p.length ≤ 60 ∧ ∀ t ∈ p, ∀ c ∈ t.1, c.size ≤ 1000000) := fun p hp => ⟨by have := piece_small hp; omega, fun t ht => HSZ.out t (piece_mem hp ht)⟩
  have HTK : Hid (∀ k, k < (cutL l).length → ((cutL l).take k).flatten.length + (cutL l)[k]!.length ≤ 60) := fun k hk => by
   have := congrArg List.length (flatten_at (cutL l) k hk)
   rw [List.length_append, List.length_append, cutL_flatten] at this
   rw [getElem!_pos (cutL l) k hk]
   omega
  have hpl := HNP.out
  clear hP hat3 hq2 hb hB HSZ HNP
  generalize cutL l = P at *
  go_wp2_with fail
  go_loopw [6, 7] (fun x i wr => ∃ k : Nat, k ≤ P.length ∧ i = .int .i64 k ∧ (∃ tv, TimesOwn wr w2.heap.size x tv (P.take k).flatten) ∧ Below w2.heap.size w2 wr) (fun _ i _ => P.length - (intOf i).toNat)
  case atStart => exact ⟨0, Nat.zero_le _, rfl, ⟨[], TimesOwn.nil_ _ _⟩, .refl _ _⟩
  case round =>
   obtain ⟨k, hk, rfl, ⟨tv, hT⟩, hb⟩ := hrel
   have hB := hb.size
   by_cases hlt : k < P.length
   ·obtain ⟨b3, off3, rfl, hbl3, hc3⟩ := HAT.out k hlt
    obtain ⟨pv, htp, c3⟩ := hc3 k hlt
    have x3 := (hb.cell (p := ⟨b3, off3 + k, none⟩) hbl3).trans c3
    have hpne := (HG.out.1 P[k] (List.getElem_mem hlt)).1
    have hpp : 0 < P[k].length := List.length_pos_iff.2 hpne
    obtain ⟨hps, hpc⟩ := HPS.out P[k] (List.getElem_mem hlt)
    have htl := HTK.out k hlt
    rw [getElem!_pos P k hlt] at htl
    have HTF := Lib.hid (take_flatten P k hlt)
    have HTP := Lib.hid htp
    have HPC := Lib.hid hpc
    have HHD : Hid (0 < k → begR (P[k][0]).1 = true) := fun h0 => HG.out.heads hlt h0 hpp
    have HOT : Hid (∀ j (hj : j < P[k].length), 0 < j → begR (P[k][j]).1 = false) := fun j hj h0 => HG.out.others hlt h0 hj
    obtain ⟨tvp, hsl, hrows⟩ := htp
    obtain ⟨tvq, A4, p4, rfl, hx6, hat4⟩ := times_at ⟨tvp, hsl, hrows⟩
    have HSL := Lib.hid hsl
    have HAT4 := Lib.hid hat4
    have HC3 := Lib.hid c3
    have i0 : (0 : Int) ≤ (k : Int) := by omega
    have i1 : (k : Int) < (P.length : Int) := by omega
    have HROWS := Lib.hid hrows
    clear hc3 c3 hsl hrows hat4 hpne hpc hx6
    generalize P[k] = p at *
    have d1 : ((p.length : Int) == 0) = false := by rw [beq_eq_false_iff_ne]; omega
    generalize (P.take k).flatten = a at *
    have HT := Lib.hid hT
    obtain ⟨A9, p9, rfl⟩ := hT.slice
    clear hT
    obtain ⟨wo, hwo⟩ : ∃ wo, wo = wr := ⟨_, rfl⟩
    have HB2 := Lib.hid hb
    rw [← hwo] at HT HB2
    go_wp2_with fail
    rw [← hwo]
    clear x3 hb hB hwo
    go_loopw [8] (fun i wr => ∃ j : Nat, j ≤ p.length ∧ i = .int .i64 j ∧ Below wo.heap.size wo wr) (fun i _ => p.length - (intOf i).toNat)
    case atStart => exact ⟨0, Nat.zero_le _, rfl, .refl _ _⟩
    case round =>
     obtain ⟨j, hj, rfl, hq⟩ := hrel
     have hbq := HB2.out.trans (hq.mono HB2.out.size)
     have x3 := (hbq.cell (p := ⟨b3, off3 + k, none⟩) hbl3).trans HC3.out
     by_cases hjl : j < p.length
     ·obtain ⟨b4, off4, rfl, hbl4, hc4⟩ := HAT4.out j hjl
      obtain ⟨rv, hrs, htv, c1, c2⟩ := hc4 j hjl
      have x1 := (hbq.cell (p := ⟨b4, off4 + j * 2, none⟩) hbl4).trans c1
      have HFS := Lib.hid (cut_begins_calls (StrsIn.kept hrs hbq) (HPC.out _ (List.getElem_mem hjl)))
      obtain ⟨Ar, pr, rfl, hone⟩ := one_at hrs
      have i2 : (0 : Int) ≤ (j : Int) := by omega
      have i3 : (j : Int) < (p.length : Int) := by omega
      have HJ0 : Hid (j = 0 → 0 < k → begR (p[j]).1 = true) := fun e hk0 => by subst e; exact HHD.out hk0
      have HJ1 : Hid (0 < j → begR (p[j]).1 = false) := fun h0 => HOT.out j hjl h0
      clear hc4 c1 c2 htv hrs hone
      generalize p[j] = t at *
      obtain ⟨row, n⟩ := t
      dsimp only at *
      by_cases hj0 : j = 0
      ·by_cases hk0 : k = 0
       ·have g1 : decide (0 < k) = false := by rw [decide_eq_false_iff_not]; omega
        have g2 : decide (0 < j) = false := by rw [decide_eq_false_iff_not]; omega
        clear hj0 hk0
        go_wp2
        go_roundw
        case rel => exact ⟨j + 1, by omega, by go_num, hq⟩
        case measure => simp [intOf]; omega
       ·have g1 : decide (0 < k) = true := by rw [decide_eq_true_eq]; omega
        have g3 : ((j : Int) == 0) = true := by rw [beq_iff_eq]; omega
        have hbg := HJ0.out hj0 (by omega)
        rw [hbg] at HFS
        clear hj0 hk0 hbg
        go_wp2_with fail
        refine HFS.out.stepB (w0 := wr) (B := wr.heap.size) (.refl _ _) (Nat.le_refl _) ?_
        intro w5 g8 g9 hq5
        have hqq := hq.trans (hq5.mono hq.size)
        clear g8 g9 hq5
        go_wp2
        go_roundw
        case rel => exact ⟨j + 1, by omega, by go_num, hqq⟩
        case measure => simp [intOf]; omega
      ·have g2 : decide (0 < j) = true := by rw [decide_eq_true_eq]; omega
       have g3 : ((j : Int) == 0) = false := by rw [beq_eq_false_iff_ne]; omega
       have hbg := HJ1.out (by omega)
       rw [hbg] at HFS
       clear hj0 hbg
       by_cases hk0 : k = 0
       ·have g1 : decide (0 < k) = false := by rw [decide_eq_false_iff_not]; omega
        clear hk0
        go_wp2_with fail
        refine HFS.out.stepB (w0 := wr) (B := wr.heap.size) (.refl _ _) (Nat.le_refl _) ?_
        intro w5 g8 g9 hq5
        have hqq := hq.trans (hq5.mono hq.size)
        clear g8 g9 hq5
        go_wp2
        go_roundw
        case rel => exact ⟨j + 1, by omega, by go_num, hqq⟩
        case measure => simp [intOf]; omega
       ·have g1 : decide (0 < k) = true := by rw [decide_eq_true_eq]; omega
        clear hk0
        go_wp2_with fail
        refine HFS.out.stepB (w0 := wr) (B := wr.heap.size) (.refl _ _) (Nat.le_refl _) ?_
        intro w5 g8 g9 hq5
        have hqq := hq.trans (hq5.mono hq.size)
        clear g8 g9 hq5
        go_wp2
        go_roundw
        case rel => exact ⟨j + 1, by omega, by go_num, hqq⟩
        case measure => simp [intOf]; omega
     ·obtain rfl : j = p.length := by omega
      have HT5 := Lib.hid (HT.out.later hq)
      have HTP5 := Lib.hid (HTP.out.kept hbq)
      have HR5 := Lib.hid (HROWS.out.kept hbq)
      have HOFF : Hid (RowsOff (.slice A9 a.length p9) tvp) := fun t ht => by
       obtain ⟨x, _, hx, _⟩ := HROWS.out.mem t ht
       exact RowOff.below hx (Nat.le_refl _) (fun q hq => (HT.out.own.lt q hq).1)
      have HS5 := Lib.hid (SliceOf.later HSL.out hbq)
      have HBB := Lib.hid hbq
      generalize hal : a.length = al at *
      have hO5 := HT5.out.own
      rw [hal] at hO5
      have HO5 := Lib.hid hO5
      have HAL := Lib.hid hal
      clear hO5 hal
      go_wp2_with (at_builtin; refine wpList_append_src rfl (.tmp 57) (.tmp 61) 23 rfl 30 m0 (.agg #[.slice none 0 0, .int .i64 0]) 2 32 Tryz.underlying23 hm mz0 mz1 mz2 rfl (by decide) (B := w2.heap.size) (.slice A9 al p9) al (timesV tv) rfl HO5.out (.slice A4 p.length p4) p.length (timesV tvp) rfl HS5.out (RowsOf.one_cell HR5.out) (by unfold maxLen; omega) (by omega) HBB.out.size ?_)
      intro v7 w7 hO7 hg7 ha7
      have HT7 : Hid (∃ tv, TimesOwn w7 w2.heap.size v7 tv (P.take (k + 1)).flatten) := by
       refine ⟨tv ++ tvp, ?_⟩
       rw [HTF.out]
       exact HT5.out.adds HR5.out HOFF.out hg7 ha7 (by rw [HAL.out]; exact hO7)
      have hbn := HBB.out.grown hg7 HBB.out.size (fun q hq => (HT5.out.own.lt q hq).1)
      clear hO7 hg7 ha7
      go_wp2
      go_roundw
      case rel => exact ⟨k + 1, by omega, by go_num, HT7.out, hbn⟩
      case measure => simp [intOf]; omega
   ·obtain rfl : k = P.length := by omega
    rw [List.take_length, HFL.out] at hT
    have HTI := Lib.hid hT.times
    obtain ⟨A9, p9, rfl⟩ := hT.slice
    clear hT
    go_wp2_with fail
    refine awake_calls.step (w0 := wr) (B := wr.heap.size) (.refl _ _) (Nat.le_refl _) ?_
    intro w7 hk7 _
    have hb7 := HB.out.trans ((hb.trans (hk7.mono hB)).mono HB.out.size)
    have HSM := same_times (HTI.out.kept hk7) (HL.out.kept hb7) (by omega) HSH.out HSH.out
    rw [decide_eq_true rfl] at HSM
    replace HSM := Lib.hid HSM
    clear hk7 hb hB
    go_wp2_with fail
    refine HSM.out.stepB (w0 := w7) (B := w7.heap.size) (.refl _ _) (Nat.le_refl _) ?_
    intro w10 g1 g2 hk10
    have hbe := hb7.trans (hk10.mono hb7.size)
    clear g1 g2 hk10
    go_wp2
    go_ret
    exact ⟨rfl, hbe⟩
end Go.Proofs.YtkgjbldlegcajaaGreat
