/- The law CutterFew. -/
import Derived.Test.YtkgjbldlegcajaaGreatGStrs
import Derived.Test.YtkgjbldlegcajaaGreatGWeighRef
import Derived.Test.YtkgjbldlegcajaaGreatGCutMade
import Derived.Test.YtkgjbldlegcajaaGreatGCutParts
import Derived.Test.YtkgjbldlegcajaaGreatGZBlockSame
import Derived.Test.YtkgjbldlegcajaaGreatGCutAwake
import Derived.Deep.RegionLaw
namespace Go.Proofs.YtkgjbldlegcajaaGreat
open Go Go.RowKit
set_option maxHeartbeats 8000000 in
set_option maxRecDepth 100000 in
theorem cutterAnew_calls {w : World} {vc vl vm : Value} {cols : List (Int × Bool)} {l : List Tm} {M : List (List Tm)} (hc : ColsIn w vc cols) (hl : TimesIn w vl l) (hm : PiecesIn w vm M) : GivesAt Tryz.prog 5 #[vc, vl, vm] w (.bool true) := by
 obtain ⟨hb, hB⟩ := start w
 have HC := Lib.hid hc
 have HL := Lib.hid hl
 obtain ⟨A2, p2, rfl, hx2⟩ := cols_at hc
 obtain ⟨tl, A1, p1, rfl, hx1, hx4⟩ := times_at hl
 obtain ⟨A3, p3, rfl, hat3⟩ := pieces_at hm
 have HAT := Lib.hid hat3
 clear hc hl hm hx1 hx2 hx4 hat3
 unfold GivesAt
 by_cases h1 : 6 < cols.length
 ·have d1 : decide (6 < cols.length) = true := decide_eq_true h1
  have e1 : decide ((6 : Int) < (cols.length : Int)) = true := by rw [decide_eq_true_eq]; omega
  clear h1 HC HL HAT
  go_enter Tryz.func5, Tryz.ntmps5
  go_wp2_with (go_at_call 10; refine awake_calls.step (w0 := w) (B := w.heap.size) hb hB ?_; clear hb hB; intro w9 hb hB)
  go_ret
  exact ⟨rfl, hb⟩
 ·have d1 : decide (6 < cols.length) = false := decide_eq_false h1
  have e1 : decide ((6 : Int) < (cols.length : Int)) = false := by rw [decide_eq_false_iff_not]; omega
  by_cases h2 : 60 < l.length
  ·have d2 : decide (60 < l.length) = true := decide_eq_true h2
   have e2 : decide ((60 : Int) < (l.length : Int)) = true := by rw [decide_eq_true_eq]; omega
   clear h1 h2 HC HL HAT
   go_enter Tryz.func5, Tryz.ntmps5
   go_wp2_with (go_at_call 10; refine awake_calls.step (w0 := w) (B := w.heap.size) hb hB ?_; clear hb hB; intro w9 hb hB)
   go_ret
   exact ⟨rfl, hb⟩
  ·have d2 : decide (60 < l.length) = false := decide_eq_false h2
   have e2 : decide ((60 : Int) < (l.length : Int)) = false := by rw [decide_eq_false_iff_not]; omega
   by_cases h3 : 5 < M.length
   ·have d3 : decide (5 < M.length) = true := decide_eq_true h3
    have e3 : decide ((5 : Int) < (M.length : Int)) = true := by rw [decide_eq_true_eq]; omega
    clear h1 h2 h3 HC HL HAT
    go_enter Tryz.func5, Tryz.ntmps5
    go_wp2_with (go_at_call 10; refine awake_calls.step (w0 := w) (B := w.heap.size) hb hB ?_; clear hb hB; intro w9 hb hB)
    go_ret
    exact ⟨rfl, hb⟩
   ·have d3 : decide (5 < M.length) = false := decide_eq_false h3
    have e3 : decide ((5 : Int) < (M.length : Int)) = false := by rw [decide_eq_false_iff_not]; omega
    have hcn : cols.length ≤ 6 := by omega
    have hmn : M.length ≤ 5 := by omega
    have HR0 := Lib.hid (madeL_rows cols l)
    have HMD := Lib.hid (made_calls HL.out HC.out)
    clear h1 h2 h3 HL
    generalize madeL cols l = R0 at *
    go_enter Tryz.func5, Tryz.ntmps5
    go_wp2_with fail
    refine HMD.out.stepB (w0 := w) (B := w.heap.size) hb hB ?_
    clear hb hB
    intro v1 w1 hT1 hb hB hq1
    have HBL := Lib.hid (cut_blocks_calls hT1 cols.length HR0.out.sizes (by omega) (by have := HR0.out.len; omega) (wt_range (by have := HR0.out.wt; omega)) (HR0.out.short (by omega)))
    have HT1 := Lib.hid hT1
    obtain ⟨t1, B1, q1, rfl, hx1, hx2⟩ := times_at hT1
    clear hT1 hx1 hx2 hq1 HMD
    generalize hn1 : R0.length = n1 at HBL HT1 ⊢
    clear hn1
    go_wp2_with fail
    refine HBL.out.mono ?_
    rintro e w2 ⟨v2, rfl, hb2, hq2⟩
    have HT2 := Lib.hid (HT1.out.kept hq2)
    have HB := Lib.hid (hb.trans (hq2.mono hB))
    clear hb hB hq2 HBL HT1
    go_wp2_with fail
    go_loopw [7, 8, 9] (fun x y i wr => ∃ (k : Nat) (R : List Tm), k ≤ M.length ∧ i = .int .i64 k ∧ TimesIn wr x R ∧ BlksIn wr y (blksL (cutL R) cols.length) ∧ Hid (Rows0 R cols (60 + 20 * k) (64424509440 + k * 21990232555520)) ∧ Below w.heap.size w wr) (fun _ _ i _ => M.length - (intOf i).toNat)
    case atStart => exact ⟨0, R0, Nat.zero_le _, rfl, HT2.out, hb2, ⟨HR0.out.right, HR0.out.there, HR0.out.fits, HR0.out.len, HR0.out.wt⟩, HB.out⟩
    case round =>
     clear hb2 HT2 HR0 HB
     obtain ⟨k, R, hk, rfl, hT, hbk, HR, hb⟩ := hrel
     have hB := hb.size
     have HT := Lib.hid hT
     have HBK := Lib.hid hbk
     obtain ⟨t1, B4, q4, rfl, hx1, hx2⟩ := times_at hT
     obtain ⟨B5, q5, rfl⟩ := blks_slice hbk
     have hRn := HR.out.len
     have hRw := HR.out.wt
     clear hT hbk hx1 hx2
     generalize hnr : R.length = nr at HT ⊢
     generalize hnb : (blksL (cutL R) cols.length).length = nb at HBK ⊢
     have HNB := Lib.hid hnb
     clear hnr hnb
     by_cases hlt : k < M.length
     ·obtain ⟨b3, off3, rfl, hbl3, hc3⟩ := HAT.out k hlt
      obtain ⟨pv, htp, c3⟩ := hc3 k hlt
      have x3 := (hb.cell (p := ⟨b3, off3 + k, none⟩) hbl3).trans c3
      have HC3 := Lib.hid c3
      have HTP := Lib.hid htp
      have i0 : (0 : Int) ≤ (k : Int) := by omega
      have i1 : (k : Int) < (M.length : Int) := by omega
      have HUN := Lib.hid (underM_calls 20 (htp.kept hb) (HC.out.kept hb))
      obtain ⟨t5, A6, p6, rfl, hx1, hx2⟩ := times_at htp
      clear hc3 c3 htp hx1 hx2
      generalize M[k] = m at *
      cases hu : underM m cols 20 with
      | false =>
       rw [hu] at HUN
       clear hu HTP HC3 HT HBK HR
       generalize m.length = nm at *
       go_wp2_with fail
       refine HUN.out.stepB (w0 := wr) (B := wr.heap.size) (.refl _ _) (Nat.le_refl _) ?_
       intro w4 g1 g2 hq4
       have hb4 := hb.trans (hq4.mono hB)
       clear g1 g2 hq4 hb hB x3
       go_wp2_with fail
       refine awake_calls.step (w0 := w4) (B := w4.heap.size) (.refl _ _) (Nat.le_refl _) ?_
       intro w7 hk7 _
       have hb7 := hb4.trans (hk7.mono hb4.size)
       clear hk7
       go_wp2
       go_ret
       exact ⟨rfl, hb7⟩
      | true =>
       rw [hu] at HUN
       obtain ⟨hf, hmn2, _, hmw⟩ := underM_facts hu
       have hwm : wtW m ≤ 21990232555520 := by omega
       have HCH := Lib.hid (HR.out.changing hf (by omega) (by omega) (by omega))
       have HSU : Hid (wholeW (sumW R m) = true → Rows0 (sumW R m) cols (60 + 20 * (k + 1)) (64424509440 + (k + 1) * 21990232555520)) := fun hw => by
        have := HR.out.sum hf hw
        exact ⟨this.right, this.there, this.fits, by have := this.len; omega, by have := this.wt; omega⟩
       have HKP : Hid (Rows0 R cols (60 + 20 * (k + 1)) (64424509440 + (k + 1) * 21990232555520)) := ⟨HR.out.right, HR.out.there, HR.out.fits, Nat.le_trans hRn (Nat.add_le_add_left (Nat.mul_le_mul_left _ (Nat.le_succ _)) _), Nat.le_trans hRw (Nat.add_le_add_left (Nat.mul_le_mul_right _ (Nat.le_succ _)) _)⟩
       have HOK : Hid (okC (cutL R) m = wholeW (sumW R m)) := by show _ = _; unfold okC; rw [cutL_flatten]
       have HSUM := Lib.hid (fun w' (hq : Below wr.heap.size wr w') => ref_weigh_sum_calls (HT.out.kept hq) (HTP.out.kept (hb.trans (hq.mono hB))) (by omega) (by omega))
       have HCHG := Lib.hid (fun w' (hq : Below wr.heap.size wr w') => cut_change_calls (HBK.out.kept hq) (HC.out.kept (hb.trans (hq.mono hB))) (HTP.out.kept (hb.trans (hq.mono hB))) HCH.out (cut_cut R))
       have HBF : Hid ((blksL (cutL R) cols.length).length ≤ 1000000) := blks_few HR.out (by omega) _
       have hSL : (sumW R m).length ≤ 4096 := by have := sum_length R m; omega
       clear hu hf hmw
       generalize hnm : m.length = nm at *
       go_wp2_with fail
       refine HUN.out.stepB (w0 := wr) (B := wr.heap.size) (.refl _ _) (Nat.le_refl _) ?_
       intro w4 g1 g2 hq4
       have hb4 := hb.trans (hq4.mono hB)
       have x4 := (hb4.cell (p := ⟨b3, off3 + k, none⟩) hbl3).trans HC3.out
       clear g1 g2 x3
       go_wp2_with fail
       refine (HSUM.out w4 hq4).stepB (w0 := w4) (B := w4.heap.size) (.refl _ _) (Nat.le_refl _) ?_
       intro v5 w5 hT5 g1 g2 hk5
       have hq5 := hq4.trans (hk5.mono hq4.size)
       have hb5 := hb.trans (hq5.mono hB)
       have x5 := (hb5.cell (p := ⟨b3, off3 + k, none⟩) hbl3).trans HC3.out
       have HT5 := Lib.hid hT5
       obtain ⟨t5, B7, q7, rfl, hx1, hx2⟩ := times_at hT5
       clear g1 g2 hq4 hb4 x4 hk5 hT5 hx1 hx2 HSUM
       generalize hns : (sumW R m).length = ns at HT5 ⊢
       clear hns
       go_wp2_with fail
       refine (HCHG.out w5 hq5).mono ?_
       rintro e w6 ⟨v6, rfl, hb6, hk6⟩
       have hq6 := hq5.trans (hk6.mono hq5.size)
       have hbb6 := hb.trans (hq6.mono hB)
       have HT6 := Lib.hid (HT5.out.kept hk6)
       have HX6 := Lib.hid hb6
       have HBK6 := Lib.hid (HBK.out.kept hq6)
       have HTR6 := Lib.hid (HT.out.kept hq6)
       have HWH := Lib.hid (ref_weigh_whole_calls HT6.out)
       obtain ⟨B8, q8, rfl⟩ := blks_slice hb6
       clear hb6 hk6 hq5 hb5 x5 HT5 HCHG HBK HT hq6 hb hB
       generalize hn8 : (blksL (changeP (cutL R) m) cols.length).length = n8 at HX6 ⊢
       clear hn8
       have hnn := HCH.out.wrote
       generalize changeN (cutL R) m = nN at *
       cases hw : wholeW (sumW R m)
       case' true =>
        have hok := HOK.out.trans hw
        rw [hw] at HWH
        have hE : changeC (cutL R) m = 0 := by unfold changeC; rw [if_pos hok]
        have hP : changeP (cutL R) m = cutL (sumW R m) := by unfold changeP; rw [if_pos hok, cutL_flatten]
        rw [hP] at HX6
        rw [hE]
        have HRN := Lib.hid (HSU.out hw)
        clear hok hE hP hw HOK HSU HKP HCH HTR6 HBK6
        go_wp2_with fail
        refine HWH.out.stepB (w0 := w6) (B := w6.heap.size) (.refl _ _) (Nat.le_refl _) ?_
        intro w7 g1 g2 hk7
        have hb7 := hbb6.trans (hk7.mono hbb6.size)
        have HTN := Lib.hid (HT6.out.kept hk7)
        have HBN := Lib.hid (HX6.out.kept hk7)
        clear g1 g2 hk7 hbb6 HT6 HX6 HWH
        go_wp2_with fail
       case' false =>
        have hok := HOK.out.trans hw
        rw [hw] at HWH
        have hE : changeC (cutL R) m = 6 := by unfold changeC; rw [if_neg (by rw [hok]; decide)]
        have hP : changeP (cutL R) m = cutL R := by unfold changeP; rw [if_neg (by rw [hok]; decide)]
        rw [hP] at HX6
        rw [hE]
        have HRN := HKP
        clear hok hE hP hw HOK HSU HKP HCH HT6
        go_wp2_with fail
        refine HWH.out.stepB (w0 := w6) (B := w6.heap.size) (.refl _ _) (Nat.le_refl _) ?_
        intro w8 g1 g2 hk8
        have hb8 := hbb6.trans (hk8.mono hbb6.size)
        have HSM := same_blks (HX6.out.kept hk8) (HBK6.out.kept hk8) HBF.out (blksL_few (by omega)) (blksL_few (by omega))
        rw [decide_eq_true rfl] at HSM
        replace HSM := Lib.hid HSM
        have HTN8 := Lib.hid (HTR6.out.kept hk8)
        have HBN8 := Lib.hid (HBK6.out.kept hk8)
        clear g1 g2 hk8 hbb6 HTR6 HBK6 HX6 HWH
        go_wp2_with fail
        refine HSM.out.stepB (w0 := w8) (B := w8.heap.size) (.refl _ _) (Nat.le_refl _) ?_
        intro w7 g1 g2 hk7
        have hb7 := hb8.trans (hk7.mono hb8.size)
        have HTN := Lib.hid (HTN8.out.kept hk7)
        have HBN := Lib.hid (HBN8.out.kept hk7)
        clear g1 g2 hk7 hb8 HTN8 HBN8 HSM
        go_wp2_with fail
       all_goals
        have hRN := HRN.out.len
        have hRW := HRN.out.wt
        have hRS := HRN.out.sizes
        refine (cut_blocks_calls HTN.out cols.length hRS (by omega) (by omega) (wt_range (by omega)) (HRN.out.short (by omega))).mono ?_
        rintro e w8 ⟨v8, rfl, hb8, hk8⟩
        have HSM := same_blks (HBN.out.kept hk8) hb8 (blks_few HRN.out (by omega) _) (blksL_few (by omega)) (blksL_few (by omega))
        rw [decide_eq_true rfl] at HSM
        replace HSM := Lib.hid HSM
        have HT8 := Lib.hid (HTN.out.kept hk8)
        have HB8 := Lib.hid (HBN.out.kept hk8)
        have hbb8 := hb7.trans (hk8.mono hb7.size)
        obtain ⟨B9, q9, rfl⟩ := blks_slice hb8
        clear hb8 hk8 HTN HBN hRN hRW hRS hb7
        generalize (blksL _ cols.length).length = n9 at HSM ⊢
        go_wp2_with fail
        refine HSM.out.stepB (w0 := w8) (B := w8.heap.size) (.refl _ _) (Nat.le_refl _) ?_
        intro w9 g1 g2 hk9
        have HT9 := Lib.hid (HT8.out.kept hk9)
        have HB9 := Lib.hid (HB8.out.kept hk9)
        have hbb9 := hbb8.trans (hk9.mono hbb8.size)
        clear g1 g2 hk9 hbb8 HT8 HB8 HSM
        go_wp2
        go_roundw
        case rel => exact ⟨k + 1, _, by omega, by go_num, HT9.out, HB9.out, HRN, hbb9⟩
        case measure => simp [intOf]; omega
     ·obtain rfl : k = M.length := by omega
      have HRR := Lib.hid (HR.out.good (by omega) (by omega))
      have HRT : Hid (rightW (cutL R).flatten = true) := by show _ = _; rw [cutL_flatten]; exact decide_eq_true HR.out.right
      have HSHO := Lib.hid (HR.out.short hcn)
      have HFE := Lib.hid (cutL_flatten R)
      have HAL := Lib.hid (cut_all_calls HBK.out (HC.out.kept hb) HRR.out (by rw [cutL_flatten]; omega) (by have := cutL_length_le R; omega) (by omega))
      go_wp2_with fail
      refine HAL.out.mono ?_
      rintro e w6 ⟨v6, he, hT6, hq6⟩
      rw [HRT.out] at he hT6
      rw [if_pos rfl] at he hT6
      rw [HFE.out] at hT6
      subst he
      have hb6 := hb.trans (hq6.mono hB)
      have HT6 := Lib.hid hT6
      have HTR6 := Lib.hid (HT.out.kept hq6)
      obtain ⟨t6, B9, q9, rfl, hx1, hx2⟩ := times_at hT6
      clear hx1 hx2 hT6 hq6 hb hB HAL HT HBK HRR
      generalize hr6 : R.length = r6 at HT6 ⊢
      clear hr6
      go_wp2_with fail
      refine awake_calls.step (w0 := w6) (B := w6.heap.size) (.refl _ _) (Nat.le_refl _) ?_
      intro w7 hk7 _
      have hb7 := hb6.trans (hk7.mono hb6.size)
      have HSM := same_times (HT6.out.kept hk7) (HTR6.out.kept hk7) (by omega) HSHO.out HSHO.out
      rw [decide_eq_true rfl] at HSM
      replace HSM := Lib.hid HSM
      clear hk7 hb6
      go_wp2_with fail
      refine HSM.out.stepB (w0 := w7) (B := w7.heap.size) (.refl _ _) (Nat.le_refl _) ?_
      intro w10 g1 g2 hk10
      have hbe := hb7.trans (hk10.mono hb7.size)
      clear g1 g2 hk10
      go_wp2
      go_ret
      exact ⟨rfl, hbe⟩
theorem sum_twice {R : List Tm} (a b : List Tm) : sumW (sumW R a) b = sumW R (a ++ b) := by
 have h : ofW (sumW R a) = sumW R a := of_of_right (sum_right R a)
 unfold sumW at h ⊢
 rw [h, List.foldl_append]
theorem sum_none {R : List Tm} (h : RightP R) : sumW R [] = R := of_of_right h
theorem okC_cut {R : List Tm} (m : List Tm) : okC (cutL R) m = wholeW (sumW R m) := by unfold okC; rw [cutL_flatten]
theorem changeP_cut {R : List Tm} (m : List Tm) : changeP (cutL R) m = cutL (if okC (cutL R) m = true then sumW R m else R) := by
 unfold changeP
 split
 ·rename_i h; rw [cutL_flatten]
 ·rfl
def afterR (R m : List Tm) : List Tm := if okC (cutL R) m = true then sumW R m else R
theorem changeP_after (R m : List Tm) : changeP (cutL R) m = cutL (afterR R m) := changeP_cut m
theorem Rows0.after {R : List Tm} {cols : List (Int × Bool)} {n k : Nat} (h : Rows0 R cols n k) {m : List Tm} (hf : ∀ t ∈ m, rowN cols t.1 = 0) : Rows0 (afterR R m) cols (n + m.length) (k + wtW m) := by
 unfold afterR
 split
 ·rename_i ho
  exact h.sum hf (by rw [← okC_cut]; exact ho)
 ·exact ⟨h.right, h.there, h.fits, by have := h.len; omega, by have := h.wt; omega⟩
theorem whole_right {R : List Tm} (h : ∀ t ∈ R, 1 ≤ t.2) : wholeW R = true := wholeW_yes fun t ht => by have := h t ht; omega
theorem okC_nil {R : List Tm} {cols : List (Int × Bool)} {n k : Nat} (h : Rows0 R cols n k) : okC (cutL R) [] = true := by rw [okC_cut, sum_none h.right]; exact whole_right h.there
theorem wrote_nil (P : List (List Tm)) : wroteN P [] = 0 := by
 have : ∀ k, wroteTo P [] k = 0 := fun k => by
  unfold wroteTo
  induction k with
  | zero => rfl
  | succ k ih => rw [List.range_succ, List.map_append, List.sum_append, ih]; rfl
 unfold wroteN
 rw [this]; rfl
def PBox (w : World) (B : Nat) (u v : Value) : Prop := w.cell? ⟨B, 0, none⟩ = some u ∧ w.cell? ⟨B, 1, none⟩ = some v
theorem pbox_lit (w : World) (T : TypeId) (u v : Value) : PBox (w.alloc (.cells #[u, v] T)) w.heap.size u v := ⟨World.cell?_alloc_mark w _ _ (0, 0) 0, World.cell?_alloc_mark w _ _ (0, 0) 1⟩
set_option maxHeartbeats 8000000 in
set_option maxRecDepth 100000 in
theorem cutterOnce_calls {w : World} {vc vl v0 v1 : Value} {cols : List (Int × Bool)} {l m0 m1 : List Tm} (hc : ColsIn w vc cols) (hl : TimesIn w vl l) (h0 : TimesIn w v0 m0) (h1 : TimesIn w v1 m1) : GivesAt Tryz.prog 8 #[vc, vl, .agg #[v0, v1]] w (.bool true) := by
 obtain ⟨i0, hi, iz0, iz1, iz2⟩ := info_parts Tryz.infoCb30
 have HC := Lib.hid hc
 have HL := Lib.hid hl
 have HM0 := Lib.hid h0
 have HM1 := Lib.hid h1
 obtain ⟨A2, p2, rfl, hx2⟩ := cols_at hc
 obtain ⟨tl, A1, p1, rfl, hx1, hx4⟩ := times_at hl
 obtain ⟨t0, A3, p3, rfl, hx3, hx5⟩ := times_at h0
 obtain ⟨t1, A4, p4, rfl, hx6, hx7⟩ := times_at h1
 have HU0 : Hid (∀ w', Below w.heap.size w w' → GivesAt Tryz.prog 9 #[.slice A3 m0.length p3, .slice A2 cols.length p2, .int .i64 20] w' (.bool (underM m0 cols 20))) := fun w' hq => underM_calls 20 (HM0.out.kept hq) (HC.out.kept hq)
 have HU1 : Hid (∀ w', Below w.heap.size w w' → GivesAt Tryz.prog 9 #[.slice A4 m1.length p4, .slice A2 cols.length p2, .int .i64 20] w' (.bool (underM m1 cols 20))) := fun w' hq => underM_calls 20 (HM1.out.kept hq) (HC.out.kept hq)
 clear hc hl h0 h1 hx1 hx2 hx3 hx4 hx5 hx6 hx7
 have hbox := pbox_lit w 52 (.slice A3 m0.length p3) (.slice A4 m1.length p4)
 have hb := (Below.refl w.heap.size w).alloc (Nat.le_refl _) (.cells #[.slice A3 m0.length p3, .slice A4 m1.length p4] 52)
 have hB := hb.size
 unfold GivesAt
 unfold PBox at hbox
 obtain ⟨y0, y1⟩ := hbox
 by_cases h1 : 6 < cols.length
 ·have d1 : decide (6 < cols.length) = true := decide_eq_true h1
  have e1 : decide ((6 : Int) < (cols.length : Int)) = true := by rw [decide_eq_true_eq]; omega
  clear h1 HC HL HM0 HM1 HU0 HU1
  go_enter Tryz.func8, Tryz.ntmps8
  go_wp2_with (go_at_call 10; refine awake_calls.step (w0 := w) (B := w.heap.size) hb hB ?_; clear hb hB; intro w9 hb hB)
  go_ret
  exact ⟨rfl, hb⟩
 ·have d1 : decide (6 < cols.length) = false := decide_eq_false h1
  have e1 : decide ((6 : Int) < (cols.length : Int)) = false := by rw [decide_eq_false_iff_not]; omega
  by_cases h2 : 60 < l.length
  ·have d2 : decide (60 < l.length) = true := decide_eq_true h2
   have e2 : decide ((60 : Int) < (l.length : Int)) = true := by rw [decide_eq_true_eq]; omega
   clear h1 h2 HC HL HM0 HM1 HU0 HU1
   go_enter Tryz.func8, Tryz.ntmps8
   go_wp2_with (go_at_call 10; refine awake_calls.step (w0 := w) (B := w.heap.size) hb hB ?_; clear hb hB; intro w9 hb hB)
   go_ret
   exact ⟨rfl, hb⟩
  ·have d2 : decide (60 < l.length) = false := decide_eq_false h2
   have e2 : decide ((60 : Int) < (l.length : Int)) = false := by rw [decide_eq_false_iff_not]; omega
   cases hu0 : underM m0 cols 20 with
   | false =>
    rw [hu0] at HU0
    clear hu0 h1 h2 HC HL HM0 HM1 HU1
    go_enter Tryz.func8, Tryz.ntmps8
    go_wp2_with (first | (go_at_call 9; refine (HU0.out _ hb).stepB (w0 := w) (B := w.heap.size) hb hB ?_; clear hb hB; intro w1 hb hB hq1) | (go_at_call 10; refine awake_calls.step (w0 := w) (B := w.heap.size) hb hB ?_; clear hb hB; intro w9 hb hB))
    go_ret
    exact ⟨rfl, hb⟩
   | true =>
    rw [hu0] at HU0
    cases hu1 : underM m1 cols 20 with
    | false =>
     rw [hu1] at HU1
     clear hu0 hu1 h1 h2 HC HL HM0 HM1
     go_enter Tryz.func8, Tryz.ntmps8
     go_wp2_with fail
     refine (HU0.out _ hb).stepB (w0 := w.alloc (.cells #[.slice A3 m0.length p3, .slice A4 m1.length p4] 52)) (B := w.heap.size + 1) (.refl _ _) (by simp) ?_
     intro w1 g1 g2 hq1
     have hb1 := hb.trans (hq1.mono hB)
     have z1 := cell_kept y1 hq1
     clear g1 g2 hq1 hb hB y0 y1
     have hb := hb1
     have hB := hb.size
     clear hb1
     go_wp2_with (first | (go_at_call 9; refine (HU1.out _ hb).stepB (w0 := w) (B := w.heap.size) hb hB ?_; clear hb hB; intro w2 hb hB hq2) | (go_at_call 10; refine awake_calls.step (w0 := w) (B := w.heap.size) hb hB ?_; clear hb hB; intro w9 hb hB))
     go_ret
     exact ⟨rfl, hb⟩
    | true =>
     rw [hu1] at HU1
     obtain ⟨hf0, hn0, hcn, hw0⟩ := underM_facts hu0
     obtain ⟨hf1, hn1, _, hw1⟩ := underM_facts hu1
     clear hu0 hu1
     have hwm0 : wtW m0 ≤ 21990232555520 := by omega
     have hwm1 : wtW m1 ≤ 21990232555520 := by omega
     have HR := Lib.hid (madeL_rows cols l)
     have HMD := Lib.hid (fun w' (hq : Below w.heap.size w w') => made_calls (HL.out.kept hq) (HC.out.kept hq))
     clear h1 h2 hw0 hw1
     generalize madeL cols l = R at *
     have HR1 := Lib.hid (HR.out.after hf0)
     have hr1n := HR1.out.len
     have hr1w := HR1.out.wt
     have HCH0 := Lib.hid (HR.out.changing hf0 (by omega) (by omega) (by omega))
     have HCH1 := Lib.hid (HR1.out.changing hf1 (by omega) (by omega) (by omega))
     have HF2 : Hid (∀ t ∈ m0 ++ m1, rowN cols t.1 = 0) := fun t ht => (List.mem_append.1 ht).elim (hf0 t) (hf1 t)
     have hw2 : wtW (m0 ++ m1) ≤ 43980465111040 := by rw [wtW_append]; omega
     have hn2 : (m0 ++ m1).length ≤ 40 := by rw [List.length_append]; omega
     have HCH2 := Lib.hid (HR.out.changing HF2.out (by omega) (by omega) (by omega))
     have HCH3 := Lib.hid (HR.out.changing (more := []) (fun t ht => absurd ht (by simp)) (by simp) (by simp [wtW]) (by omega))
     have HE0 : Hid (changeC (cutL R) m0 = 0 → okC (cutL R) m0 = true) := fun h => by
      unfold changeC at h
      split at h
      ·assumption
      ·exact absurd h (by decide)
     have HE1 : Hid (changeC (cutL (afterR R m0)) m1 = 0 → okC (cutL (afterR R m0)) m1 = true) := fun h => by
      unfold changeC at h
      split at h
      ·assumption
      ·exact absurd h (by decide)
     have HFIN : Hid (okC (cutL R) m0 = true → okC (cutL (afterR R m0)) m1 = true → okC (cutL R) (m0 ++ m1) = true ∧ changeP (cutL (afterR R m0)) m1 = changeP (cutL R) (m0 ++ m1)) := fun h0 h1 => by
      have e0 : afterR R m0 = sumW R m0 := if_pos h0
      rw [e0] at h1 ⊢
      rw [okC_cut, sum_twice] at h1
      have h2 : okC (cutL R) (m0 ++ m1) = true := by rw [okC_cut]; exact h1
      refine ⟨h2, ?_⟩
      rw [changeP_after, changeP_after]
      unfold afterR
      rw [if_pos h2, if_pos (by rw [okC_cut, sum_twice]; exact h1), sum_twice]
     have HNIL : Hid (changeP (cutL R) [] = cutL R ∧ changeN (cutL R) [] = 0 ∧ changeC (cutL R) [] = 0) := by
      have h := okC_nil HR.out
      refine ⟨?_, ?_, ?_⟩
      ·rw [changeP_after]; unfold afterR; rw [if_pos h, sum_none HR.out.right]
      ·unfold changeN; rw [if_pos h, wrote_nil]
      ·unfold changeC; rw [if_pos h]
     clear hf0 hf1
     go_enter Tryz.func8, Tryz.ntmps8
     go_wp2_with fail
     refine (HU0.out _ hb).stepB (w0 := w.alloc (.cells #[.slice A3 m0.length p3, .slice A4 m1.length p4] 52)) (B := w.heap.size + 1) (.refl _ _) (by simp) ?_
     intro w1 g1 g2 hq1
     have hb1 := hb.trans (hq1.mono hB)
     have z0 := cell_kept y0 hq1
     have z1 := cell_kept y1 hq1
     clear g1 g2 hq1 hb hB y0 y1 HU0
     go_wp2_with fail
     refine (HU1.out _ hb1).stepB (w0 := w1) (B := w1.heap.size) (.refl _ _) (Nat.le_refl _) ?_
     intro w2 g1 g2 hq2
     have hb2 := hb1.trans (hq2.mono hb1.size)
     replace z0 := cell_kept z0 hq2
     replace z1 := cell_kept z1 hq2
     clear g1 g2 hq2 hb1 HU1
     go_wp2_with fail
     refine (HMD.out _ hb2).stepB (w0 := w2) (B := w2.heap.size) (.refl _ _) (Nat.le_refl _) ?_
     intro v3 w3 hT3 g1 g2 hq3
     have hb3 := hb2.trans (hq3.mono hb2.size)
     replace z0 := cell_kept z0 hq3
     replace z1 := cell_kept z1 hq3
     have HBL := Lib.hid (cut_blocks_calls hT3 cols.length HR.out.sizes (by omega) (by have := HR.out.len; omega) (wt_range (by have := HR.out.wt; omega)) (HR.out.short (by omega)))
     obtain ⟨t3, B3, q3, rfl, hx1, hx2⟩ := times_at hT3
     clear g1 g2 hq3 hb2 hT3 hx1 hx2 HMD
     generalize R.length = n3 at HBL ⊢
     go_wp2_with fail
     refine HBL.out.mono ?_
     rintro e w4 ⟨v4, rfl, hv4, hq4⟩
     have hb4 := hb3.trans (hq4.mono hb3.size)
     replace z0 := cell_kept z0 hq4
     replace z1 := cell_kept z1 hq4
     have HB4 := Lib.hid hv4
     obtain ⟨B4, q4, rfl⟩ := blks_slice hv4
     clear hv4 hq4 hb3 HBL
     generalize hn4 : (blksL (cutL R) cols.length).length = n4 at HB4 ⊢
     clear hn4
     go_wp2_with fail
     refine (cut_change_calls HB4.out (HC.out.kept hb4) (HM0.out.kept hb4) HCH0.out (cut_cut R)).mono ?_
     rintro e w5 ⟨v5, rfl, hv5, hq5⟩
     rw [changeP_after] at hv5
     have hb5 := hb4.trans (hq5.mono hb4.size)
     replace z0 := cell_kept z0 hq5
     replace z1 := cell_kept z1 hq5
     have HB5 := Lib.hid (HB4.out.kept hq5)
     have HX5 := Lib.hid hv5
     obtain ⟨B5, q5, rfl⟩ := blks_slice hv5
     clear hv5 hq5 hb4 HB4
     generalize hn5 : (blksL (cutL (afterR R m0)) cols.length).length = n5 at HX5 ⊢
     clear hn5
     generalize changeN (cutL R) m0 = nN0 at *
     generalize changeC (cutL R) m0 = E0 at *
     go_wp2_with fail
     refine (cut_change_calls HX5.out (HC.out.kept hb5) (HM1.out.kept hb5) HCH1.out (cut_cut _)).mono ?_
     rintro e w6 ⟨v6, rfl, hv6, hq6⟩
     have hb6 := hb5.trans (hq6.mono hb5.size)
     replace z0 := cell_kept z0 hq6
     replace z1 := cell_kept z1 hq6
     have HB6 := Lib.hid (HB5.out.kept hq6)
     have HY6 := Lib.hid hv6
     obtain ⟨B6, q6, rfl⟩ := blks_slice hv6
     clear hv6 hq6 hb5 HB5 HX5
     generalize hn6 : (blksL (changeP (cutL (afterR R m0)) m1) cols.length).length = n6 at HY6 ⊢
     clear hn6
     generalize changeN (cutL (afterR R m0)) m1 = nN1 at *
     generalize changeC (cutL (afterR R m0)) m1 = E1 at *
     obtain ⟨ta, hsa, hra⟩ := HM0.out.kept hb6
     obtain ⟨tb, hsb, hrb⟩ := HM1.out.kept hb6
     have hqa := Below.drew (Below.alloc (.refl w6.heap.size w6) (Nat.le_refl _) (.cells #[] 30))
     have za0 := cell_kept z0 (Below.alloc (.refl w6.heap.size w6) (Nat.le_refl _) (.cells #[] 30))
     have za1 := cell_kept z1 (Below.alloc (.refl w6.heap.size w6) (Nat.le_refl _) (.cells #[] 30))
     have HQA := Lib.hid hqa
     have HSA := Lib.hid (SliceOf.later hsa hqa)
     have HOA := Lib.hid (RowsOf.one_cell hra)
     have HOB := Lib.hid (RowsOf.one_cell hrb)
     have HEM : Hid (Own ((w6.alloc (.cells #[] 30)).drew) w6.heap.size 2 (.slice (some ⟨w6.heap.size, 0, none⟩) 0 0) 0 []) := own_empty 2 (Nat.le_refl _) (by simp [World.drew])
     have HSB := Lib.hid hsb
     have HRA := Lib.hid hra
     have HRB := Lib.hid hrb
     have HZ1 := Lib.hid z1
     have HB66 := Lib.hid hb6
     have i40 : m0.length ≤ 20 := hn0
     have i41 : m1.length ≤ 20 := hn1
     clear hsa hra hsb hrb hqa hb6
     go_wp2_with fail
     go_region_law (first
      | (refine step_append_src rfl (.tmp 70) (.tmp 72) 23 rfl 30 i0 (.agg #[.slice none 0 0, .int .i64 0]) 2 32 Tryz.underlying23 hi iz0 iz1 iz2 rfl (by decide) (B := w6.heap.size) (.slice (some ⟨w6.heap.size, 0, none⟩) 0 0) 0 [] ?_ HEM.out (.slice A3 m0.length p3) m0.length (timesV ta) ?_ HSA.out HOA.out ?_ ?_ ?_ ?_; rfl; rfl; (focus (unfold maxLen; omega)); (focus omega); (focus exact HQA.out.size); intro v7 w7 hO7 hg7 ha7; have hq7 := HQA.out.grown hg7 HQA.out.size (fun q hq => (Own.lt HEM.out q hq).1); have z71 := cell_kept HZ1.out hq7; have HQ7 := Lib.hid hq7; have HO7 := Lib.hid hO7)
      | (refine step_append_src rfl (.tmp 73) (.tmp 75) 23 rfl 30 i0 (.agg #[.slice none 0 0, .int .i64 0]) 2 32 Tryz.underlying23 hi iz0 iz1 iz2 rfl (by decide) (B := w6.heap.size) v7 (0 + m0.length) ([] ++ timesV ta) ?_ HO7.out (.slice A4 m1.length p4) m1.length (timesV tb) ?_ (SliceOf.later HSB.out HQ7.out) HOB.out ?_ ?_ ?_ ?_; rfl; rfl; (focus (unfold maxLen; omega)); (focus omega); (focus exact HQ7.out.size); intro v8 w8 hO8 hg8 ha8; have hq8 := HQ7.out.grown hg8 HQ7.out.size (fun q hq => (Own.lt HO7.out q hq).1); have HQ8 := Lib.hid hq8; have HO8 := Lib.hid hO8)
      | (go_simp; go_at_call 22; have HT8 := TimesIn.of (w := w8) (v := v8) (tv := ta ++ tb) (l := m0 ++ m1) (n := 0 + m0.length + m1.length) (by rw [timesV_append]; have h8 := HO8.out.slice; rwa [List.nil_append] at h8) ((HRA.out.append HRB.out).kept HQ8.out) (by rw [List.length_append]; omega); refine (cut_change_calls (HB6.out.kept HQ8.out) (HC.out.kept (HB66.out.trans (HQ8.out.mono HB66.out.size))) HT8 HCH2.out (cut_cut R)).mono ?_; rintro e w9 ⟨v9, rfl, hv9, hq9⟩))
     all_goals
      have hq69 := HQ8.out.trans (hq9.mono HQ8.out.size)
      have HB99 := Lib.hid (HB66.out.trans (hq69.mono HB66.out.size))
      have HB9 := Lib.hid (HB6.out.kept hq69)
      have HY9 := Lib.hid (HY6.out.kept hq69)
      have HZ9 := Lib.hid hv9
      obtain ⟨B9, q9, rfl⟩ := blks_slice hv9
      clear hv9 hq9 hq69 HT8 HO8 HQ8 hq8 ha8 hg8 hO8 HO7 HQ7 hq7 ha7 hg7 hO7 HB66 HZ1 HRA HRB HSB HEM HOA HOB HSA HQA HB6 HY6 z71 za0 za1 z0 z1 HM0 HM1 HL
      generalize hn9 : (blksL (changeP (cutL R) (m0 ++ m1)) cols.length).length = n9 at HZ9 ⊢
      clear hn9
      generalize changeN (cutL R) (m0 ++ m1) = nN2 at *
      have HE2 : Hid (okC (cutL R) (m0 ++ m1) = true → changeC (cutL R) (m0 ++ m1) = 0) := fun h => by unfold changeC; rw [if_pos h]
      generalize changeC (cutL R) (m0 ++ m1) = E2 at *
      go_simp
      by_cases hE0 : E0 = 0
      case' neg =>
       have d5 : (E0 != 0) = true := by rw [bne_iff_ne]; exact hE0
       clear hE0 HE0 HE1 HE2 HFIN
       go_wp2_with fail
       refine awake_calls.step (w0 := w9) (B := w9.heap.size) (.refl _ _) (Nat.le_refl _) ?_
       intro w10 hk10 _
       have hbe := HB99.out.trans (hk10.mono HB99.out.size)
       clear hk10
       go_wp2
       go_ret
       exact ⟨rfl, hbe⟩
      case' pos =>
       have d5 : (E0 != 0) = false := by rw [hE0]; rfl
       by_cases hE1 : E1 = 0
       case' neg =>
        have d6 : (E1 != 0) = true := by rw [bne_iff_ne]; exact hE1
        clear hE0 hE1 HE0 HE1 HE2 HFIN
        go_wp2_with fail
        refine awake_calls.step (w0 := w9) (B := w9.heap.size) (.refl _ _) (Nat.le_refl _) ?_
        intro w10 hk10 _
        have hbe := HB99.out.trans (hk10.mono HB99.out.size)
        clear hk10
        go_wp2
        go_ret
        exact ⟨rfl, hbe⟩
       case' pos =>
        have d6 : (E1 != 0) = false := by rw [hE1]; rfl
        obtain ⟨hg, hY⟩ := HFIN.out (HE0.out hE0) (HE1.out hE1)
        have d7 : (E2 == 0) = true := by rw [beq_iff_eq]; exact HE2.out hg
        rw [hY] at HY9
        have hAf := HCH2.out.after
        have hcf := cutL_length_le R
        have hrl := HR.out.len
        clear hE0 hE1 HE0 HE1 HE2 HFIN hg hY
        go_wp2_with fail
        refine (cut_change_calls HB9.out (HC.out.kept HB99.out) (TimesIn.nil_ w9 none 0) HCH3.out (cut_cut R)).mono ?_
        rintro e w10 ⟨v10, he, hv10, hq10⟩
        rw [HNIL.out.2.1, HNIL.out.2.2] at he
        rw [HNIL.out.1] at hv10
        subst he
        have HB10 := Lib.hid (HB9.out.kept hq10)
        have HY10 := Lib.hid (HY9.out.kept hq10)
        have HZ10 := Lib.hid (HZ9.out.kept hq10)
        have hbe10 := HB99.out.trans (hq10.mono HB99.out.size)
        have HW10 := Lib.hid hv10
        obtain ⟨B10, q10, rfl⟩ := blks_slice hv10
        clear hv10 hq10 HB9 HY9 HZ9 HB99
        generalize hn10 : (blksL (cutL R) cols.length).length = n10 at HW10 ⊢
        clear hn10
        go_wp2_with fail
        refine awake_calls.step (w0 := w10) (B := w10.heap.size) (.refl _ _) (Nat.le_refl _) ?_
        intro w11 hk11 _
        have hbe11 := hbe10.trans (hk11.mono hbe10.size)
        have HB11 := Lib.hid (HB10.out.kept hk11)
        have HW11 := Lib.hid (HW10.out.kept hk11)
        have HS1 := same_blks (HY10.out.kept hk11) (HZ10.out.kept hk11) (by rw [blksL_length]; omega) (blksL_few (by omega)) (blksL_few (by omega))
        rw [decide_eq_true rfl] at HS1
        replace HS1 := Lib.hid HS1
        clear hk11 hbe10 HB10 HY10 HZ10 HW10
        go_wp2_with fail
        refine HS1.out.stepB (w0 := w11) (B := w11.heap.size) (.refl _ _) (Nat.le_refl _) ?_
        intro w12 g1 g2 hk12
        have hbe12 := hbe11.trans (hk12.mono hbe11.size)
        have HS2 := same_blks (HW11.out.kept hk12) (HB11.out.kept hk12) (by rw [blksL_length]; omega) (blksL_few (by omega)) (blksL_few (by omega))
        rw [decide_eq_true rfl] at HS2
        replace HS2 := Lib.hid HS2
        clear g1 g2 hk12 hbe11 HS1 HB11 HW11
        go_wp2_with fail
        refine HS2.out.stepB (w0 := w12) (B := w12.heap.size) (.refl _ _) (Nat.le_refl _) ?_
        intro w13 g1 g2 hk13
        have hbe13 := hbe12.trans (hk13.mono hbe12.size)
        clear g1 g2 hk13 hbe12 HS2
        go_wp2
        go_ret
        exact ⟨rfl, hbe13⟩
theorem blks_one {w : World} {b off n cap : Nat} {L : List Blk} (h : BlksIn w (.slice (some ⟨b, off, none⟩) n cap) L) (i : Nat) (hi : i < L.length) : BlksIn w (.slice (some ⟨b, off + i * 3, none⟩) 1 (cap - i)) [L[i]] ∧ n = L.length ∧ n ≤ cap := by
 obtain ⟨tv, rfl, hs, hr⟩ := h
 rw [List.length_map] at hi
 have hs2 := hs
 obtain ⟨h1, h2, A, c, e, hroom, h4⟩ := hs2
 cases e
 rw [List.length_map] at h1 h2 h4 hroom ⊢
 refine ⟨⟨[tv[i]], by simp, ?_, fun t ht => by rw [List.mem_singleton.1 ht]; exact hr _ (List.getElem_mem hi)⟩, rfl, hroom⟩
 obtain ⟨b', off', e1, hb, hc⟩ := h4 (by omega)
 cases e1
 refine ⟨by simp [blksV, blkC], by unfold maxLen; simp, _, _, rfl, by simp; omega, fun _ => ⟨b, off + i * 3, rfl, hb, fun j u hu => ?_⟩⟩
 have e2 : blksV [tv[i]] = blkC tv[i] := by simp [blksV]
 rw [e2] at hu
 rw [Nat.add_assoc]
 refine hc _ u ?_
 have hg := blksV_get tv i hi
 unfold blkC at hu
 match j with
 | 0 => simpa using (hg.1).trans (by simpa using hu)
 | 1 => exact (hg.2.1).trans (by simpa using hu)
 | 2 => exact (hg.2.2).trans (by simpa using hu)
 | j + 3 => simp at hu
theorem slice_mid (W : World) (b off n cap i : Nat) (h : i + 1 ≤ cap) : (Instr.sliceAt 36 (.slice (some ⟨b, off, none⟩) n cap) (some (.int .i64 i)) (some (.int .i64 ((i : Int) + 1))) none).run Tryz.prog W = .ok (.slice (some ⟨b, off + i * 3, none⟩) 1 (cap - i)) W := by
 have hu : Tryz.prog.underlying 36 = some (.slice (Tryz.prog.elem 36)) := by kernel_rfl
 have he : Tryz.prog.elem 36 = 50 := by kernel_rfl
 rw [run_sliceAt_slice _ _ _ _ _ _ hu, run_slice_lh _ _ _ _ _ hu _ _ _ _ (by omega) (by omega) (by omega), he, Tryz.sizeOf50]
 have e1 : ((i : Int) + 1).toNat = i + 1 := by omega
 have e2 : ¬ cap = i := by omega
 simp [Result.andThen, sliced, e1, e2, Addr.add]
set_option maxHeartbeats 8000000 in
set_option maxRecDepth 100000 in
theorem cutterFew_calls {w : World} {vc vl rv : Value} {cols : List (Int × Bool)} {l : List Tm} {row : List ByteArray} {n : Int} (hc : ColsIn w vc cols) (hl : TimesIn w vl l) (hx : StrsIn w rv row) : GivesAt Tryz.prog 6 #[vc, vl, .agg #[rv, .int .i64 n]] w (.bool true) := by
 have HC := Lib.hid hc
 have HL := Lib.hid hl
 have HX := Lib.hid hx
 obtain ⟨A2, p2, rfl, hx2⟩ := cols_at hc
 obtain ⟨tl, A1, p1, rfl, hx1, hx4⟩ := times_at hl
 obtain ⟨Ax, px, rfl, hx5⟩ := one_at hx
 clear hc hl hx hx1 hx2 hx4 hx5
 have hbox := box_tm w 30 (.slice Ax row.length px) n
 have hb := (Below.refl w.heap.size w).alloc (Nat.le_refl _) (.cells #[.slice Ax row.length px, .int .i64 n] 30)
 have hB := hb.size
 obtain ⟨y0, y1, _, _⟩ := hbox.cells
 have HLIT : Hid (∀ w', Below w.heap.size w w' → TimesIn (w'.alloc (.cells #[.slice Ax row.length px, .int .i64 n] 30)) (.slice (some ⟨w'.heap.size, 0, none⟩) 1 1) [(row, n)]) := fun w' hq =>
  lit_times w' 30 [(.slice Ax row.length px, n)] [(row, n)] ⟨⟨StrsIn.kept HX.out hq, rfl⟩, trivial⟩ (by show 1 ≤ 1000; decide)
 clear hbox
 unfold GivesAt
 by_cases h1 : 6 < cols.length
 ·have d1 : decide (6 < cols.length) = true := decide_eq_true h1
  have e1 : decide ((6 : Int) < (cols.length : Int)) = true := by rw [decide_eq_true_eq]; omega
  clear h1 HC HL HX HLIT
  go_enter Tryz.func6, Tryz.ntmps6
  go_wp2_with (go_at_call 10; refine awake_calls.step (w0 := w) (B := w.heap.size) hb hB ?_; clear hb hB; intro w9 hb hB)
  go_ret
  exact ⟨rfl, hb⟩
 ·have d1 : decide (6 < cols.length) = false := decide_eq_false h1
  have e1 : decide ((6 : Int) < (cols.length : Int)) = false := by rw [decide_eq_false_iff_not]; omega
  by_cases h2 : 60 < l.length
  ·have d2 : decide (60 < l.length) = true := decide_eq_true h2
   have e2 : decide ((60 : Int) < (l.length : Int)) = true := by rw [decide_eq_true_eq]; omega
   clear h1 h2 HC HL HX HLIT
   go_enter Tryz.func6, Tryz.ntmps6
   go_wp2_with (go_at_call 10; refine awake_calls.step (w0 := w) (B := w.heap.size) hb hB ?_; clear hb hB; intro w9 hb hB)
   go_ret
   exact ⟨rfl, hb⟩
  ·have d2 : decide (60 < l.length) = false := decide_eq_false h2
   have e2 : decide ((60 : Int) < (l.length : Int)) = false := by rw [decide_eq_false_iff_not]; omega
   have hq0 := Below.alloc (.refl (w.alloc (.cells #[.slice Ax row.length px, .int .i64 n] 30)).heap.size (w.alloc (.cells #[.slice Ax row.length px, .int .i64 n] 30))) (Nat.le_refl _) (.cells #[.slice Ax row.length px, .int .i64 n] 30)
   have HU := Lib.hid (underM_calls 1 (HLIT.out _ hb) (HC.out.kept (hb.trans (hq0.mono hB))))
   have hb2 := hb.trans (hq0.mono hB)
   have z0 := cell_kept y0 hq0
   have z1 := cell_kept y1 hq0
   have hsz : (w.alloc (.cells #[.slice Ax row.length px, .int .i64 n] 30)).heap.size = w.heap.size + 1 := by simp
   rw [hsz] at HU
   clear hq0 hb hB y0 y1 hsz
   go_enter Tryz.func6, Tryz.ntmps6
   go_wp2_with fail
   generalize (w.alloc (.cells #[.slice Ax row.length px, .int .i64 n] 30)).alloc (.cells #[.slice Ax row.length px, .int .i64 n] 30) = w2 at *
   have hB2 := hb2.size
   cases hu : underM [(row, n)] cols 1 with
   | false =>
    rw [hu] at HU
    clear hu h1 h2 HC HL HX HLIT
    refine HU.out.stepB (w0 := w2) (B := w2.heap.size) (.refl _ _) (Nat.le_refl _) ?_
    intro w3 g1 g2 hk3
    have hb3 := hb2.trans (hk3.mono hB2)
    clear g1 g2 hk3 hb2 hB2
    go_wp2_with fail
    refine awake_calls.step (w0 := w3) (B := w3.heap.size) (.refl _ _) (Nat.le_refl _) ?_
    intro w9 hk9 _
    have hbe := hb3.trans (hk9.mono hb3.size)
    clear hk9
    go_wp2
    go_ret
    exact ⟨rfl, hbe⟩
   | true =>
    rw [hu] at HU
    obtain ⟨hf, _, hcn, hw⟩ := underM_facts hu
    have hw1 : wtW [(row, n)] ≤ 1099511627776 := by simpa using hw
    have HR := Lib.hid (madeL_rows cols l)
    have HMD := Lib.hid (fun w' (hq : Below w.heap.size w w') => made_calls (HL.out.kept hq) (HC.out.kept hq))
    generalize madeL cols l = R at *
    have HCH := Lib.hid (HR.out.changing hf (by show 60 + 1 ≤ 4096; decide) (by omega) (by omega))
    have hrl := HR.out.len
    have hPl := cutL_length_le R
    clear hu h1 h2 hf hw HL HX
    refine HU.out.stepB (w0 := w2) (B := w2.heap.size) (.refl _ _) (Nat.le_refl _) ?_
    intro w3 g1 g2 hk3
    have hb3 := hb2.trans (hk3.mono hB2)
    replace z0 := cell_kept z0 hk3
    replace z1 := cell_kept z1 hk3
    clear g1 g2 hk3 hb2 hB2 HU
    go_wp2_with fail
    refine (HMD.out _ hb3).stepB (w0 := w3) (B := w3.heap.size) (.refl _ _) (Nat.le_refl _) ?_
    intro v4 w4 hT4 g1 g2 hk4
    have hb4 := hb3.trans (hk4.mono hb3.size)
    replace z0 := cell_kept z0 hk4
    replace z1 := cell_kept z1 hk4
    have HBL := Lib.hid (cut_blocks_calls hT4 cols.length HR.out.sizes (by omega) (by omega) (wt_range (by have := HR.out.wt; omega)) (HR.out.short (by omega)))
    obtain ⟨t4, B4, q4, rfl, hx1, hx2⟩ := times_at hT4
    clear g1 g2 hk4 hb3 hT4 hx1 hx2 HMD
    generalize hn4 : R.length = n4 at HBL ⊢
    clear hn4
    go_wp2_with fail
    refine HBL.out.mono ?_
    rintro e w5 ⟨v5, rfl, hv5, hk5⟩
    have hb5 := hb4.trans (hk5.mono hb4.size)
    replace z0 := cell_kept z0 hk5
    replace z1 := cell_kept z1 hk5
    have HB5 := Lib.hid hv5
    obtain ⟨B5, q5, rfl⟩ := blks_slice hv5
    rw [blksL_length] at HB5 ⊢
    have hq5 := Below.alloc (.refl w5.heap.size w5) (Nat.le_refl _) (.cells #[.slice Ax row.length px, .int .i64 n] 30)
    have HM5 := Lib.hid (HLIT.out w5 hb5)
    have HB6 := Lib.hid (HB5.out.kept hq5)
    have HC6 := Lib.hid (HC.out.kept (hb5.trans (hq5.mono hb5.size)))
    have HBB := Lib.hid (hb5.trans (hq5.mono hb5.size))
    clear hv5 hk5 hb4 HBL hq5 hb5 HB5 HLIT
    go_wp2_with fail
    refine (cut_change_calls HB6.out HC6.out HM5.out HCH.out (cut_cut R)).mono ?_
    rintro e w7 ⟨v7, rfl, hv7, hk7⟩
    have HX7 := Lib.hid hv7
    have HB7 := Lib.hid (HB6.out.kept hk7)
    have HBE := Lib.hid (HBB.out.trans (hk7.mono HBB.out.size))
    clear hv7 hk7 HB6 HBB HC6 HM5 z0 z1
    cases hok : okC (cutL R) [(row, n)] with
    | false =>
     have hE : changeC (cutL R) [(row, n)] = 6 := by unfold changeC; rw [if_neg (by rw [hok]; decide)]
     rw [hE]
     obtain ⟨B8, q8, rfl⟩ := blks_slice HX7.out
     generalize (blksL (changeP (cutL R) [(row, n)]) cols.length).length = n8 at *
     generalize changeN (cutL R) [(row, n)] = nN at *
     clear hok hE
     go_wp2_with fail
     refine awake_calls.step (w0 := w7) (B := w7.heap.size) (.refl _ _) (Nat.le_refl _) ?_
     intro w9 hk9 _
     have hbe := HBE.out.trans (hk9.mono HBE.out.size)
     clear hk9
     go_wp2
     go_ret
     exact ⟨rfl, hbe⟩
    | true =>
     have hE : changeC (cutL R) [(row, n)] = 0 := by unfold changeC; rw [if_pos hok]
     have hN : changeN (cutL R) [(row, n)] = wroteTo (cutL R) [(row, n)] (cutL R).length + 1 := by unfold changeN; rw [if_pos hok]; rfl
     have hP : changeP (cutL R) [(row, n)] = cutL (putW R (row, n)) := by
      unfold changeP
      rw [if_pos hok, cutL_flatten]
      show cutL (putW (ofW R) (row, n)) = _
      rw [of_of_right HR.out.right]
     have HW := Lib.hid (wrote_most (cutL R) (row, n))
     have HK : Hid ((blksL (cutL R) cols.length).length ≤ keptTo (blksL (cutL R) cols.length) (blksL (cutL (putW R (row, n))) cols.length) (blksL (cutL R) cols.length).length + 2) := by
      obtain ⟨A, M, B, Z, e1, e2, e3⟩ := few_cut HR.out.right (row, n)
      rw [e1, e3]
      exact kept_most cols.length e2
     have hML : ∀ k, mostTo (cutL R) k ≤ 120 := fun k => by
      induction k with
      | zero => exact Nat.zero_le _
      | succ k ih =>
       have hone : ∀ i, ((cutL R).getD i []).length ≤ 60 := fun i => by
        rw [List.getD_eq_getElem?_getD]
        by_cases hi : i < (cutL R).length
        ·rw [List.getElem?_eq_getElem hi]
         exact Nat.le_trans (piece_small (List.getElem_mem hi)) hrl
        ·rw [List.getElem?_eq_none (by omega)]; exact Nat.zero_le _
       have h2 : twoN (cutL R) k ≤ 120 := by
        unfold twoN
        have a1 := hone k
        have a2 := hone (k - 1)
        split <;> omega
       show max (mostTo (cutL R) k) (twoN (cutL R) k) ≤ 120
       omega
     rw [hE, hN]
     rw [hP] at HX7
     have hpl2 := put_length R (row, n)
     have hP2 := cutL_length_le (putW R (row, n))
     obtain ⟨B8, q8, rfl⟩ := blks_slice HX7.out
     rw [blksL_length] at HX7 ⊢
     have HML := Lib.hid hML
     clear hok hE hN hP hML HR HCH
     generalize hP0 : cutL R = P at *
     generalize hQ0 : cutL (putW R (row, n)) = Q at *
     have hpn : P.length ≤ 60 := by omega
     have hqn : Q.length ≤ 61 := by omega
     clear hP0 hQ0 hrl hPl hpl2 hP2
     go_wp2_with fail
     have HBL : Hid (∀ k (hk : k < P.length) (hk2 : k < (blksL P cols.length).length), (blksL P cols.length)[k] = blockOf P[k] cols.length) := fun k _ hk2 => blksL_get P cols.length k hk2
     have HLB : Hid ((blksL P cols.length).length = P.length) := blksL_length _ _
     have HLC : Hid ((blksL Q cols.length).length = Q.length) := blksL_length _ _
     have HFB := Lib.hid (blksL_few (P := P) (K := cols.length) (by omega))
     have HFC := Lib.hid (blksL_few (P := Q) (K := cols.length) (by omega))
     obtain ⟨B5', q5', e5, hat5⟩ := blksL_at HB7.out
     simp only [Value.slice.injEq, true_and] at e5
     obtain ⟨rfl, rfl⟩ := e5
     have HAT5 := Lib.hid hat5
     clear hat5 HBL
     generalize blksL P cols.length = bL at *
     generalize blksL Q cols.length = cL at *
     have HC5 : Hid (∀ k, k < P.length → ∃ b off, B5 = some ⟨b, off, none⟩ ∧ b < w7.heap.size) := fun k hk => by
      obtain ⟨b, off, e, hb, _⟩ := HAT5.out k hk
      exact ⟨b, off, e, hb⟩
     have HC8 : Hid (∀ j, j < Q.length → ∃ b off, B8 = some ⟨b, off, none⟩ ∧ b < w7.heap.size) := fun j hj => by
      obtain ⟨A, c, e, hat⟩ := blks_at HX7.out
      obtain ⟨b, off, ea, hb, _⟩ := hat j (by rw [HLC.out]; exact hj)
      simp only [Value.slice.injEq] at e
      exact ⟨b, off, e.1.trans ea, hb⟩
     go_loopw [12, 14] (fun x i wr => ∃ k : Nat, k ≤ P.length ∧ i = .int .i64 k ∧ x = .int .i64 (keptTo bL cL k) ∧ Below w7.heap.size w7 wr) (fun _ i _ => P.length - (intOf i).toNat)
     case atStart => exact ⟨0, Nat.zero_le _, rfl, rfl, .refl _ _⟩
     case round =>
      obtain ⟨k, hk, rfl, rfl, hq⟩ := hrel
      by_cases hlt : k < P.length
      ·obtain ⟨bb, ob, rfl, hbl⟩ := HC5.out k hlt
       have hkb : k < bL.length := by rw [HLB.out]; exact hlt
       have HO5 := Lib.hid (fun w' (hw : Below w7.heap.size w7 w') => (blks_one (HB7.out.kept hw) k hkb).1)
       have hcap := (blks_one HB7.out k hkb).2.2
       have HKN := Lib.hid (keptTo_next bL cL k hkb)
       have hkl := keptTo_le bL cL k
       have HT5 := Lib.hid (HFB.out bL[k] (List.getElem_mem hkb))
       generalize hy : bL[k] = y at *
       generalize keptTo bL cL k = kp at *
       clear hy
       obtain ⟨wo, hwo⟩ : ∃ wo, wo = wr := ⟨_, rfl⟩
       have HQ := Lib.hid hq
       rw [← hwo] at HQ
       go_wp2_with fail
       rw [← hwo]
       clear hwo hq
       go_loopw [15, 16] (fun x i wr => ∃ j : Nat, j ≤ Q.length ∧ i = .int .i64 j ∧ x = .bool (hasB (cL.take j) y) ∧ Below wo.heap.size wo wr) (fun _ i _ => Q.length - (intOf i).toNat)
       case atStart => exact ⟨0, Nat.zero_le _, rfl, rfl, .refl _ _⟩
       case round =>
        obtain ⟨j, hj, rfl, rfl, hq⟩ := hrel
        by_cases hlj : j < Q.length
        ·have hjc : j < cL.length := by rw [HLC.out]; exact hlj
         have HN := Lib.hid (hasB_next cL y j hjc)
         generalize hasB (cL.take j) y = is at *
         cases his : is with
         | true =>
          subst his
          have HN2 : Hid (hasB (cL.take (j + 1)) y = true) := HN.out.trans (Bool.true_or _)
          go_wp2_with fail
          refine wp_region_quiet_below (by kernel_rfl) (by kernel_rfl) ?_
          repeat (first | go_big_quiet_skip | (go_big_quiet_want; go_big_quiet_op; go_big_quiet_on))
          refine wpQuiet_nil ?_
          rintro w8 ⟨p8, hw8⟩
          have hq8 : Below wr.heap.size wr w8 := hw8 ▸ below_regrown wr p8.d p8.os
          have hqq := hq.trans (hq8.mono hq.size)
          clear hw8 hq8 hq
          go_wp2
          go_roundw
          case rel => exact ⟨j + 1, by omega, by go_num, by rw [HN2.out], hqq⟩
          case measure => simp [intOf]; omega
         | false =>
          subst his
          obtain ⟨bc, oc, rfl, hbc⟩ := HC8.out j hlj
          have hcap8 := (blks_one HX7.out j hjc).2.2
          have hw7 := HQ.out.trans (hq.mono HQ.out.size)
          have HSM : Hid (∀ w', Below wr.heap.size wr w' → GivesAt Tryz.prog 18 #[.slice (some ⟨bb, ob + k * 3, none⟩) 1 (q5 - k), .slice (some ⟨bc, oc + j * 3, none⟩) 1 (q8 - j)] w' (.bool (decide (y = cL[j])))) := fun w' hww => by
           have hw7' := hw7.trans (hww.mono hw7.size)
           have := same_blks (HO5.out w' hw7') ((blks_one (HX7.out.kept hw7') j hjc).1) (by show 1 ≤ 1000000; decide) (fun t ht => by rw [List.mem_singleton.1 ht]; exact HT5.out) (fun t ht => by rw [List.mem_singleton.1 ht]; exact HFC.out _ (List.getElem_mem hjc))
           have e : decide ([y] = [cL[j]]) = decide (y = cL[j]) := by simp
           rwa [e] at this
          have HN2 : Hid (hasB (cL.take (j + 1)) y = decide (y = cL[j])) := HN.out.trans (Bool.false_or _)
          generalize decide (y = cL[j]) = dd at *
          have hsA := fun W => slice_mid W bb ob P.length q5 k (by omega)
          have hsB := fun W => slice_mid W bc oc Q.length q8 j (by omega)
          have s1 : IntKind.i64.wrap ((k : Int) + 1) = (k : Int) + 1 := by rw [IntKind.wrap_i64]; omega
          have s2 : IntKind.i64.wrap ((j : Int) + 1) = (j : Int) + 1 := by rw [IntKind.wrap_i64]; omega
          go_wp2_with fail
          refine wp_region_quiet_below (by kernel_rfl) (by kernel_rfl) ?_
          repeat (first | go_big_quiet_skip | (go_big_quiet_want; go_big_quiet_op; first | go_big_quiet_on | (apply Exists.intro; refine ⟨fun _ => ?_, ?_⟩; (first | (go_at_call 18; exact Calls.regrown_of (HSM.out _ (below_regrown wr _ _)))); go_big_quiet_on)))
          refine wpQuiet_nil ?_
          rintro w8 ⟨p8, hw8⟩
          have hq8 : Below wr.heap.size wr w8 := hw8 ▸ below_regrown wr p8.d p8.os
          have hqq := hq.trans (hq8.mono hq.size)
          clear hw8 hq8 hq hsA hsB s1 s2 hw7
          go_wp2
          go_roundw
          case rel => exact ⟨j + 1, by omega, by go_num, by rw [HN2.out], hqq⟩
          case measure => simp [intOf]; omega
        ·obtain rfl : j = Q.length := by omega
         have hqq := HQ.out.trans (hq.mono HQ.out.size)
         have HAS : Hid (hasB (cL.take Q.length) y = hasB cL y) := by show _ = _; rw [← HLC.out, List.take_length]
         have hhas := HAS.out
         generalize hasB (cL.take Q.length) y = is at *
         cases his : is with
         | true =>
          subst his
          have HE : Hid (keptTo bL cL (k + 1) = kp + 1) := HKN.out.trans (by rw [if_pos hhas.symm])
          have s1 : IntKind.i64.wrap ((kp : Int) + 1) = (kp : Int) + 1 := by rw [IntKind.wrap_i64]; omega
          clear hhas HAS hq
          go_wp2
          go_roundw
          case rel => exact ⟨k + 1, by omega, by go_num, by rw [HE.out]; go_num, hqq⟩
          case measure => simp [intOf]; omega
         | false =>
          subst his
          have HE : Hid (keptTo bL cL (k + 1) = kp) := HKN.out.trans (by rw [if_neg (by rw [← hhas]; decide), Nat.add_zero])
          clear hhas HAS hq
          go_wp2
          go_roundw
          case rel => exact ⟨k + 1, by omega, by go_num, by rw [HE.out], hqq⟩
          case measure => simp [intOf]; omega
      ·obtain rfl : k = P.length := by omega
       have HBF := Lib.hid (HBE.out.trans (hq.mono HBE.out.size))
       have HQ := Lib.hid hq
       have HKE : Hid (P.length ≤ keptTo bL cL P.length + 2) := by have := HK.out; rw [HLB.out] at this; exact this
       have hkl := keptTo_le bL cL P.length
       generalize keptTo bL cL P.length = kp at *
       clear hq HK
       go_wp2_with fail
       go_loop [13, 17] (fun x i => ∃ k : Nat, k ≤ P.length ∧ i = .int .i64 k ∧ x = .int .i64 (mostTo P k)) (fun _ i => P.length - (intOf i).toNat)
       case atStart => exact ⟨0, Nat.zero_le _, rfl, rfl⟩
       case round =>
        obtain ⟨k, hk, rfl, rfl⟩ := hrel
        by_cases hlt : k < P.length
        ·have HMN : Hid (mostTo P (k + 1) = max (mostTo P k) (twoN P k)) := rfl
         have hm1 := HML.out k
         have hm2 := HML.out (k + 1)
         obtain ⟨bb, ob, rfl, hbl, rv1, _, d0, _, _⟩ := HAT5.out k hlt
         have y0 := (HQ.out.cell (p := ⟨bb, ob + k * 3, none⟩) hbl).trans d0
         have hg1 : P.getD k [] = P[k] := by rw [List.getD_eq_getElem?_getD, List.getElem?_eq_getElem hlt]; rfl
         by_cases hk0 : k = 0
         ·have HTW : Hid (twoN P k = P[k].length) := by
           show _ = _
           unfold twoN
           rw [hg1, if_neg (by omega), Nat.add_zero]
          have g1 : decide (0 < k) = false := by rw [decide_eq_false_iff_not]; omega
          have htw := HTW.out
          have hmx : max (mostTo P k) (twoN P k) ≤ 120 := HMN.out ▸ hm2
          generalize mostTo P k = m at *
          generalize P[k].length = pk at *
          rw [htw] at HMN hmx
          clear d0 htw HTW hg1 hk0 hm2
          go_wp2
          go_round
          case rel => exact ⟨k + 1, by omega, by go_num, by rw [HMN.out]; go_num⟩
          case measure => simp [intOf]; omega
         ·have hk1 : k - 1 < P.length := by omega
          obtain ⟨b2, o2, e2, _, rv2, _, d1, _, _⟩ := HAT5.out (k - 1) hk1
          simp only [Option.some.injEq, Addr.mk.injEq, and_true] at e2
          obtain ⟨rfl, rfl⟩ := e2
          have y1 := (HQ.out.cell (p := ⟨bb, ob + (k - 1) * 3, none⟩) hbl).trans d1
          have hg2 : P.getD (k - 1) [] = P[k - 1] := by rw [List.getD_eq_getElem?_getD, List.getElem?_eq_getElem hk1]; rfl
          have HTW : Hid (twoN P k = P[k].length + P[k - 1].length) := by
           show _ = _
           unfold twoN
           rw [hg1, hg2, if_pos (by omega)]
          have g1 : decide (0 < k) = true := by rw [decide_eq_true_eq]; omega
          have htw := HTW.out
          have hmx : max (mostTo P k) (twoN P k) ≤ 120 := HMN.out ▸ hm2
          generalize mostTo P k = m at *
          generalize P[k].length = pk at *
          generalize P[k - 1].length = pk1 at *
          rw [htw] at HMN hmx
          have s1 : IntKind.i64.wrap ((k : Int) - 1) = ((k - 1 : Nat) : Int) := by rw [IntKind.wrap_i64]; omega
          have s2 : (0 : Int) ≤ ((k - 1 : Nat) : Int) := by omega
          have s3 : ((k - 1 : Nat) : Int) < (P.length : Int) := by omega
          have s4 : (((k - 1 : Nat) : Int)).toNat = k - 1 := by omega
          have s5 : IntKind.i64.wrap ((pk : Int) + (pk1 : Int)) = (pk : Int) + (pk1 : Int) := by rw [IntKind.wrap_i64]; omega
          clear d0 d1 htw HTW hg1 hg2 hk0 hm2
          go_wp2
          go_round
          case rel => exact ⟨k + 1, by omega, by go_num, by rw [HMN.out]; go_num⟩
          case measure => simp [intOf]; omega
        ·obtain rfl : k = P.length := by omega
         have hw := HW.out
         have hm := HML.out P.length
         generalize mostTo P P.length = m at *
         generalize wroteTo P [(row, n)] P.length = wt at *
         have hke := HKE.out
         have s1 : IntKind.i64.wrap ((P.length : Int) - 2) = (P.length : Int) - 2 := by rw [IntKind.wrap_i64]; omega
         have s2 : IntKind.i64.wrap ((m : Int) + 1) = (m : Int) + 1 := by rw [IntKind.wrap_i64]; omega
         have c1 : decide ((P.length : Int) - 2 ≤ (kp : Int)) = true := by rw [decide_eq_true_eq]; omega
         have c2 : decide (((wt + 1 : Nat) : Int) ≤ (m : Int) + 1) = true := by rw [decide_eq_true_eq]; omega
         have c2' : decide ((wt : Int) + 1 ≤ (m : Int) + 1) = true := by rw [decide_eq_true_eq]; omega
         have c2b : decide (wt ≤ m) = true := by rw [decide_eq_true_eq]; omega
         have c2c : decide ((wt : Int) ≤ (m : Int)) = true := by rw [decide_eq_true_eq]; omega
         have c3 : decide (1 ≤ ((wt + 1 : Nat) : Int)) = true := by rw [decide_eq_true_eq]; omega
         have c3' : decide ((1 : Int) ≤ (wt : Int) + 1) = true := by rw [decide_eq_true_eq]; omega
         have c3b : decide (0 ≤ (wt : Int)) = true := by rw [decide_eq_true_eq]; omega
         clear hke HKE
         go_wp2_with fail
         refine awake_calls.step (w0 := wr) (B := wr.heap.size) (.refl _ _) (Nat.le_refl _) ?_
         intro w9 hk9 _
         have hbe := HBF.out.trans (hk9.mono HBF.out.size)
         clear hk9
         go_wp2
         go_ret
         exact ⟨rfl, hbe⟩
end Go.Proofs.YtkgjbldlegcajaaGreat
