/- The contract of the answer's Same of layer 12. -/
import Derived.Test.YtkgjbldlegcajaaGreatGStrs
import Derived.Test.YtkgjbldlegcajaaGreatGBlocks
import Derived.Lib.QuietBelow
import Derived.BigQuiet
namespace Go.Proofs.YtkgjbldlegcajaaGreat
open Go Go.RowKit
theorem take_eq_next {α : Type} {a b : List α} {k : Nat} (h1 : k < a.length) (h2 : k < b.length) (h : a.take k = b.take k) (e : a[k] = b[k]) : a.take (k + 1) = b.take (k + 1) := by
 rw [take_add a k h1, take_add b k h2, h, e]
set_option maxHeartbeats 4000000 in
set_option maxRecDepth 100000 in
theorem same_blks {w : World} {va vb : Value} {a b : List Blk} (ha : BlksIn w va a) (hb : BlksIn w vb b) (hla : a.length ≤ 1000000) (ra : ∀ t ∈ a, t.2.1.length ≤ 1000000) (rb : ∀ t ∈ b, t.2.1.length ≤ 1000000) :
  GivesAt Tryz.prog 18 #[va, vb] w (.bool (decide (a = b))) := by
 have hg := (start w).1
 obtain ⟨A, ca, rfl, hata⟩ := blks_at ha
 obtain ⟨B, cb, rfl, hatb⟩ := blks_at hb
 have HA := Lib.hid hata
 have HB := Lib.hid hatb
 have HRA := Lib.hid ra
 have HRB := Lib.hid rb
 clear ha hb hata hatb ra rb
 unfold GivesAt
 by_cases hl : a.length = b.length
 ·have d1 : ((a.length : Int) == (b.length : Int)) = true := by rw [beq_iff_eq]; omega
  have d0 : ((a.length : Int) != (b.length : Int)) = false := by simp [hl]
  have hle : b.length = a.length := hl.symm
  have HL := Lib.hid hl
  clear hl
  go_enter Tryz.func18, Tryz.ntmps18
  rw [hle] at d1 d0 ⊢
  clear hle
  go_wp2
  go_loopw [5] (fun i wr => ∃ k : Nat, k ≤ a.length ∧ i = .int .i64 k ∧ Hid (a.take k = b.take k) ∧ Below w.heap.size w wr) (fun i _ => a.length - (intOf i).toNat)
  case atStart => exact ⟨0, by omega, rfl, show a.take 0 = b.take 0 from rfl, hg⟩
  case round =>
   clear hg
   obtain ⟨k, hk, rfl, HE, hg⟩ := hrel
   by_cases hlt : k < a.length
   ·have hlt2 : k < b.length := by have := HL.out; omega
    obtain ⟨b1, o1, rfl, hl1, hc1⟩ := HA.out k hlt
    obtain ⟨b2, o2, rfl, hl2, hc2⟩ := HB.out k hlt2
    obtain ⟨r1, s1, c11, c12, c13⟩ := hc1 k hlt
    obtain ⟨r2, s2, c21, c22, c23⟩ := hc2 k hlt2
    have HX : Hid (∀ w', Below w.heap.size w w' → w'.cell? ⟨b1, o1 + k * 3, none⟩ = some (.int .i64 a[k].1) ∧ w'.cell? ⟨b1, o1 + k * 3 + 1, none⟩ = some r1 ∧ w'.cell? ⟨b1, o1 + k * 3 + 2, none⟩ = some (.string a[k].2.2)) :=
     fun w' hg => ⟨(hg.cell (p := ⟨b1, o1 + k * 3, none⟩) hl1).trans c11, (hg.cell (p := ⟨b1, o1 + k * 3 + 1, none⟩) hl1).trans c12, (hg.cell (p := ⟨b1, o1 + k * 3 + 2, none⟩) hl1).trans c13⟩
    have HY : Hid (∀ w', Below w.heap.size w w' → w'.cell? ⟨b2, o2 + k * 3, none⟩ = some (.int .i64 b[k].1) ∧ w'.cell? ⟨b2, o2 + k * 3 + 1, none⟩ = some r2 ∧ w'.cell? ⟨b2, o2 + k * 3 + 2, none⟩ = some (.string b[k].2.2)) :=
     fun w' hg => ⟨(hg.cell (p := ⟨b2, o2 + k * 3, none⟩) hl2).trans c21, (hg.cell (p := ⟨b2, o2 + k * 3 + 1, none⟩) hl2).trans c22, (hg.cell (p := ⟨b2, o2 + k * 3 + 2, none⟩) hl2).trans c23⟩
    have HLA := Lib.hid (HRA.out _ (List.getElem_mem hlt))
    have HLB := Lib.hid (HRB.out _ (List.getElem_mem hlt2))
    have HST := Lib.hid (take_eq_next hlt hlt2 HE.out)
    have hne : a[k] ≠ b[k] → decide (a = b) = false := by intro h; rw [decide_eq_false_iff_not]; intro e; subst e; exact h rfl
    obtain ⟨A1, p1, rfl, hat1⟩ := one_at s1
    obtain ⟨A2, p2, rfl, hat2⟩ := one_at s2
    have HT1 := Lib.hid hat1
    have HT2 := Lib.hid hat2
    clear hc1 hc2 c11 c12 c13 c21 c22 c23 s1 s2 hat1 hat2
    have hq1 := (HX.out _ hg)
    have hq2 := (HY.out _ hg)
    generalize a[k] = x at *
    generalize b[k] = y at *
    obtain ⟨xr, xc, xn⟩ := x
    obtain ⟨yr, yc, yn⟩ := y
    dsimp only at *
    obtain ⟨x0, x1, x2⟩ := hq1
    obtain ⟨y0, y1, y2⟩ := hq2
    have a0 := fun d os => cell_regrown x0 d os
    have a1 := fun d os => cell_regrown x1 d os
    have a2 := fun d os => cell_regrown x2 d os
    have a3 := fun d os => cell_regrown y0 d os
    have a4 := fun d os => cell_regrown y1 d os
    have a5 := fun d os => cell_regrown y2 d os
    have i0 : (0 : Int) ≤ (k : Int) := by omega
    have i1 : (k : Int) < (a.length : Int) := by omega
    clear x0 x1 x2 y0 y1 y2
    by_cases e1 : xr = yr
    ·have e1a : (xr == yr) = true := by rw [beq_iff_eq]; exact e1
     have e1b : (xr != yr) = false := by simp [e1]
     have hsc := str_ne_cases xn yn
     by_cases e2 : xn = yn
     ·obtain ⟨_, e2a, e2b⟩ := hsc.resolve_right (fun h => h.1 e2)
      by_cases e3 : xc.length = yc.length
      ·have e3a : ((xc.length : Int) == (yc.length : Int)) = true := by rw [beq_iff_eq]; omega
       have e3b : ((xc.length : Int) != (yc.length : Int)) = false := by simp [e3]
       have HE3 := Lib.hid e3
       have HNE := Lib.hid (show ∀ j (h1 : j < xc.length) (h2 : j < yc.length), xc[j] ≠ yc[j] → decide (a = b) = false from fun j h1 h2 h => hne (fun e => by cases e; exact h rfl))
       have HYES := Lib.hid (show xc = yc → a.take (k + 1) = b.take (k + 1) from fun e => HST.out (by rw [e1, e2, e]))
       clear hne hsc e1 e2 HST e3
       go_wp2
       refine wp_region_quiet_below (by kernel_rfl) (by kernel_rfl) ?_
       repeat (first | go_big_quiet_skip | (go_big_quiet_want; go_big_quiet_op; go_big_quiet_on))
       refine wpQuiet_nil ?_
       rintro w3 ⟨p, hw3⟩
       have hb2 : Below wr.heap.size wr w3 := hw3 ▸ below_regrown wr p.d p.os
       clear hw3
       replace hg := hg.trans (hb2.mono hg.size)
       clear hb2
       clear a0 a1 a2 a3 a4 a5
       go_wp2
       go_loopw [6] (fun i wr => ∃ c : Nat, c ≤ xc.length ∧ i = .int .i64 c ∧ Hid (xc.take c = yc.take c) ∧ Below w.heap.size w wr) (fun i _ => xc.length - (intOf i).toNat)
       case atStart => exact ⟨0, by omega, rfl, show xc.take 0 = yc.take 0 from rfl, hg⟩
       case round =>
        obtain ⟨w9, hw9⟩ : ∃ w9, w9 = w3 := ⟨_, rfl⟩
        clear hg
        obtain ⟨c, hc, rfl, HC, hg⟩ := hrel
        have hlx := HLA.out
        have hq1 := (HX.out _ hg)
        have hq2 := (HY.out _ hg)
        obtain ⟨x0, x1, x2⟩ := hq1
        obtain ⟨y0, y1, y2⟩ := hq2
        by_cases hlc : c < xc.length
        ·have hlc2 : c < yc.length := by have := HE3.out; omega
         obtain ⟨b3, o3, rfl, hl3, hc3⟩ := HT1.out c hlc
         obtain ⟨b4, o4, rfl, hl4, hc4⟩ := HT2.out c hlc2
         have u1 := (hg.cell (p := ⟨b3, o3 + c, none⟩) hl3).trans (hc3 c hlc)
         have u2 := (hg.cell (p := ⟨b4, o4 + c, none⟩) hl4).trans (hc4 c hlc2)
         have HS2 := Lib.hid (take_eq_next hlc hlc2 HC.out)
         have HN2 := Lib.hid (HNE.out c hlc hlc2)
         have j1 : (c : Int) < (xc.length : Int) := by omega
         have j2 : (c : Int) < (yc.length : Int) := by omega
         have j0 : (0 : Int) ≤ (c : Int) := by omega
         have a0 := fun d os => cell_regrown x1 d os
         have a1 := fun d os => cell_regrown y1 d os
         have a2 := fun d os => cell_regrown u1 d os
         have a3 := fun d os => cell_regrown u2 d os
         clear hc3 hc4 x0 x2 y0 y2
         generalize xc[c] = s at *
         generalize yc[c] = t at *
         rcases str_ne_cases s t with ⟨h1, h2, h3⟩ | ⟨h1, h2, h3⟩
         ·have HI := Lib.hid (HS2.out h1)
          clear h1
          go_wp2
          clear x1 y1 u1 u2
          refine wp_region_quiet_below (by kernel_rfl) (by kernel_rfl) ?_
          repeat (first | go_big_quiet_skip | (go_big_quiet_want; go_big_quiet_op; go_big_quiet_on))
          refine wpQuiet_nil ?_
          rintro w3 ⟨p, hw3⟩
          have hb2 : Below wr.heap.size wr w3 := hw3 ▸ below_regrown wr p.d p.os
          clear hw3
          replace hg := hg.trans (hb2.mono hg.size)
          clear hb2
          clear a0 a1 a2 a3
          go_wp2
          go_roundw
          case rel => exact ⟨c + 1, by omega, by go_num, HI, hg⟩
          case measure => simp [intOf]; omega
         ·have HD := Lib.hid (HN2.out h1)
          clear h1
          go_wp2
          clear x1 y1 u1 u2
          refine wp_region_quiet_below (by kernel_rfl) (by kernel_rfl) ?_
          repeat (first | go_big_quiet_skip | (go_big_quiet_want; go_big_quiet_op; go_big_quiet_on))
          refine wpQuiet_nil ?_
          rintro w3 ⟨p, hw3⟩
          have hb2 : Below wr.heap.size wr w3 := hw3 ▸ below_regrown wr p.d p.os
          clear hw3
          replace hg := hg.trans (hb2.mono hg.size)
          clear hb2
          clear a0 a1 a2 a3
          go_wp2
          go_ret
          exact ⟨ret_bool HD.out.symm, hg⟩
        ·obtain rfl : c = xc.length := by omega
         have HI : Hid (a.take (k + 1) = b.take (k + 1)) := HYES.out (by
          have := HC.out
          rwa [List.take_length, List.take_of_length_le (by have := HE3.out; omega)] at this)
         go_wp2
         go_roundw
         case rel => exact ⟨k + 1, by omega, by go_num, HI, hg⟩
         case measure => simp [intOf]; omega
      ·have e3a : ((xc.length : Int) == (yc.length : Int)) = false := by rw [beq_eq_false_iff_ne]; omega
       have e3b : ((xc.length : Int) != (yc.length : Int)) = true := by rw [bne_iff_ne]; omega
       have HD := Lib.hid (hne (fun e => e3 (by cases e; rfl)))
       clear hne hsc e1 e2 HST e3
       go_wp2
       refine wp_region_quiet_below (by kernel_rfl) (by kernel_rfl) ?_
       repeat (first | go_big_quiet_skip | (go_big_quiet_want; go_big_quiet_op; go_big_quiet_on))
       refine wpQuiet_nil ?_
       rintro w3 ⟨p, hw3⟩
       have hb2 : Below wr.heap.size wr w3 := hw3 ▸ below_regrown wr p.d p.os
       clear hw3
       replace hg := hg.trans (hb2.mono hg.size)
       clear hb2
       go_wp2
       go_ret
       exact ⟨ret_bool HD.out.symm, hg⟩
     ·obtain ⟨_, e2a, e2b⟩ := hsc.resolve_left (fun h => e2 h.1)
      have HD := Lib.hid (hne (fun e => e2 (by cases e; rfl)))
      clear hne hsc e1 e2 HST
      go_wp2
      refine wp_region_quiet_below (by kernel_rfl) (by kernel_rfl) ?_
      repeat (first | go_big_quiet_skip | (go_big_quiet_want; go_big_quiet_op; go_big_quiet_on))
      refine wpQuiet_nil ?_
      rintro w3 ⟨p, hw3⟩
      have hb2 : Below wr.heap.size wr w3 := hw3 ▸ below_regrown wr p.d p.os
      clear hw3
      replace hg := hg.trans (hb2.mono hg.size)
      clear hb2
      go_wp2
      go_ret
      exact ⟨ret_bool HD.out.symm, hg⟩
    ·have e1a : (xr == yr) = false := by rw [beq_eq_false_iff_ne]; exact e1
     have e1b : (xr != yr) = true := by rw [bne_iff_ne]; exact e1
     have HD := Lib.hid (hne (fun e => e1 (by cases e; rfl)))
     clear hne HST e1
     go_wp2
     refine wp_region_quiet_below (by kernel_rfl) (by kernel_rfl) ?_
     repeat (first | go_big_quiet_skip | (go_big_quiet_want; go_big_quiet_op; go_big_quiet_on))
     refine wpQuiet_nil ?_
     rintro w3 ⟨p, hw3⟩
     have hb2 : Below wr.heap.size wr w3 := hw3 ▸ below_regrown wr p.d p.os
     clear hw3
     replace hg := hg.trans (hb2.mono hg.size)
     clear hb2
     go_wp2
     go_ret
     exact ⟨ret_bool HD.out.symm, hg⟩
   ·obtain rfl : k = a.length := by omega
    have HD : Hid (decide (a = b) = true) := by
     show _ = _
     rw [decide_eq_true_eq]
     have := HE.out
     rwa [List.take_length, List.take_of_length_le (by have := HL.out; omega)] at this
    go_wp2
    go_ret
    exact ⟨ret_bool HD.out.symm, hg⟩
 ·have d1 : ((a.length : Int) == (b.length : Int)) = false := by rw [beq_eq_false_iff_ne]; omega
  have d0 : ((a.length : Int) != (b.length : Int)) = true := by rw [bne_iff_ne]; omega
  have HD := Lib.hid (show decide (a = b) = false by rw [decide_eq_false_iff_not]; intro e; exact hl (by rw [e]))
  go_enter Tryz.func18, Tryz.ntmps18
  go_wp2
  go_ret
  exact ⟨ret_bool HD.out.symm, hg⟩
end Go.Proofs.YtkgjbldlegcajaaGreat
