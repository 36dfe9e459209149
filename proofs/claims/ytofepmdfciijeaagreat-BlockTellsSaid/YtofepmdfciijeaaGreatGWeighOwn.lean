/- The contract of layer 10's own Right. -/
import Derived.Test.YtofepmdfciijeaaGreatGWeighRef
import Derived.Test.YtofepmdfciijeaaGreatGWeighLib
namespace Go.Proofs.YtofepmdfciijeaaGreat
open Go Go.RowKit

set_option maxHeartbeats 4000000 in
theorem weigh_right_calls {w : World} {v : Value} {l : List Tm} (h : TimesIn w v l) : GivesAt Tryz.prog 26 #[v] w (.bool (rightW l)) := by
  have hm := h.len
  unfold maxLen at hm
  obtain ⟨hb, hB⟩ := start w
  obtain ⟨tv, A, cap, rfl, _, hat⟩ := times_at h
  have HAT := Lib.hid hat
  clear h hat
  unfold GivesAt
  go_enter Tryz.func26, Tryz.ntmps26
  go_wp2
  go_loopw [3, 4, 7] (fun _ _ i wr => ∃ k : Nat, k ≤ l.length ∧ i = .int .i64 k ∧ Hid (RightP (l.take k)) ∧ Below w.heap.size w wr) (fun _ _ i _ => l.length - (intOf i).toNat)
  case atStart => exact ⟨0, Nat.zero_le _, rfl, RightP.nil, hb⟩
  case round =>
    clear hb hB
    obtain ⟨k, hk, rfl, HS, hb⟩ := hrel
    by_cases hlt : k < l.length
    · obtain ⟨b, off, rfl, hbl, hc⟩ := HAT.out k hlt
      obtain ⟨rv, hs, _, c1, c2⟩ := hc k hlt
      have x1 := (hb.cell (p := ⟨b, off + k * 2, none⟩) hbl).trans c1
      have x2 := (hb.cell (p := ⟨b, off + k * 2 + 1, none⟩) hbl).trans c2
      have HM := Lib.hid (List.getElem_mem hlt)
      have HNX := Lib.hid (right_next hlt HS.out)
      obtain ⟨Ar, pr, rfl⟩ : ∃ Ar pr, rv = .slice Ar l[k].1.length pr := by obtain ⟨Ar, pr, e, _⟩ := one_at hs; exact ⟨Ar, pr, e⟩
      have hbx := box_tm wr 40 (.slice Ar l[k].1.length pr) l[k].2
      have hq4 := Below.alloc (.refl _ wr) (Nat.le_refl _) (.cells #[.slice Ar l[k].1.length pr, .int .i64 l[k].2] 40)
      have hs4 := StrsIn.kept (StrsIn.kept hs hb) hq4
      have hb4 := hb.trans (hq4.mono hb.size)
      have hnc := wnone_calls Ar l[k].1.length pr l[k].2
      cases k with
      | zero =>
        have HNX0 := Lib.hid (fun hn => HNX.out hn (fun j hj => absurd hj (by omega)))
        clear hc c1 c2 hs HNX
        simp only [Nat.zero_mul, Nat.add_zero] at x1 x2
        generalize l[0] = t at *
        obtain ⟨row, n⟩ := t
        dsimp only at *
        obtain ⟨z0, z1, _, _⟩ := hbx.cells
        have a1 := fun d os => cell_regrown z0 d os
        have a2 := fun d os => cell_regrown z1 d os
        by_cases hn : n = 0
        · have d1 : (n == 0) = true := by rw [beq_iff_eq]; exact hn
          rw [d1] at hnc
          have HNC := Lib.hid hnc
          have HD := Lib.hid (right_zero HM.out hn)
          clear hn hnc d1 HNX0 hs4 hbx
          go_wp2
          refine wp_region_quiet_below (by kernel_rfl) (by kernel_rfl) ?_
          repeat (first | go_big_quiet_skip | (go_big_quiet_want; go_big_quiet_op; first | go_big_quiet_on | (apply Exists.intro; refine ⟨fun _ => ?_, ?_⟩; (first | (go_at_call 56; exact Calls.regrown_of (HNC.out _))); go_big_quiet_on)))
          refine wpQuiet_nil ?_
          rintro w3 ⟨p, hw3⟩
          have hb2 : Below (wr.alloc (.cells #[.slice Ar row.length pr, .int .i64 n] 40)).heap.size (wr.alloc (.cells #[.slice Ar row.length pr, .int .i64 n] 40)) w3 := hw3 ▸ below_regrown _ p.d p.os
          clear hw3 z0 z1 a1 a2
          replace hb := hb4.trans (hb2.mono hb4.size)
          clear hb2 hb4
          go_wp2
          go_ret
          exact ⟨ret_bool HD.out.symm, hb⟩
        · have d1 : (n == 0) = false := by rw [beq_eq_false_iff_ne]; exact hn
          rw [d1] at hnc
          have HNC := Lib.hid hnc
          have HI := Lib.hid (HNX0.out hn)
          clear hn hnc d1 HNX0 hs4 hbx
          go_wp2
          refine wp_region_quiet_below (by kernel_rfl) (by kernel_rfl) ?_
          repeat (first | go_big_quiet_skip | (go_big_quiet_want; go_big_quiet_op; first | go_big_quiet_on | (apply Exists.intro; refine ⟨fun _ => ?_, ?_⟩; (first | (go_at_call 56; exact Calls.regrown_of (HNC.out _))); go_big_quiet_on)))
          refine wpQuiet_nil ?_
          rintro w3 ⟨p, hw3⟩
          have hb2 : Below (wr.alloc (.cells #[.slice Ar row.length pr, .int .i64 n] 40)).heap.size (wr.alloc (.cells #[.slice Ar row.length pr, .int .i64 n] 40)) w3 := hw3 ▸ below_regrown _ p.d p.os
          clear hw3 z0 z1 a1 a2
          replace hb := hb4.trans (hb2.mono hb4.size)
          clear hb2 hb4
          go_wp2
          go_roundw
          case rel => exact ⟨1, by omega, by go_num, HI.out, hb⟩
          case measure => simp [intOf]; omega
      | succ j =>
        obtain ⟨rv0, hs0, _, c01, c02⟩ := hc j (by omega)
        have y1 := (hb4.cell (p := ⟨b, off + j * 2, none⟩) hbl).trans c01
        have y2 := (hb4.cell (p := ⟨b, off + j * 2 + 1, none⟩) hbl).trans c02
        have hs04 := StrsIn.kept (StrsIn.kept hs0 hb) hq4
        have hcq := fun (W : World) (hW : Below (wr.alloc (.cells #[.slice Ar l[j + 1].1.length pr, .int .i64 l[j + 1].2] 40)).heap.size (wr.alloc (.cells #[.slice Ar l[j + 1].1.length pr, .int .i64 l[j + 1].2] 40)) W) => wcompare_calls (l[j]'(by omega)).2 l[j + 1].2 (StrsIn.kept hs04 hW) (StrsIn.kept hs4 hW)
        obtain ⟨Ar0, pr0, rfl⟩ : ∃ Ar0 pr0, rv0 = .slice Ar0 (l[j]'(by omega)).1.length pr0 := by obtain ⟨Ar0, pr0, e, _⟩ := one_at hs0; exact ⟨Ar0, pr0, e⟩
        unfold timesA at hcq
        have HNX1 := Lib.hid (show l[j + 1].2 ≠ 0 → cmpL (l[j]'(by omega)).1 l[j + 1].1 = -1 → RightP (l.take (j + 1 + 1)) from fun hn hc => HNX.out hn (fun i hi => by obtain rfl : i = j := (by omega); exact hc))
        have HNO := Lib.hid (right_order (j := j) hlt)
        have hrg := cmpL_range (l[j]'(by omega)).1 (l[j + 1]).1
        have HCQ := Lib.hid hcq
        clear hc c1 c2 hs c01 c02 hs0 hs04 HNX hcq
        generalize l[j]'(by omega) = t0 at *
        generalize l[j + 1] = t at *
        obtain ⟨row, n⟩ := t
        obtain ⟨row0, n0⟩ := t0
        dsimp only at *
        obtain ⟨z0, z1, _, _⟩ := hbx.cells
        have a1 := fun d os => cell_regrown z0 d os
        have a2 := fun d os => cell_regrown z1 d os
        have b1 := fun d os => cell_regrown y1 d os
        have b2 := fun d os => cell_regrown y2 d os
        by_cases hn : n = 0
        · have d1 : (n == 0) = true := by rw [beq_iff_eq]; exact hn
          rw [d1] at hnc
          have HNC := Lib.hid hnc
          have HD := Lib.hid (right_zero HM.out hn)
          clear hn hnc d1 hs4 hbx HNX1 HNO
          go_wp2
          refine wp_region_quiet_below (by kernel_rfl) (by kernel_rfl) ?_
          repeat (first | go_big_quiet_skip | (go_big_quiet_want; go_big_quiet_op; first | go_big_quiet_on | (apply Exists.intro; refine ⟨fun _ => ?_, ?_⟩; (first | (go_at_call 56; exact Calls.regrown_of (HNC.out _))); go_big_quiet_on)))
          refine wpQuiet_nil ?_
          rintro w3 ⟨p, hw3⟩
          have hb2 : Below (wr.alloc (.cells #[.slice Ar row.length pr, .int .i64 n] 40)).heap.size (wr.alloc (.cells #[.slice Ar row.length pr, .int .i64 n] 40)) w3 := hw3 ▸ below_regrown _ p.d p.os
          clear hw3 z0 z1 a1 a2 b1 b2 HCQ
          replace hb := hb4.trans (hb2.mono hb4.size)
          clear hb2 hb4
          go_wp2
          go_ret
          exact ⟨ret_bool HD.out.symm, hb⟩
        · have d1 : (n == 0) = false := by rw [beq_eq_false_iff_ne]; exact hn
          rw [d1] at hnc
          have HNC := Lib.hid hnc
          have d0 : decide ((0 : Int) < ((j + 1 : Nat) : Int)) = true := by rw [decide_eq_true_eq]; omega
          have q2 : IntKind.i64.wrap ((j : Int) + 1 - 1) = (j : Int) := by rw [show (j : Int) + 1 - 1 = j by omega]; exact IntWalk.i64_in _ (by omega)
          by_cases hcm : cmpL row0 row = -1
          · have HI := Lib.hid (HNX1.out hn hcm)
            have d2 : decide (0 ≤ cmpL row0 row) = false := by rw [decide_eq_false_iff_not]; omega
            clear hn HNX1 HNO hnc d1 hs4 hbx
            generalize cmpL row0 row = z at *
            go_wp2
            refine wp_region_quiet_below (by kernel_rfl) (by kernel_rfl) ?_
            repeat (first | go_big_quiet_skip | (go_big_quiet_want; go_big_quiet_op; first | go_big_quiet_on | (apply Exists.intro; refine ⟨fun _ => ?_, ?_⟩; (first | (go_at_call 56; exact Calls.regrown_of (HNC.out _)) | (go_at_call 57; exact Calls.regrown_of (HCQ.out _ (below_regrown _ _ _)))); go_big_quiet_on)))
            refine wpQuiet_nil ?_
            rintro w3 ⟨p, hw3⟩
            have hb2 : Below (wr.alloc (.cells #[.slice Ar row.length pr, .int .i64 n] 40)).heap.size (wr.alloc (.cells #[.slice Ar row.length pr, .int .i64 n] 40)) w3 := hw3 ▸ below_regrown _ p.d p.os
            clear hw3 z0 z1 a1 a2 b1 b2 HCQ
            replace hb := hb4.trans (hb2.mono hb4.size)
            clear hb2 hb4
            go_wp2
            go_roundw
            case rel => exact ⟨j + 1 + 1, by omega, by go_num, HI.out, hb⟩
            case measure => simp [intOf]; omega
          · have HD := Lib.hid (HNO.out hcm)
            have d2 : decide (0 ≤ cmpL row0 row) = true := by rw [decide_eq_true_eq]; omega
            clear hn HNX1 HNO hcm hnc d1 hs4 hbx
            generalize cmpL row0 row = z at *
            go_wp2
            refine wp_region_quiet_below (by kernel_rfl) (by kernel_rfl) ?_
            repeat (first | go_big_quiet_skip | (go_big_quiet_want; go_big_quiet_op; first | go_big_quiet_on | (apply Exists.intro; refine ⟨fun _ => ?_, ?_⟩; (first | (go_at_call 56; exact Calls.regrown_of (HNC.out _)) | (go_at_call 57; exact Calls.regrown_of (HCQ.out _ (below_regrown _ _ _)))); go_big_quiet_on)))
            refine wpQuiet_nil ?_
            rintro w3 ⟨p, hw3⟩
            have hb2 : Below (wr.alloc (.cells #[.slice Ar row.length pr, .int .i64 n] 40)).heap.size (wr.alloc (.cells #[.slice Ar row.length pr, .int .i64 n] 40)) w3 := hw3 ▸ below_regrown _ p.d p.os
            clear hw3 z0 z1 a1 a2 b1 b2 HCQ
            replace hb := hb4.trans (hb2.mono hb4.size)
            clear hb2 hb4
            go_wp2
            go_ret
            exact ⟨ret_bool HD.out.symm, hb⟩
    · obtain rfl : k = l.length := by omega
      rw [List.take_length] at HS
      have HD := Lib.hid (show rightW l = true from decide_eq_true HS.out)
      go_wp2
      go_ret
      exact ⟨ret_bool HD.out.symm, hb⟩
end Go.Proofs.YtofepmdfciijeaaGreat
