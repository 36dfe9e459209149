/- The walks of the laws VaryForms and VaryLong. -/
import Derived.Test.YtfbcagadghlglaaVaryLawsB
namespace Go.Proofs.Ytfbcagadghlglaa
open Go Go.RowKit

theorem vp_low (n k : Nat) (h0 : 0 < k) (h : k < (vp n).length) : 128 ^ k ≤ n := by
  refine Nat.le_of_not_lt fun hn => ?_
  have := vp_len_le n k h0 hn
  omega
theorem vp_mono {a b : Nat} (h : a ≤ b) : (vp a).length ≤ (vp b).length := vp_len_le a _ (vp_pos b) (Nat.lt_of_le_of_lt h (vp_lt b))
theorem vp_inj {a b : Nat} (h : vp a = vp b) : a = b := by rw [← val7_vp a, h, val7_vp]
theorem print_eq (a b : Nat) : ((printB a).toList == (printB b).toList) = ((a : Int) == (b : Int)) := by
  rw [ByteArray.toList_eq, ByteArray.toList_eq, print_data, print_data, Bool.eq_iff_iff, beq_iff_eq, beq_iff_eq]
  constructor
  · intro h; rw [vp_inj h]
  · intro h; rw [show a = b by omega]

set_option maxHeartbeats 1000000 in
set_option maxRecDepth 100000 in
theorem varyForms_long (s : ByteArray) (hl : 100 < s.size) : Gives Try.prog 6 #[.string s] (.bool true) := by
  intro w
  obtain ⟨hb, hB⟩ := start w
  go_enter Try.func6, Try.ntmps6
  go_wp2_with (go_at_call 8; refine awake_calls.step (w0 := w) (B := w.heap.size) hb hB ?_; clear hb hB; intro w' hb hB)
  go_ret
  exact ⟨rfl, by go_grown⟩

set_option maxHeartbeats 1000000 in
set_option maxRecDepth 100000 in
theorem varyForms_none (s : ByteArray) (hl : s.size ≤ 100) (h : nextNum s.data.toList = none) : Gives Try.prog 6 #[.string s] (.bool true) := by
  intro w
  obtain ⟨hb, hB⟩ := start w
  have T1 := Lib.hid (fun b => num_none b s 18446744073709551615 h)
  clear h
  go_enter Try.func6, Try.ntmps6
  go_wp2_with (go_at_call 15; refine (T1.out _).stepB (w0 := w) (B := w.heap.size) (box_tape w _ _ _) (by go_grown) (by go_size) (by go_size) ?_; clear hb hB; intro wc hT1 hb hB _; have c0 := hT1.c0; have c1 := hT1.c1)
  go_wp2_with (go_at_call 8; refine awake_calls.step (w0 := w) (B := w.heap.size) hb hB ?_; clear hb hB; intro w' hb hB)
  go_ret
  exact ⟨rfl, by go_grown⟩

set_option maxHeartbeats 1000000 in
set_option maxRecDepth 100000 in
theorem varyForms_some (s : ByteArray) (n k : Nat) (hl : s.size ≤ 100) (h : nextNum s.data.toList = some (n, k)) : Gives Try.prog 6 #[.string s] (.bool true) := by
  intro w
  obtain ⟨hb, hB⟩ := start w
  obtain ⟨e1, e2, e3, e4, e5, e6⟩ := nextNum_some h
  have T1 := Lib.hid (fun b => num_ok b s 18446744073709551615 n k h (by omega))
  rw [data_size] at e3
  rw [← print_len] at e2
  subst e2
  have p1 := Lib.hid (print_calls n e4)
  have p2 := Lib.hid (open_calls n e4)
  have p3 : ∀ w, Calls Try.prog 11 #[.int .i64 (openI n)] w fun e w' => e = .returned (.int .u64 n) ∧ w = w' := by
    intro w
    have hr := openI_range n e4
    have k := fold_calls (openI n) hr.1 hr.2 w
    rw [fold_open] at k
    exact k
  have P3 := Lib.hid p3
  have q1 : ((s.extract 0 (printB n).size).toList == (printB n).toList) = true := by
    rw [ByteArray.toList_eq, ByteArray.toList_eq, data_extract, print_data, e1]; simp
  have q3 : ((s.extract 0 (s.size - (s.size - (printB n).size))).toList == (printB n).toList) = true := by
    rw [show s.size - (s.size - (printB n).size) = (printB n).size by omega]; exact q1
  have q2 : (s.extract (printB n).size s.size).size = s.size - (printB n).size := by rw [ByteArray.size_extract]; omega
  clear h e1 e4 p3
  go_enter Try.func6, Try.ntmps6
  go_wp2_with (go_at_call 15; refine (T1.out _).stepB (w0 := w) (B := w.heap.size) (box_tape w _ _ _) (by go_grown) (by go_size) (by go_size) ?_; clear hb hB; intro wc hT1 hb hB _; have c1 := hT1.c1)
  go_wp2_with (go_at_call 9; refine p1.out.stepB (w0 := w) (B := w.heap.size) hb hB ?_; clear hb hB c1; intro w' hb hB hk)
  have hT2 := hT1.kept hk
  clear hT1 hk
  go_wp2_with (go_at_call 8; refine awake_calls.stepB (w0 := w) (B := w.heap.size) hb hB ?_; clear hb hB; intro w' hb hB hk; have hT1 := hT2.kept hk; have c0 := hT1.c0; clear hT2 hk)
  go_wp2_with (first | (go_at_call 13; refine (p2.out _).mono ?_; rintro e w' ⟨rfl, rfl⟩) | (go_at_call 11; refine (P3.out _).mono ?_; rintro e w' ⟨rfl, rfl⟩))
  go_ret
  exact ⟨rfl, by go_grown⟩

theorem varyForms_calls (s : ByteArray) : Gives Try.prog 6 #[.string s] (.bool true) := by
  by_cases hl : s.size ≤ 100
  · cases h : nextNum s.data.toList with
    | none => exact varyForms_none s hl h
    | some p => exact varyForms_some s p.1 p.2 hl h
  · exact varyForms_long s (by omega)

theorem shr_none (a k : Nat) (ha : a < 18446744073709551616) (h : a < 128 ^ k) : Op.shift .shr .u64 (a : Int) .u64 (7 * (k : Int)) = pure (.int .u64 0) := by
  have e7 : (128 : Nat) ^ k = 2 ^ (7 * k) := by rw [Nat.pow_mul]
  rw [e7] at h
  have h2 : a < 2 ^ min (7 * k) 64 := by
    rcases Nat.le_total (7 * k) 64 with g | g
    · rw [Nat.min_eq_left g]; exact h
    · rw [Nat.min_eq_right g]; exact ha
  have hm : (7 * (k : Int)).toNat = 7 * k := by omega
  have hp : (0 : Int) ≤ 2 ^ min (7 * k) 64 := Int.pow_nonneg (by decide)
  have hb : IntKind.u64.bits = 64 := rfl
  have hz : (a : Int) / 2 ^ min (7 * k) 64 = 0 := by
    have : ((a / 2 ^ min (7 * k) 64 : Nat) : Int) = 0 := by rw [Nat.div_eq_of_lt h2]; rfl
    rw [Int.natCast_ediv] at this
    simpa using this
  simp [Op.shift, hm, hb, Int.fdiv_eq_ediv_of_nonneg _ hp, hz]
  omega
theorem shr_some (a k : Nat) (h : 128 ^ k ≤ a) : decide (0 < (a : Int) / 2 ^ (7 * k)) = true := by
  have e7 : (128 : Nat) ^ k = 2 ^ (7 * k) := by rw [Nat.pow_mul]
  rw [e7] at h
  have h1 : 0 < a / 2 ^ (7 * k) := Nat.div_pos h (Nat.pow_pos (by decide))
  have h2 : (0 : Int) < ((a / 2 ^ (7 * k) : Nat) : Int) := by omega
  rw [Int.natCast_ediv] at h2
  rw [decide_eq_true_eq]
  simpa using h2

set_option maxHeartbeats 2000000 in
set_option maxRecDepth 100000 in
theorem varyLong_calls (a b : Nat) (ha : a < 18446744073709551616) (hb' : b < 18446744073709551616) : Gives Try.prog 7 #[.int .u64 a, .int .u64 b] (.bool true) := by
  intro w
  obtain ⟨hb, hB⟩ := start w
  have h10 := vp_len_10 ha
  have hpos := vp_pos a
  have hlow := Lib.hid (vp_low a)
  have hlt := vp_lt a
  have p1 := Lib.hid (print_calls a ha)
  have p2 := Lib.hid (print_calls b hb')
  rw [← print_len] at h10 hpos hlow hlt
  have hsh := Lib.hid (shr_none a (printB a).size ha hlt)
  have hm1 := Lib.hid (@vp_mono a b)
  have hm2 := Lib.hid (@vp_mono b a)
  rw [← print_len, ← print_len] at hm1 hm2
  have e1 := print_eq a b
  have e2 := print_eq b a
  have e3 : ((b : Int) == (a : Int)) = ((a : Int) == (b : Int)) := by rw [Bool.eq_iff_iff, beq_iff_eq, beq_iff_eq]; omega
  rw [e3] at e2
  clear ha hb' hlt e3
  go_enter Try.func7, Try.ntmps7
  go_wp2
  go_loop [5] (fun i => ∃ k : Nat, 0 < k ∧ k ≤ (printB a).size ∧ i = .int .i64 k) (fun i => 10 - (intOf i).toNat)
  case atStart => exact ⟨1, by omega, by omega, rfl⟩
  case round =>
    obtain ⟨k, h0, hk, rfl⟩ := hrel
    by_cases hc : k < (printB a).size
    · have t1 := shr_some a k (hlow.out k h0 hc)
      have t2 : decide ((k : Int) < 10) = true := by rw [decide_eq_true_eq]; omega
      clear e1 e2
      go_wp2
      go_round
      case rel => exact ⟨k + 1, by omega, by omega, by go_num⟩
      case measure => simp [intOf]; omega
    · obtain rfl : k = (printB a).size := by omega
      have hs := hsh.out
      clear hc hk
      by_cases hab : b < a
      · have g1 := hm2.out (by omega)
        have g2 : decide (((printB b).size : Int) ≤ ((printB a).size : Int)) = true := by rw [decide_eq_true_eq]; omega
        go_wp2_with (first | (go_at_call_of 9 (Value.int .u64 (a : Int)); refine p1.out.step (w0 := w) (B := w.heap.size) hb hB ?_; clear hb hB; intro wb hb hB) | (go_at_call_of 9 (Value.int .u64 (b : Int)); refine p2.out.step (w0 := w) (B := w.heap.size) hb hB ?_; clear hb hB; intro wb hb hB) | (go_at_call 8; refine awake_calls.step (w0 := w) (B := w.heap.size) hb hB ?_; clear hb hB; intro w' hb hB))
        all_goals go_ret
        all_goals first | exact ⟨rfl, by go_grown⟩ | exact ⟨ret_bool (by rw [beq_iff_eq]; omega), by go_grown⟩
      · have g1 := hm1.out (by omega)
        have g2 : decide (((printB a).size : Int) ≤ ((printB b).size : Int)) = true := by rw [decide_eq_true_eq]; omega
        go_wp2_with (first | (go_at_call_of 9 (Value.int .u64 (a : Int)); refine p1.out.step (w0 := w) (B := w.heap.size) hb hB ?_; clear hb hB; intro wb hb hB) | (go_at_call_of 9 (Value.int .u64 (b : Int)); refine p2.out.step (w0 := w) (B := w.heap.size) hb hB ?_; clear hb hB; intro wb hb hB) | (go_at_call 8; refine awake_calls.step (w0 := w) (B := w.heap.size) hb hB ?_; clear hb hB; intro w' hb hB))
        all_goals go_ret
        all_goals first | exact ⟨rfl, by go_grown⟩ | exact ⟨ret_bool (by rw [beq_iff_eq]; omega), by go_grown⟩
end Go.Proofs.Ytfbcagadghlglaa
