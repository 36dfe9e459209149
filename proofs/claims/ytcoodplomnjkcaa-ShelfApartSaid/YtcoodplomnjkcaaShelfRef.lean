/- Contracts of the small functions of layer 3's answer. -/
import Derived.Test.YtcoodplomnjkcaaShelfWalks
namespace Go.Proofs.Ytcoodplomnjkcaa
open Go Go.RowKit

theorem leastI_step (l : List Int) (k : Nat) (h : k < l.length) (h0 : 0 < k) : leastI (l.take (k + 1)) = min (leastI (l.take k)) l[k] := by
  rw [take_add l k h]; exact leastI_snoc _ _ (by intro hz; have := congrArg List.length hz; rw [List.length_take, List.length_nil] at this; omega)
set_option maxHeartbeats 400000 in
theorem ref_least_calls {w : World} {v : Value} {l : List Int} (h : IntsIn w v l) : Reads Try.prog 22 #[v] w (.int .i64 (leastI l)) := by
  have hm := h.len
  unfold maxLen at hm
  rcases h.parts with ⟨rfl, A, cap, rfl⟩ | ⟨h0, b, off, cap, rfl, hlt, hc⟩
  · clear h hm
    unfold Reads
    go_enter Try.func22, Try.ntmps22
    go_wp2
    refine wp_loop_rounds 1 ?_
    rw [rounds_succ]
    go_wp2
    go_ret
    exact ⟨rfl, rfl⟩
  · have hc0 : w.cell? ⟨b, off, none⟩ = some (.int .i64 l[0]) := hc 0 h0
    have e1 : leastI (l.take 1) = l[0] := by rw [take_add l 0 h0]; rfl
    have HC := Lib.hid hc
    have HE := Lib.hid e1
    clear h hc e1
    unfold Reads
    go_enter Try.func22, Try.ntmps22
    go_wp2
    go_loop [3, 4] (fun n i => ∃ k : Nat, k ≤ l.length ∧ i = .int .i64 k ∧ n = .int .i64 (leastI (l.take k))) (fun _ i => l.length - (intOf i).toNat)
    case atStart => exact ⟨0, by omega, rfl, rfl⟩
    case round =>
      obtain ⟨k, hk, rfl, rfl⟩ := hrel
      by_cases hlt : k < l.length
      · by_cases hk0 : k = 0
        · subst hk0
          clear hk hlt
          go_wp2
          go_round
          case rel => exact ⟨1, by omega, by go_num, by rw [HE.out]⟩
          case measure => simp [intOf]; omega
        · have hx := HC.out k hlt
          have HS := Lib.hid (leastI_step l k hlt (by omega))
          have d1 : ((k : Int) == 0) = false := by rw [beq_eq_false_iff_ne]; omega
          by_cases hc : l[k] < leastI (l.take k)
          · have d2 : decide (l[k] < leastI (l.take k)) = true := by rw [decide_eq_true_eq]; exact hc
            go_wp2
            go_round
            case rel => exact ⟨k + 1, by omega, by go_num, by rw [HS.out]; congr 1; omega⟩
            case measure => simp [intOf]; omega
          · have d2 : decide (l[k] < leastI (l.take k)) = false := by rw [decide_eq_false_iff_not]; exact hc
            go_wp2
            go_round
            case rel => exact ⟨k + 1, by omega, by go_num, by rw [HS.out]; congr 1; omega⟩
            case measure => simp [intOf]; omega
      · obtain rfl : k = l.length := by omega
        go_wp2
        go_ret
        exact ⟨rfl, rfl⟩

theorem shr_some8 (a k : Nat) (h : 256 ^ k ≤ a) : decide (0 < (a : Int) / 2 ^ (8 * k)) = true := by
  have e7 : (256 : Nat) ^ k = 2 ^ (8 * k) := by rw [Nat.pow_mul]
  rw [e7] at h
  have h1 : 0 < a / 2 ^ (8 * k) := Nat.div_pos h (Nat.pow_pos (by decide))
  have h2 : (0 : Int) < ((a / 2 ^ (8 * k) : Nat) : Int) := by omega
  rw [Int.natCast_ediv] at h2
  rw [decide_eq_true_eq]
  simpa using h2
theorem shr_none8 (a k : Nat) (h : a < 256 ^ k) : decide (0 < (a : Int) / 2 ^ (8 * k)) = false := by
  have e7 : (256 : Nat) ^ k = 2 ^ (8 * k) := by rw [Nat.pow_mul]
  rw [e7] at h
  have h1 : a / 2 ^ (8 * k) = 0 := Nat.div_eq_of_lt h
  have h2 : ((a / 2 ^ (8 * k) : Nat) : Int) = 0 := by rw [h1]; rfl
  rw [Int.natCast_ediv] at h2
  rw [decide_eq_false_iff_not]
  have h3 : (a : Int) / 2 ^ (8 * k) = 0 := by simpa using h2
  omega
theorem bytesFrom_step (m : Int) (l : List Int) (k : Nat) (h : k < l.length) : bytesFrom m (l.take (k + 1)) = max (bytesFrom m (l.take k)) (nb (dist l[k] m)) := by
  rw [take_add l k h, bytesFrom_snoc]

set_option maxHeartbeats 1000000 in
theorem ref_bytes_calls {w : World} {v : Value} {l : List Int} (h : IntsIn w v l) : Reads Try.prog 12 #[v] w (.int .i64 (bytesL l)) := by
  have hm := h.len
  unfold maxLen at hm
  rcases h.parts with ⟨rfl, A, cap, rfl⟩ | ⟨h0, b, off, cap, rfl, hlt, hc⟩
  · have H := Lib.hid h
    clear h hm
    unfold Reads
    go_enter Try.func12, Try.ntmps12
    go_wp2_with (go_at_call 22; refine (ref_least_calls H.out).step ?_)
    refine wp_loop_rounds 1 ?_
    rw [rounds_succ]
    go_wp2
    go_ret
    exact ⟨rfl, rfl⟩
  · have HC := Lib.hid hc
    have H := Lib.hid h
    have HL := Lib.hid (show bytesFrom (leastI l) l = bytesL l from rfl)
    clear h hc
    unfold Reads
    go_enter Try.func12, Try.ntmps12
    go_wp2_with (go_at_call 22; refine (ref_least_calls H.out).step ?_)
    go_loop [3, 5] (fun n i => ∃ k : Nat, k ≤ l.length ∧ i = .int .i64 k ∧ n = .int .i64 (bytesFrom (leastI l) (l.take k))) (fun _ i => l.length - (intOf i).toNat)
    case atStart => exact ⟨0, by omega, rfl, rfl⟩
    case round =>
      obtain ⟨k, hk, rfl, rfl⟩ := hrel
      by_cases hlt : k < l.length
      · have hx := HC.out k hlt
        have HS := Lib.hid (bytesFrom_step (leastI l) l k hlt)
        have HW := wrap_sub l[k] (leastI l)
        have hD := dist_lt l[k] (leastI l)
        generalize dist l[k] (leastI l) = D at HS HW hD
        have h8 := Lib.hid (nb_le_8 hD)
        have HD := Lib.hid hD
        have hB := bytesFrom_le_8 (leastI l) (l.take k)
        generalize bytesFrom (leastI l) (l.take k) = B at HS hB
        clear hD
        go_wp2
        clear HW
        go_loop [3] (fun n => ∃ j : Nat, B ≤ j ∧ j ≤ 8 ∧ (j ≤ max B (nb D)) ∧ n = .int .i64 j) (fun n => 8 - (intOf n).toNat)
        case atStart => exact ⟨B, by omega, by omega, by omega, rfl⟩
        case round =>
          obtain ⟨j, hj1, hj2, hj3, rfl⟩ := hrel
          by_cases hj8 : j < 8
          · by_cases hd : 256 ^ j ≤ D
            · have d1 := shr_some8 D j hd
              have hn : ¬ nb D ≤ j := by rw [nb_spec]; omega
              go_wp2
              go_round
              case rel => exact ⟨j + 1, by omega, by omega, by omega, by go_num⟩
              case measure => simp [intOf]; omega
            · have d1 := shr_none8 D j (by omega)
              have hn : nb D ≤ j := by rw [nb_spec]; omega
              have HS' := Lib.hid (show j = bytesFrom (leastI l) (l.take (k + 1)) by have := HS.out; omega)
              go_wp2
              go_round
              case rel => exact ⟨k + 1, by omega, by go_num, by rw [HS'.out]⟩
              case measure => simp [intOf]; omega
          · obtain rfl : j = 8 := by omega
            have HS' := Lib.hid (show 8 = bytesFrom (leastI l) (l.take (k + 1)) by have := HS.out; have := h8.out; omega)
            go_wp2
            go_round
            case rel => exact ⟨k + 1, by omega, by go_num, by rw [← HS'.out]⟩
            case measure => simp [intOf]; omega
      · obtain rfl : k = l.length := by omega
        go_wp2
        go_ret
        exact ⟨ret_int (by rw [← HL.out]), rfl⟩
end Go.Proofs.Ytcoodplomnjkcaa
