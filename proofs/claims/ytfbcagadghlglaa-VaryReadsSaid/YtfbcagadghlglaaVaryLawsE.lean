/- The law VaryReads, whatever it is given. -/
import Derived.Test.YtfbcagadghlglaaVaryLawsC
namespace Go.Proofs.Ytfbcagadghlglaa
open Go Go.RowKit

set_option maxHeartbeats 1000000 in
set_option maxRecDepth 100000 in
theorem varyReads_long1 (s : ByteArray) (p : Option Addr) (n cap : Nat) (w : World) (hs : 300 < s.size) :
    Calls Try.prog 4 #[.string s, .slice p n cap] w fun e w' => e = .returned (.bool true) ∧ Below w.heap.size w w' := by
  obtain ⟨hb, hB⟩ := start w
  have hd : decide (300 < (s.size : Int)) = true := by rw [decide_eq_true_eq]; omega
  go_enter Try.func4, Try.ntmps4
  go_wp2_with (go_at_call 8; refine awake_calls.step (w0 := w) (B := w.heap.size) (by first | exact hb | go_grown) (by first | exact hB | go_size) ?_; intro w' hb hB)
  go_ret
  exact ⟨rfl, by go_grown⟩
set_option maxHeartbeats 1000000 in
set_option maxRecDepth 100000 in
theorem varyReads_long2 (s : ByteArray) (p : Option Addr) (n cap : Nat) (w : World) (hs : s.size ≤ 300) (hn : 40 < n) :
    Calls Try.prog 4 #[.string s, .slice p n cap] w fun e w' => e = .returned (.bool true) ∧ Below w.heap.size w w' := by
  obtain ⟨hb, hB⟩ := start w
  have hd : decide (300 < (s.size : Int)) = false := by rw [decide_eq_false_iff_not]; omega
  have hd2 : decide (40 < (n : Int)) = true := by rw [decide_eq_true_eq]; omega
  go_enter Try.func4, Try.ntmps4
  go_wp2_with (go_at_call 8; refine awake_calls.step (w0 := w) (B := w.heap.size) (by first | exact hb | go_grown) (by first | exact hB | go_size) ?_; intro w' hb hB)
  go_ret
  exact ⟨rfl, by go_grown⟩
set_option maxHeartbeats 1000000 in
set_option maxRecDepth 100000 in
theorem varyReads_none (s : ByteArray) (p : Option Addr) (cap : Nat) (w : World) (hs : s.size ≤ 300) :
    Calls Try.prog 4 #[.string s, .slice p 0 cap] w fun e w' => e = .returned (.bool true) ∧ Below w.heap.size w w' := by
  obtain ⟨hb, hB⟩ := start w
  have hd : decide (300 < (s.size : Int)) = false := by rw [decide_eq_false_iff_not]; omega
  go_enter Try.func4, Try.ntmps4
  go_wp2
  refine wp_loop_rounds 1 ?_
  rw [rounds_succ]
  go_wp2_with (go_at_call 8; refine awake_calls.step (w0 := w) (B := w.heap.size) (by first | exact hb | go_grown) (by first | exact hB | go_size) ?_; intro w' hb hB)
  go_ret
  exact ⟨rfl, by go_grown⟩

theorem varyReads_calls (s : ByteArray) (v : Value) (w : World)
    (h : v = .slice none 0 0 ∨ (∃ a cap, v = .slice (some a) 0 cap) ∨ ∃ b off n cap, ∃ X Y : Nat → Nat, v = .slice (some ⟨b, off, none⟩) n cap ∧ b < w.heap.size ∧
      (∀ i, i < n → w.cell? ⟨b, off + i * 2, none⟩ = some (.int .u64 (X i))) ∧ (∀ i, i < n → w.cell? ⟨b, off + i * 2 + 1, none⟩ = some (.int .u64 (Y i))) ∧
      (∀ i, i < n → X i < 18446744073709551616) ∧ (∀ i, i < n → Y i < 18446744073709551616)) :
    Calls Try.prog 4 #[.string s, v] w fun e w' => e = .returned (.bool true) ∧ Below w.heap.size w w' := by
  rcases h with rfl | ⟨a, cap, rfl⟩ | ⟨b, off, n, cap, X, Y, rfl, h1, h2, h3, h4, _⟩
  · by_cases hs : s.size ≤ 300
    · exact varyReads_none s _ _ w hs
    · exact varyReads_long1 s _ _ _ w (by omega)
  · by_cases hs : s.size ≤ 300
    · exact varyReads_none s _ _ w hs
    · exact varyReads_long1 s _ _ _ w (by omega)
  · by_cases hs : s.size ≤ 300
    · by_cases hn : n ≤ 40
      · exact varyReads_some s b off n cap X Y w hs hn ⟨h1, h2, h3⟩ h4
      · exact varyReads_long2 s _ _ _ w hs (by omega)
    · exact varyReads_long1 s _ _ _ w (by omega)

end Go.Proofs.Ytfbcagadghlglaa
