/- The contract of the answer's Same of layer 4: are these the same texts? -/
import Derived.Test.YtilnioloeijfhaaStrs
namespace Go.Proofs.Ytilnioloeijfhaa
open Go Go.RowKit

set_option maxHeartbeats 1000000 in
theorem same_strs {w : World} {va vb : Value} {a b : List ByteArray} (ha : StrsIn w va a) (hb : StrsIn w vb b) (hla : a.length ≤ 1000000) (hlb : b.length ≤ 1000000) :
    GivesAt Try.prog 10 #[va, vb] w (.bool (decide (a = b))) := by
  have hg := (start w).1
  obtain ⟨A, ca, rfl, hata⟩ := one_at ha
  obtain ⟨B, cb, rfl, hatb⟩ := one_at hb
  have HA := Lib.hid hata
  have HB := Lib.hid hatb
  clear ha hb hata hatb
  unfold GivesAt
  by_cases hl : a.length = b.length
  · have d1 : ((a.length : Int) == (b.length : Int)) = true := by rw [beq_iff_eq]; omega
    have hle : b.length = a.length := hl.symm
    have HL := Lib.hid hl
    clear hl
    go_enter Try.func10, Try.ntmps10
    rw [hle] at d1 ⊢
    clear hle
    go_wp2
    go_loopw [5] (fun i wr => ∃ k : Nat, k ≤ a.length ∧ i = .int .i64 k ∧ Hid (a.take k = b.take k) ∧ Below w.heap.size w wr) (fun i _ => a.length - (intOf i).toNat)
    case atStart => exact ⟨0, by omega, rfl, show a.take 0 = b.take 0 from rfl, hg⟩
    case round =>
      clear hg
      obtain ⟨k, hk, rfl, HE, hg⟩ := hrel
      by_cases hlt : k < a.length
      · obtain ⟨b1, o1, rfl, hl1, hc1⟩ := HA.out k hlt
        obtain ⟨b2, o2, rfl, hl2, hc2⟩ := HB.out k (by have := HL.out; omega)
        have hx1 := (hg.cell (p := ⟨b1, o1 + k, none⟩) hl1).trans (hc1 k hlt)
        have hx2 := (hg.cell (p := ⟨b2, o2 + k, none⟩) hl2).trans (hc2 k (by have := HL.out; omega))
        have hT1 := take_add a k hlt
        have hT2 := take_add b k (by have := HL.out; omega)
        have hne : a[k] ≠ b[k]'(by have := HL.out; omega) → ¬ a = b := by intro h e; subst e; exact h rfl
        generalize a[k] = x at *
        generalize b[k]'(by have := HL.out; omega) = y at *
        rcases str_ne_cases x y with ⟨he, g1, g2⟩ | ⟨he, g1, g2⟩
        · have HN : Hid (a.take (k + 1) = b.take (k + 1)) := by show _ = _; rw [hT1, hT2, HE.out, he]
          clear hT1 hT2 hne he hc1 hc2
          go_wp2
          go_quiet (fail)
          go_wp2
          go_roundw
          case rel => exact ⟨k + 1, by omega, by go_num, HN, below_drewN hg _⟩
          case measure => simp [intOf]; omega
        · have HD := Lib.hid (show decide (a = b) = false by rw [decide_eq_false_iff_not]; exact hne he)
          clear hT1 hT2 hne he hc1 hc2
          go_wp2
          go_quiet (fail)
          go_wp2
          go_ret
          exact ⟨ret_bool HD.out.symm, below_drewN hg _⟩
      · obtain rfl : k = a.length := by omega
        have HD : Hid (decide (a = b) = true) := by
          show _ = _
          rw [decide_eq_true_eq]
          have := HE.out
          rwa [List.take_length, List.take_of_length_le (by have := HL.out; omega)] at this
        go_wp2
        go_ret
        exact ⟨ret_bool HD.out.symm, hg⟩
  · have d1 : ((a.length : Int) == (b.length : Int)) = false := by rw [beq_eq_false_iff_ne]; omega
    have HD := Lib.hid (show decide (a = b) = false by rw [decide_eq_false_iff_not]; intro e; exact hl (by rw [e]))
    go_enter Try.func10, Try.ntmps10
    go_wp2
    go_ret
    exact ⟨ret_bool HD.out.symm, hg⟩
end Go.Proofs.Ytilnioloeijfhaa
