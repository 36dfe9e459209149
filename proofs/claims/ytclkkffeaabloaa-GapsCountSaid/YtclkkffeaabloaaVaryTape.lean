/- Contracts of first and of a tape's methods. -/
import Derived.Test.YtclkkffeaabloaaVaryFold
import Derived.Test.YtclkkffeaabloaaVaryPrint
import Derived.Test.YtclkkffeaabloaaVaryPrintRef
import Derived.Deep.RegionWith
import Derived.Deep.QuietTactic
import Derived.BigQuiet
import Derived.Laws.Rows
import Derived.Lib.Strings
namespace Go.Proofs.Ytclkkffeaabloaa
open Go Go.RowKit

def firstR (s : ByteArray) : Value := .tuple #[.int .u64 (((nextNum s.data.toList).getD (0, 0)).1 : Nat), .int .i64 (((nextNum s.data.toList).getD (0, 0)).2 : Nat)]
theorem firstR_of (s : ByteArray) (o : Option (Nat × Nat)) (h : nextNum s.data.toList = o) : Ending.returned (.tuple #[.int .u64 ((o.getD (0, 0)).1 : Nat), .int .i64 ((o.getD (0, 0)).2 : Nat)]) = .returned (firstR s) := by subst h; rfl

def accNat (l : List UInt8) (k : Nat) : Nat := val7 (l.take k) % 18446744073709551616
def accN (l : List UInt8) (k : Nat) : Int := (accNat l k : Int)

theorem byte_at (s : ByteArray) (k : Nat) (h : k < s.size) : s.data.toList[k]? = some s[k] := by
  have h' : k < s.data.toList.length := by rw [Array.length_toList]; exact h
  rw [List.getElem?_eq_getElem h']
  rfl
theorem wrap_lt (n : Nat) (h : n < 18446744073709551616) : IntKind.u64.wrap (n : Int) = (n : Int) := by rw [IntKind.wrap_u64]; omega
theorem acc_step (s : ByteArray) (k : Nat) (h : k < s.size) (h9 : k < 10) :
    bits .or .u64 (accN s.data.toList k) (IntKind.u64.wrap (IntKind.u64.wrap (bits .andNot .u8 (s[k].toNat : Int) 128) * 2 ^ (7 * k))) = accN s.data.toList (k + 1) := by
  obtain ⟨h1, h2⟩ := val7_or s.data.toList k s[k] (byte_at s k h) h9
  rw [not_128, wrap_lt _ (by omega)]
  have e1 : ((s[k].toNat % 128 : Nat) : Int) * 2 ^ (7 * k) = ((s[k].toNat % 128 * 2 ^ (7 * k) : Nat) : Int) := by simp
  rw [e1, IntKind.wrap_u64]
  have e2 : ((s[k].toNat % 128 * 2 ^ (7 * k) : Nat) : Int) % 18446744073709551616 = ((s[k].toNat % 128 * 2 ^ (7 * k) % 18446744073709551616 : Nat) : Int) := by simp
  rw [e2]
  unfold accN accNat
  rw [← h1, Nat.mod_eq_of_lt (a := val7 (List.take k s.data.toList)) (by omega), Nat.shiftLeft_eq]
  exact bits_or_u64_nat _ _ (by omega) (Nat.mod_lt _ (by decide))
theorem print_acc (l : List UInt8) (k : Nat) : Gives Try.prog 19 #[.int .u64 (accN l k)] (.string (printB (accNat l k))) :=
  print_calls _ (Nat.mod_lt _ (by decide))
theorem print_test (s : ByteArray) (k : Nat) :
    (vp (accNat s.data.toList (k + 1)) = s.data.toList.take (k + 1) → ((printB (accNat s.data.toList (k + 1))).toList == (s.extract 0 (k + 1)).toList) = true ∧ ((printB (accNat s.data.toList (k + 1))).toList != (s.extract 0 (k + 1)).toList) = false) ∧
    (¬ vp (accNat s.data.toList (k + 1)) = s.data.toList.take (k + 1) → ((printB (accNat s.data.toList (k + 1))).toList == (s.extract 0 (k + 1)).toList) = false ∧ ((printB (accNat s.data.toList (k + 1))).toList != (s.extract 0 (k + 1)).toList) = true) := by
  have e1 : (printB (accNat s.data.toList (k + 1))).toList = vp (accNat s.data.toList (k + 1)) := by rw [ByteArray.toList_eq]; rfl
  have e2 : (s.extract 0 (k + 1)).toList = s.data.toList.take (k + 1) := by rw [Lib.extract_toList]; simp
  rw [e1, e2]
  constructor
  · intro hv; rw [hv]; simp
  · intro hv; simp [hv]
theorem acc_zero (l : List UInt8) : accN l 0 = 0 := rfl

set_option maxRecDepth 100000 in
set_option maxHeartbeats 1000000 in
theorem first_short (s : ByteArray) (hs : s.size ≤ 10) : Gives Try.prog 27 #[.string s] (firstR s) := by
  intro w
  obtain ⟨hb, hB⟩ := start w
  go_enter Try.func27, Try.ntmps27
  go_wp2
  go_loop [4, 9] (fun n i => ∃ k : Nat, k ≤ s.size ∧ i = .int .i64 k ∧ n = .int .u64 (accN s.data.toList k) ∧ Hid (∀ x ∈ s.data.toList.take k, 128 ≤ x.toNat)) (fun _ i => s.size - (intOf i).toNat)
  case atStart => exact ⟨0, Nat.zero_le _, rfl, rfl, fun x hx => absurd hx (by simp)⟩
  case round =>
    obtain ⟨k, hk, rfl, rfl, ha⟩ := hrel
    by_cases hlt : k < s.size
    · have hks : k < s.size := by omega
      have HA := Lib.hid (acc_step s k hks (by omega))
      have HK := Lib.hid (byte_at s k hks)
      by_cases hc : s[k].toNat < 128
      · have hd : decide (128 ≤ ((s[k].toNat : Nat) : Int)) = false := by rw [decide_eq_false_iff_not]; omega
        have HN := Lib.hid (nextNum_stop s.data.toList k s[k] HK.out ha.out hc (by omega))
        have HT := print_test s k
        have q1 : IntKind.i64.wrap ((k : Int) + 1) = (k : Int) + 1 := IntWalk.i64_in _ (by omega)
        have q2 : (0 : Int) ≤ (k : Int) + 1 := by omega
        have q3 : ((k : Int) + 1).toNat = k + 1 := by omega
        have q4 : k + 1 ≤ s.size := by omega
        by_cases hv : vp (accNat s.data.toList (k + 1)) = s.data.toList.take (k + 1)
        · obtain ⟨ht, ht'⟩ := HT.1 hv
          have HR := Lib.hid (HN.out.trans (if_pos hv))
          clear HT hv HN
          go_wp2
          rw [HA.out]
          go_region_with (go_at_call 19; refine (print_acc _ _).step (w0 := w) (B := w.heap.size) (by go_grown) (by go_size) ?_; intro w' hb hB)
          all_goals
            go_wp2
            go_ret2
            exact ⟨firstR_of s _ HR.out, by go_grown⟩
        · obtain ⟨ht, ht'⟩ := HT.2 hv
          have HR := Lib.hid (HN.out.trans (if_neg hv))
          clear HT hv HN
          go_wp2
          rw [HA.out]
          go_region_with (go_at_call 19; refine (print_acc _ _).step (w0 := w) (B := w.heap.size) (by go_grown) (by go_size) ?_; intro w' hb hB)
          all_goals
            go_wp2
            go_ret2
            exact ⟨firstR_of s _ HR.out, by go_grown⟩
      · have hd : decide (128 ≤ ((s[k].toNat : Nat) : Int)) = true := by rw [decide_eq_true_eq]; omega
        go_wp2
        go_round
        case rel => exact ⟨k + 1, by omega, by go_num, by rw [HA.out], fun x hx => by
          rw [take_form _ _ _ HK.out] at hx
          rcases List.mem_append.1 hx with hx | hx
          · exact ha.out x hx
          · simp at hx; subst hx; omega⟩
        case measure => simp [intOf]; omega
    · obtain rfl : k = s.size := by omega
      have HR := Lib.hid (nextNum_end s.data.toList s.size (by rw [Array.length_toList]; show _ = min s.size 10; omega) ha.out)
      go_wp2
      go_ret2
      exact ⟨firstR_of s _ HR.out, by go_grown⟩

set_option maxRecDepth 100000 in
set_option maxHeartbeats 1000000 in
theorem first_long (s : ByteArray) (hs : 10 < s.size) : Gives Try.prog 27 #[.string s] (firstR s) := by
  intro w
  obtain ⟨hb, hB⟩ := start w
  go_enter Try.func27, Try.ntmps27
  go_wp2
  go_loop [4, 9] (fun n i => ∃ k : Nat, k ≤ 10 ∧ i = .int .i64 k ∧ n = .int .u64 (accN s.data.toList k) ∧ Hid (∀ x ∈ s.data.toList.take k, 128 ≤ x.toNat)) (fun _ i => 10 - (intOf i).toNat)
  case atStart => exact ⟨0, Nat.zero_le _, rfl, rfl, fun x hx => absurd hx (by simp)⟩
  case round =>
    obtain ⟨k, hk, rfl, rfl, ha⟩ := hrel
    by_cases hlt : k < 10
    · have hks : k < s.size := by omega
      have HA := Lib.hid (acc_step s k hks (by omega))
      have HK := Lib.hid (byte_at s k hks)
      by_cases hc : s[k].toNat < 128
      · have hd : decide (128 ≤ ((s[k].toNat : Nat) : Int)) = false := by rw [decide_eq_false_iff_not]; omega
        have HN := Lib.hid (nextNum_stop s.data.toList k s[k] HK.out ha.out hc (by omega))
        have HT := print_test s k
        have q1 : IntKind.i64.wrap ((k : Int) + 1) = (k : Int) + 1 := IntWalk.i64_in _ (by omega)
        have q2 : (0 : Int) ≤ (k : Int) + 1 := by omega
        have q3 : ((k : Int) + 1).toNat = k + 1 := by omega
        have q4 : k + 1 ≤ s.size := by omega
        by_cases hv : vp (accNat s.data.toList (k + 1)) = s.data.toList.take (k + 1)
        · obtain ⟨ht, ht'⟩ := HT.1 hv
          have HR := Lib.hid (HN.out.trans (if_pos hv))
          clear HT hv HN
          go_wp2
          rw [HA.out]
          go_region_with (go_at_call 19; refine (print_acc _ _).step (w0 := w) (B := w.heap.size) (by go_grown) (by go_size) ?_; intro w' hb hB)
          all_goals
            go_wp2
            go_ret2
            exact ⟨firstR_of s _ HR.out, by go_grown⟩
        · obtain ⟨ht, ht'⟩ := HT.2 hv
          have HR := Lib.hid (HN.out.trans (if_neg hv))
          clear HT hv HN
          go_wp2
          rw [HA.out]
          go_region_with (go_at_call 19; refine (print_acc _ _).step (w0 := w) (B := w.heap.size) (by go_grown) (by go_size) ?_; intro w' hb hB)
          all_goals
            go_wp2
            go_ret2
            exact ⟨firstR_of s _ HR.out, by go_grown⟩
      · have hd : decide (128 ≤ ((s[k].toNat : Nat) : Int)) = true := by rw [decide_eq_true_eq]; omega
        go_wp2
        go_round
        case rel => exact ⟨k + 1, by omega, by go_num, by rw [HA.out], fun x hx => by
          rw [take_form _ _ _ HK.out] at hx
          rcases List.mem_append.1 hx with hx | hx
          · exact ha.out x hx
          · simp at hx; subst hx; omega⟩
        case measure => simp [intOf]; omega
    · obtain rfl : k = 10 := by omega
      have HR := Lib.hid (nextNum_end s.data.toList 10 (by rw [Array.length_toList]; show _ = min s.size 10; omega) ha.out)
      go_wp2
      go_ret2
      exact ⟨firstR_of s _ HR.out, by go_grown⟩

theorem first_calls (s : ByteArray) : Gives Try.prog 27 #[.string s] (firstR s) := by
  by_cases hs : s.size ≤ 10
  · exact first_short s hs
  · exact first_long s (by omega)
end Go.Proofs.Ytclkkffeaabloaa
