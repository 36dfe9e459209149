/- Contracts of a tape's methods, of the answer. -/
import Derived.Test.YtclkkffeaabloaaVaryRead
namespace Go.Proofs.Ytclkkffeaabloaa
open Go Go.RowKit

theorem byte_ge (s : ByteArray) (k : Nat) (hk : k < s.size) (ha : ∀ x ∈ s.data.toList.take k, 128 ≤ x.toNat) (h : ¬ s[k].toNat < 128) : ∀ x ∈ s.data.toList.take (k + 1), 128 ≤ x.toNat := by
  intro x hx
  rw [take_form _ _ _ (byte_at s k hk)] at hx
  rcases List.mem_append.1 hx with hx | hx
  · exact ha x hx
  · simp at hx; subst hx; omega
theorem numT_none (s : ByteArray) (m : Int) (h : nextNum s.data.toList = none) : numT s false m = (0, s, true) := by unfold numT; rw [h]; rfl
theorem numT_over (s : ByteArray) (m : Int) (n k : Nat) (h : nextNum s.data.toList = some (n, k)) (hm : m < n) : numT s false m = (0, s, true) := by
  unfold numT; rw [h]; simp only [Bool.false_eq_true, if_false]; rw [if_neg (by omega)]
theorem numT_ok (s : ByteArray) (m : Int) (n k : Nat) (h : nextNum s.data.toList = some (n, k)) (hm : (n : Int) ≤ m) : numT s false m = (n, s.extract k s.size, false) := by
  unfold numT; rw [h]; simp only [Bool.false_eq_true, if_false]; rw [if_pos hm]
theorem ref_step (s : ByteArray) (k : Nat) (h : k < s.size) (h9 : k < 10) :
    bits .or .u64 (accN s.data.toList k) (IntKind.u64.wrap (IntKind.u64.wrap (bits .and .u8 (s[k].toNat : Int) 127) * 2 ^ (7 * k))) = accN s.data.toList (k + 1) := by
  rw [and_127, ← not_128]
  exact acc_step s k h h9

set_option maxHeartbeats 400000 in
theorem ref_num_bad (b : Nat) (s : ByteArray) (m : Int) : Takes Try.prog 38 22 [.int .u64 m] b s true (.int .u64 0) s true := by
  intro w hT
  have hc0 := hT.c0
  have hc1 := hT.c1
  have hf := hT.f0 1
  have hg := grown_refl w (some b)
  go_enter Try.func22, Try.ntmps22
  go_wp2
  refine wp_loop_rounds 1 ?_
  rw [rounds_succ]
  by_cases h0 : 0 < s.size
  all_goals
    go_wp2
    go_ret
    exact ⟨rfl, hT.set1 true, grown_set hg _ _⟩

set_option maxRecDepth 100000 in
set_option maxHeartbeats 1000000 in
theorem ref_num_good (b : Nat) (s : ByteArray) (m : Int) : Takes Try.prog 38 22 [.int .u64 m] b s false (.int .u64 ((numT s false m).1 : Nat)) (numT s false m).2.1 (numT s false m).2.2 := by
  intro w hT
  have hc0 := hT.c0
  have hc1 := hT.c1
  have hf0 := hT.f0 0
  have hf1 := hT.f0 1
  have hg := grown_refl w (some b)
  go_enter Try.func22, Try.ntmps22
  go_wp2
  go_loop [5, 6] (fun n i => ∃ k : Nat, k ≤ s.size ∧ k ≤ 10 ∧ i = .int .i64 k ∧ n = .int .u64 (accN s.data.toList k) ∧ Hid (∀ x ∈ s.data.toList.take k, 128 ≤ x.toNat)) (fun _ i => s.size - (intOf i).toNat)
  case atStart => exact ⟨0, Nat.zero_le _, Nat.zero_le _, rfl, rfl, fun x hx => absurd hx (by simp)⟩
  case round =>
    obtain ⟨k, hk, hk10, rfl, rfl, ha⟩ := hrel
    by_cases hlt : k < s.size ∧ k < 10
    · obtain ⟨hlt, hlt10⟩ := hlt
      have HA := ref_step s k hlt hlt10
      have HK := Lib.hid (byte_at s k hlt)
      have HF : k < 9 → s.extract (k + 1) s.size = s.extract (k + 1) s.size := fun _ => rfl
      clear HF
      have H1 : Hid (k = 9 ∧ 1 < s[k].toNat ∨ 0 < k ∧ s[k].toNat = 0 → numT s false m = (0, s, true)) := fun hx => numT_none s m (nextNum_not s.data.toList k s[k] HK.out ha.out hx)
      have H2 : Hid (s[k].toNat < 128 → ¬ (k = 9 ∧ 1 < s[k].toNat) → ¬ (0 < k ∧ s[k].toNat = 0) → accN s.data.toList (k + 1) ≤ m → numT s false m = (accNat s.data.toList (k + 1), s.extract (k + 1) s.size, false)) := by
        intro a1 a2 a3 a4
        obtain ⟨e1, e2⟩ := nextNum_at s.data.toList k s[k] HK.out ha.out a1 hlt10 a2 a3
        have e3 : accNat s.data.toList (k + 1) = val7 (s.data.toList.take (k + 1)) := Nat.mod_eq_of_lt e2
        rw [e3]
        exact numT_ok s m _ _ e1 (by rw [← e3]; exact a4)
      have H3 : Hid (s[k].toNat < 128 → ¬ (k = 9 ∧ 1 < s[k].toNat) → ¬ (0 < k ∧ s[k].toNat = 0) → ¬ accN s.data.toList (k + 1) ≤ m → numT s false m = (0, s, true)) := by
        intro a1 a2 a3 a4
        obtain ⟨e1, e2⟩ := nextNum_at s.data.toList k s[k] HK.out ha.out a1 hlt10 a2 a3
        have e3 : accNat s.data.toList (k + 1) = val7 (s.data.toList.take (k + 1)) := Nat.mod_eq_of_lt e2
        exact numT_over s m _ _ e1 (by rw [← e3]; unfold accN at a4; omega)
      have H4 : Hid (¬ s[k].toNat < 128 → ∀ x ∈ s.data.toList.take (k + 1), 128 ≤ x.toNat) := byte_ge s k hlt ha.out
      clear HK
      by_cases c1 : k = 9 <;> by_cases c2 : 1 < s[k].toNat <;> by_cases c3 : 0 < k <;> by_cases c4 : s[k].toNat = 0 <;> by_cases c5 : s[k].toNat < 128 <;> by_cases c6 : accN s.data.toList (k + 1) ≤ m <;> (try (exfalso; omega))
      all_goals
        first | (have f1 : ((k : Int) == 9) = true := by (rw [beq_iff_eq]; omega)) | (have f1 : ((k : Int) == 9) = false := by (rw [beq_eq_false_iff_ne]; omega))
        first | (have f2 : (decide (1 < ((s[k].toNat : Nat) : Int))) = true := by (rw [decide_eq_true_eq]; omega)) | (have f2 : (decide (1 < ((s[k].toNat : Nat) : Int))) = false := by (rw [decide_eq_false_iff_not]; omega))
        first | (have f2n : (decide (1 < s[k].toNat)) = true := by (rw [decide_eq_true_eq]; omega)) | (have f2n : (decide (1 < s[k].toNat)) = false := by (rw [decide_eq_false_iff_not]; omega))
        first | (have f3 : (decide (0 < (k : Int))) = true := by (rw [decide_eq_true_eq]; omega)) | (have f3 : (decide (0 < (k : Int))) = false := by (rw [decide_eq_false_iff_not]; omega))
        first | (have f3n : (decide (0 < k)) = true := by (rw [decide_eq_true_eq]; omega)) | (have f3n : (decide (0 < k)) = false := by (rw [decide_eq_false_iff_not]; omega))
        first | (have f4 : (((s[k].toNat : Nat) : Int) == 0) = true := by (rw [beq_iff_eq]; omega)) | (have f4 : (((s[k].toNat : Nat) : Int) == 0) = false := by (rw [beq_eq_false_iff_ne]; omega))
        first | (have f5 : (decide (((s[k].toNat : Nat) : Int) < 128)) = true := by (rw [decide_eq_true_eq]; omega)) | (have f5 : (decide (((s[k].toNat : Nat) : Int) < 128)) = false := by (rw [decide_eq_false_iff_not]; omega))
        first | (have f5n : (decide (s[k].toNat < 128)) = true := by (rw [decide_eq_true_eq]; omega)) | (have f5n : (decide (s[k].toNat < 128)) = false := by (rw [decide_eq_false_iff_not]; omega))
        first | (have f6 : (decide (m < accN s.data.toList (k + 1))) = true := by (rw [decide_eq_true_eq]; omega)) | (have f6 : (decide (m < accN s.data.toList (k + 1))) = false := by (rw [decide_eq_false_iff_not]; omega))
        have G := Lib.hid (And.intro (And.intro c1 c2) (And.intro (And.intro c3 c4) (And.intro c5 c6)))
        clear c1 c2 c3 c4 c5 c6
        go_wp2
      all_goals first
        | (go_round; (case rel => exact ⟨k + 1, by omega, by omega, by go_num, rfl, H4.out G.out.2.2.1⟩); (case measure => simp [intOf]; omega))
        | (go_ret; (first | rw [H1.out (by have := G.out; omega)] | rw [H3.out (by have := G.out; omega) (by have := G.out; omega) (by have := G.out; omega) G.out.2.2.2]); exact ⟨rfl, hT.set1 true, grown_set hg _ _⟩)
        | (go_ret; rw [H2.out (by have := G.out; omega) (by have := G.out; omega) (by have := G.out; omega) G.out.2.2.2]; exact ⟨rfl, hT.set0 _, grown_set hg _ _⟩)
    · have HR := Lib.hid (numT_none s m (nextNum_end s.data.toList k (by rw [Array.length_toList]; show _ = min s.size 10; omega) ha.out))
      have : k = 10 ∨ k = s.size ∧ k < 10 := by omega
      rcases this with rfl | ⟨rfl, h10⟩
      all_goals
        clear hlt
        go_wp2
        go_ret
        rw [HR.out]
        exact ⟨rfl, hT.set1 true, grown_set hg _ _⟩
end Go.Proofs.Ytclkkffeaabloaa
