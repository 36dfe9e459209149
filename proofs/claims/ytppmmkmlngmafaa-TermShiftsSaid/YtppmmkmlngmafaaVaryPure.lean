/- Plain facts on numbers in as few bytes as they take: no program. -/
import Derived.WalkKit
import Derived.ProofKit
import Derived.IntWalk
namespace Go.Proofs.Ytppmmkmlngmafaa
open Go

/-- A number's bytes. -/
def vp (n : Nat) : List UInt8 := if n < 128 then [UInt8.ofNat n] else UInt8.ofNat (n % 128 + 128) :: vp (n / 128)
termination_by n
decreasing_by omega

theorem vp_small {n : Nat} (h : n < 128) : vp n = [UInt8.ofNat n] := by rw [vp, if_pos h]
theorem vp_great {n : Nat} (h : ¬ n < 128) : vp n = UInt8.ofNat (n % 128 + 128) :: vp (n / 128) := by rw [vp, if_neg h]

def val7 : List UInt8 → Nat
  | [] => 0
  | b :: l => b.toNat % 128 + 128 * val7 l

theorem toNat_ofNat {n : Nat} (h : n < 256) : (UInt8.ofNat n).toNat = n := by rw [UInt8.toNat_ofNat']; omega

theorem val7_vp (n : Nat) : val7 (vp n) = n := by
  induction n using Nat.strongRecOn with
  | ind n ih =>
    by_cases h : n < 128
    · rw [vp_small h, val7, val7, toNat_ofNat (by omega)]; omega
    · rw [vp_great h, val7, ih (n / 128) (by omega), toNat_ofNat (by omega)]; omega

theorem vp_ne (n : Nat) : vp n ≠ [] := by
  by_cases h : n < 128
  · rw [vp_small h]; simp
  · rw [vp_great h]; simp

theorem vp_pos (n : Nat) : 0 < (vp n).length := List.length_pos_iff.2 (vp_ne n)

/-- All but the last go on, the last doesn't; it isn't nought behind others. -/
theorem vp_form (n : Nat) : ∃ a b, vp n = a ++ [b] ∧ (∀ x ∈ a, 128 ≤ x.toNat) ∧ b.toNat < 128 ∧ (a = [] ∨ b.toNat ≠ 0) := by
  induction n using Nat.strongRecOn with
  | ind n ih =>
    by_cases h : n < 128
    · exact ⟨[], UInt8.ofNat n, by rw [vp_small h]; rfl, by simp, by rw [toNat_ofNat (by omega)]; omega, .inl rfl⟩
    · obtain ⟨a, b, e, h1, h2, h3⟩ := ih (n / 128) (by omega)
      refine ⟨UInt8.ofNat (n % 128 + 128) :: a, b, by rw [vp_great h, e]; rfl, ?_, h2, .inr ?_⟩
      · intro x hx
        rcases List.mem_cons.1 hx with rfl | hx
        · rw [toNat_ofNat (by omega)]; omega
        · exact h1 x hx
      · rcases h3 with rfl | h3
        · intro h0
          have k := val7_vp (n / 128)
          rw [e] at k
          simp only [List.nil_append, val7, h0] at k
          omega
        · exact h3

theorem val7_append (a b : List UInt8) : val7 (a ++ b) = val7 a + 128 ^ a.length * val7 b := by
  induction a with
  | nil => simp [val7]
  | cons x a ih =>
    simp only [List.cons_append, val7, ih, List.length_cons, Nat.pow_succ]
    rw [Nat.mul_add, Nat.mul_comm (128 ^ a.length) 128, Nat.mul_assoc]; omega

theorem val7_lt (a : List UInt8) : val7 a < 128 ^ a.length := by
  induction a with
  | nil => simp [val7]
  | cons x a ih => simp only [val7, List.length_cons, Nat.pow_succ]; omega

/-- What has the form is a number's bytes. -/
theorem vp_val7 : ∀ (a : List UInt8) (b : UInt8), (∀ x ∈ a, 128 ≤ x.toNat) → b.toNat < 128 → (a = [] ∨ b.toNat ≠ 0) → vp (val7 (a ++ [b])) = a ++ [b]
  | [], b, _, hb, _ => by
    simp only [List.nil_append, val7]
    have e : b.toNat % 128 + 128 * 0 = b.toNat := by omega
    rw [e, vp_small hb, UInt8.ofNat_toNat]
  | x :: a, b, ha, hb, h0 => by
    have hx := ha x List.mem_cons_self
    have hlt : x.toNat < 256 := x.toNat_lt
    have hb0 : b.toNat ≠ 0 := by
      rcases h0 with h | h
      · exact absurd h (by simp)
      · exact h
    have ih := vp_val7 a b (fun y hy => ha y (List.mem_cons_of_mem _ hy)) hb (.inr hb0)
    have hpos : 0 < val7 (a ++ [b]) := by
      rw [val7_append]
      have : 0 < 128 ^ a.length * val7 [b] := Nat.mul_pos (Nat.pow_pos (by decide)) (by simp [val7]; omega)
      omega
    simp only [List.cons_append, val7]
    rw [vp_great (by omega)]
    have e1 : (x.toNat % 128 + 128 * val7 (a ++ [b])) % 128 + 128 = x.toNat := by omega
    have e2 : (x.toNat % 128 + 128 * val7 (a ++ [b])) / 128 = val7 (a ++ [b]) := by omega
    rw [e1, e2, ih, UInt8.ofNat_toNat]

theorem vp_len_le (n : Nat) : ∀ k, 0 < k → n < 128 ^ k → (vp n).length ≤ k := by
  induction n using Nat.strongRecOn with
  | ind n ih =>
    intro k hk hn
    by_cases h : n < 128
    · rw [vp_small h]; exact hk
    · rw [vp_great h]
      match k, hk with
      | 1, _ => omega
      | k + 2, _ =>
        have := ih (n / 128) (by omega) (k + 1) (by omega) (by rw [Nat.pow_succ] at hn; omega)
        simp only [List.length_cons]; omega

theorem vp_len_10 {n : Nat} (h : n < 18446744073709551616) : (vp n).length ≤ 10 := vp_len_le n 10 (by decide) (Nat.lt_of_lt_of_le h (by decide))

theorem vp_lt (n : Nat) : n < 128 ^ (vp n).length := by
  have := val7_lt (vp n)
  rwa [val7_vp] at this

/-- The place of the first byte that doesn't go on. -/
def stopAt : List UInt8 → Nat
  | [] => 0
  | b :: l => if b.toNat < 128 then 0 else stopAt l + 1

theorem stopAt_le (l : List UInt8) : stopAt l ≤ l.length := by
  induction l with
  | nil => exact Nat.le_refl _
  | cons b l ih => unfold stopAt; split <;> simp <;> omega

theorem stopAt_form (a : List UInt8) (b : UInt8) (r : List UInt8) (ha : ∀ x ∈ a, 128 ≤ x.toNat) (hb : b.toNat < 128) : stopAt (a ++ b :: r) = a.length := by
  induction a with
  | nil => simp [stopAt, hb]
  | cons x a ih =>
    have hx := ha x List.mem_cons_self
    simp only [List.cons_append, stopAt, List.length_cons]
    rw [if_neg (by omega), ih (fun y hy => ha y (List.mem_cons_of_mem _ hy))]

theorem stopAt_all (a : List UInt8) (ha : ∀ x ∈ a, 128 ≤ x.toNat) (r : List UInt8) : a.length ≤ stopAt (a ++ r) := by
  induction a with
  | nil => simp
  | cons x a ih =>
    have hx := ha x List.mem_cons_self
    simp only [List.cons_append, stopAt, List.length_cons]
    rw [if_neg (by omega)]
    have := ih (fun y hy => ha y (List.mem_cons_of_mem _ hy))
    omega

/-- The number at the beginning, and how many bytes it takes. -/
def nextNum (l : List UInt8) : Option (Nat × Nat) :=
  if stopAt l < min l.length 10 then
    if vp (val7 (l.take (stopAt l + 1)) % 18446744073709551616) = l.take (stopAt l + 1) then some (val7 (l.take (stopAt l + 1)) % 18446744073709551616, stopAt l + 1) else none
  else none

theorem nextNum_vp (n : Nat) (h : n < 18446744073709551616) (r : List UInt8) : nextNum (vp n ++ r) = some (n, (vp n).length) := by
  obtain ⟨a, b, e, h1, h2, _⟩ := vp_form n
  have hl := vp_len_10 h
  have hst : stopAt (vp n ++ r) = a.length := by
    rw [e, List.append_assoc]; exact stopAt_form a b r h1 h2
  have hlen : (vp n).length = a.length + 1 := by rw [e]; simp
  have ht : (vp n ++ r).take (a.length + 1) = vp n := by rw [← hlen]; simp
  unfold nextNum
  rw [hst, ht, val7_vp, Nat.mod_eq_of_lt h]
  have hlt : a.length < min (vp n ++ r).length 10 := by rw [List.length_append]; omega
  rw [if_pos hlt, if_pos rfl, hlen]

theorem nextNum_some {l : List UInt8} {n k : Nat} (h : nextNum l = some (n, k)) : vp n = l.take k ∧ k = (vp n).length ∧ k ≤ l.length ∧ n < 18446744073709551616 ∧ 0 < k ∧ k ≤ 10 := by
  unfold nextNum at h
  split at h
  · rename_i h1
    split at h
    · rename_i h2
      simp only [Option.some.injEq, Prod.mk.injEq] at h
      obtain ⟨rfl, rfl⟩ := h
      refine ⟨h2, ?_, by omega, Nat.mod_lt _ (by decide), by omega, by omega⟩
      rw [h2, List.length_take]; omega
    · exact absurd h (by simp)
  · exact absurd h (by simp)

theorem take_form (l : List UInt8) (k : Nat) (b : UInt8) (hk : l[k]? = some b) : l.take (k + 1) = l.take k ++ [b] := by
  rw [List.take_add_one, hk]; rfl

theorem split_at (l : List UInt8) (k : Nat) (b : UInt8) (hk : l[k]? = some b) : l = l.take k ++ b :: l.drop (k + 1) := by
  obtain ⟨hlt, e⟩ := List.getElem?_eq_some_iff.1 hk
  rw [← e, List.getElem_cons_drop]
  exact (List.take_append_drop k l).symm

/-- The walk of the answer: at a byte that ends a number of the right form. -/
theorem nextNum_at (l : List UInt8) (k : Nat) (b : UInt8) (hk : l[k]? = some b) (ha : ∀ x ∈ l.take k, 128 ≤ x.toNat) (hb : b.toNat < 128) (h9 : k < 10)
    (h1 : ¬ (k = 9 ∧ 1 < b.toNat)) (h2 : ¬ (0 < k ∧ b.toNat = 0)) : nextNum l = some (val7 (l.take (k + 1)), k + 1) ∧ val7 (l.take (k + 1)) < 18446744073709551616 := by
  obtain ⟨hlt, _⟩ := List.getElem?_eq_some_iff.1 hk
  have hlen : (l.take k).length = k := by rw [List.length_take]; omega
  have hn : val7 (l.take (k + 1)) < 18446744073709551616 := by
    rw [take_form l k b hk, val7_append, hlen]
    have hv := val7_lt (l.take k)
    rw [hlen] at hv
    simp only [val7]
    have hbm : b.toNat % 128 = b.toNat := by omega
    rw [hbm]
    by_cases e : k = 9
    · subst e
      have e9 : (128 : Nat) ^ 9 = 9223372036854775808 := by decide
      rw [e9] at hv ⊢
      have : b.toNat ≤ 1 := by omega
      omega
    · have hp : (128 : Nat) ^ k ≤ 128 ^ 8 := Nat.pow_le_pow_right (by decide) (by omega)
      have e8 : (128 : Nat) ^ 8 = 72057594037927936 := by decide
      rw [e8] at hp
      have h3 : 128 ^ k * (b.toNat + 128 * 0) ≤ 72057594037927936 * 127 := Nat.mul_le_mul hp (by omega)
      omega
  have hvp : vp (val7 (l.take (k + 1))) = l.take (k + 1) := by
    rw [take_form l k b hk]
    refine vp_val7 _ _ ha hb ?_
    by_cases e : k = 0
    · left; subst e; rfl
    · right; omega
  have key := nextNum_vp _ hn (l.drop (k + 1))
  rw [hvp, List.take_append_drop] at key
  refine ⟨?_, hn⟩
  rw [key, List.length_take]
  congr 2; omega

/-- .. at a byte that breaks off. -/
theorem nextNum_not (l : List UInt8) (k : Nat) (b : UInt8) (hk : l[k]? = some b) (ha : ∀ x ∈ l.take k, 128 ≤ x.toNat)
    (h : k = 9 ∧ 1 < b.toNat ∨ 0 < k ∧ b.toNat = 0) : nextNum l = none := by
  obtain ⟨hlt, _⟩ := List.getElem?_eq_some_iff.1 hk
  have hlen : (l.take k).length = k := by rw [List.length_take]; omega
  cases hn : nextNum l with
  | none => rfl
  | some p =>
    obtain ⟨n, m⟩ := p
    exfalso
    obtain ⟨h1, h2, h3, h4, h5, h6⟩ := nextNum_some hn
    obtain ⟨a, c, e, g1, g2, g3⟩ := vp_form n
    have hst : stopAt l = a.length := by
      have : l = a ++ c :: l.drop m := by
        have := (List.take_append_drop m l).symm
        rw [← h1, e, List.append_assoc] at this
        exact this
      rw [this]; exact stopAt_form a c _ g1 g2
    have hal : m = a.length + 1 := by rw [h2, e]; simp
    have hge : k ≤ stopAt l := by
      have := stopAt_all (l.take k) ha (l.drop k)
      rw [List.take_append_drop, hlen] at this
      exact this
    by_cases hb : b.toNat < 128
    · have hk' : stopAt l = k := by
        have e' := split_at l k b hk
        rw [e', stopAt_form _ _ _ ha hb, hlen]
      have hm : m = k + 1 := by omega
      subst hm
      have hte := take_form l k b hk
      rw [← h1, e] at hte
      have hce : c = b := by
        have := congrArg List.getLast? hte
        simpa using this
      have hae : a = l.take k := by
        have := congrArg List.dropLast hte
        simpa using this
      subst hce
      rcases h with ⟨rfl, hb1⟩ | ⟨h0, hb0⟩
      · have hv : n = val7 (a ++ [c]) := by rw [← e, val7_vp]
        rw [val7_append, show a.length = 9 by omega] at hv
        simp only [val7] at hv
        have e9 : (128 : Nat) ^ 9 = 9223372036854775808 := by decide
        rw [e9] at hv
        omega
      · rcases g3 with g3 | g3
        · rw [g3] at hal; simp at hal; omega
        · exact g3 hb0
    · have : k + 1 ≤ stopAt l := by
        have := stopAt_all (l.take (k + 1)) (by
          rw [take_form l k b hk]
          intro x hx
          rcases List.mem_append.1 hx with hx | hx
          · exact ha x hx
          · simp at hx; subst hx; omega) (l.drop (k + 1))
        rw [List.take_append_drop, List.length_take] at this
        omega
      rcases h with ⟨rfl, _⟩ | ⟨_, h0⟩ <;> omega

/-- .. and where all go on. -/
theorem nextNum_end (l : List UInt8) (k : Nat) (hk : k = min l.length 10) (ha : ∀ x ∈ l.take k, 128 ≤ x.toNat) : nextNum l = none := by
  have hlen : (l.take k).length = k := by rw [List.length_take]; omega
  have hge : k ≤ stopAt l := by
    have := stopAt_all (l.take k) ha (l.drop k)
    rw [List.take_append_drop, hlen] at this
    exact this
  unfold nextNum
  rw [if_neg (by omega)]

theorem nextNum_stop (l : List UInt8) (k : Nat) (b : UInt8) (hk : l[k]? = some b) (ha : ∀ x ∈ l.take k, 128 ≤ x.toNat) (hb : b.toNat < 128) (h9 : k < 10) :
    nextNum l = if vp (val7 (l.take (k + 1)) % 18446744073709551616) = l.take (k + 1) then some (val7 (l.take (k + 1)) % 18446744073709551616, k + 1) else none := by
  obtain ⟨hlt, _⟩ := List.getElem?_eq_some_iff.1 hk
  have hlen : (l.take k).length = k := by rw [List.length_take]; omega
  have hst : stopAt l = k := by
    have e := split_at l k b hk
    rw [e, stopAt_form _ _ _ ha hb, hlen]
  unfold nextNum
  rw [hst, if_pos (by omega)]

/-- One more byte. -/
theorem val7_or (l : List UInt8) (k : Nat) (b : UInt8) (hk : l[k]? = some b) (h9 : k < 10) :
    (val7 (l.take k)) ||| ((b.toNat % 128) <<< (7 * k) % 18446744073709551616) = val7 (l.take (k + 1)) % 18446744073709551616 ∧ val7 (l.take k) < 9223372036854775808 := by
  obtain ⟨hlt, _⟩ := List.getElem?_eq_some_iff.1 hk
  have hlen : (l.take k).length = k := by rw [List.length_take]; omega
  have hv := val7_lt (l.take k)
  rw [hlen] at hv
  have e7 : (128 : Nat) ^ k = 2 ^ (7 * k) := by rw [Nat.pow_mul]
  have hp : (128 : Nat) ^ k ≤ 128 ^ 9 := Nat.pow_le_pow_right (by decide) (by omega)
  have e9 : (128 : Nat) ^ 9 = 9223372036854775808 := by decide
  refine ⟨?_, by omega⟩
  rw [take_form l k b hk, val7_append, hlen]
  simp only [val7]
  rw [e7] at hv
  have hor := Nat.two_pow_add_eq_or_of_lt hv (b.toNat % 128)
  rw [e7, Nat.shiftLeft_eq, Nat.mul_comm (b.toNat % 128)]
  have e64 : (18446744073709551616 : Nat) = 2 ^ (7 * k) * 2 ^ (64 - 7 * k) := by
    rw [← Nat.pow_add, show 7 * k + (64 - 7 * k) = 64 by omega]
  have hm : 2 ^ (7 * k) * (b.toNat % 128) % 18446744073709551616 = 2 ^ (7 * k) * (b.toNat % 128 % 2 ^ (64 - 7 * k)) := by
    rw [e64, Nat.mul_mod_mul_left]
  have hor2 := Nat.two_pow_add_eq_or_of_lt hv (b.toNat % 128 % 2 ^ (64 - 7 * k))
  have h3 : 2 ^ (7 * k) * (b.toNat % 128 % 2 ^ (64 - 7 * k)) + val7 (l.take k) < 18446744073709551616 := by
    have hm2 : b.toNat % 128 % 2 ^ (64 - 7 * k) + 1 ≤ 2 ^ (64 - 7 * k) := Nat.mod_lt _ (Nat.pow_pos (by decide))
    have := Nat.mul_le_mul_left (2 ^ (7 * k)) hm2
    rw [← e64, Nat.mul_add, Nat.mul_one] at this
    omega
  have h4 : (val7 (List.take k l) + 2 ^ (7 * k) * (b.toNat % 128 + 128 * 0)) % 18446744073709551616 = 2 ^ (7 * k) * (b.toNat % 128 % 2 ^ (64 - 7 * k)) + val7 (l.take k) := by
    rw [Nat.mul_zero, Nat.add_zero, Nat.add_mod, hm, Nat.add_comm, Nat.mod_eq_of_lt (a := val7 (l.take k)) (by omega), Nat.mod_eq_of_lt h3]
  rw [h4, hm, hor2, Nat.or_comm]

end Go.Proofs.Ytppmmkmlngmafaa
