/- Cells' order: no program. -/
import Derived.Test.YtoeohknnidpcnaaCellPure
namespace Go.Proofs.Ytoeohknnidpcnaa
open Go

def lessI : List Int → List Int → Bool
  | _, [] => false
  | [], _ :: _ => true
  | a :: x, b :: y => decide (a < b) || (decide (a = b) && lessI x y)

def okB (l : List Int) : Prop := ∀ x ∈ l, 0 ≤ x ∧ x < 256

theorem u8_lt (a b : Int) (h0 : 0 ≤ a ∧ a < 256) (h1 : 0 ≤ b ∧ b < 256) : (decide (UInt8.ofNat a.toNat < UInt8.ofNat b.toNat)) = decide (a < b) := by
  refine decide_eq_decide.2 ?_
  rw [UInt8.lt_iff_toNat_lt, UInt8.toNat_ofNat_of_lt' (by rw [show UInt8.size = 256 from rfl]; omega), UInt8.toNat_ofNat_of_lt' (by rw [show UInt8.size = 256 from rfl]; omega)]
  omega
theorem u8_eq (a b : Int) (h0 : 0 ≤ a ∧ a < 256) (h1 : 0 ≤ b ∧ b < 256) : (UInt8.ofNat a.toNat == UInt8.ofNat b.toNat) = decide (a = b) := by
  rw [Bool.eq_iff_iff, beq_iff_eq, ← UInt8.toNat_inj, UInt8.toNat_ofNat_of_lt' (by rw [show UInt8.size = 256 from rfl]; omega), UInt8.toNat_ofNat_of_lt' (by rw [show UInt8.size = 256 from rfl]; omega)]
  simp only [decide_eq_true_eq]
  omega

theorem less_nums : ∀ (xs ys : List Int), okB xs → okB ys → Op.bytesLess (strOfNums xs).toList (strOfNums ys).toList = lessI xs ys := by
  intro xs ys
  rw [ByteArray.toList_eq, ByteArray.toList_eq]
  show okB xs → okB ys → Op.bytesLess (xs.map fun n => UInt8.ofNat n.toNat) (ys.map fun n => UInt8.ofNat n.toNat) = lessI xs ys
  induction xs generalizing ys with
  | nil => intro _ _; cases ys <;> rfl
  | cons x xs ih =>
    intro hx hy
    cases ys with
    | nil => rfl
    | cons y ys =>
      have a := hx x (by simp)
      have b := hy y (by simp)
      show (decide (UInt8.ofNat x.toNat < UInt8.ofNat y.toNat) || (UInt8.ofNat x.toNat == UInt8.ofNat y.toNat && _)) = (decide (x < y) || (decide (x = y) && lessI xs ys))
      rw [u8_lt x y a b, u8_eq x y a b, ih ys (fun z hz => hx z (by simp [hz])) (fun z hz => hy z (by simp [hz]))]

theorem ok_bytesOf (u : Int) : okB (105 :: bytesOf u) := by
  intro x hx
  simp only [bytesOf, List.mem_cons, List.not_mem_nil, or_false] at hx
  rcases hx with rfl | rfl | rfl | rfl | rfl | rfl | rfl | rfl | rfl <;> omega

theorem lessI_same (a : Int) (x y : List Int) : lessI (a :: x) (a :: y) = lessI x y := by simp [lessI]

theorem emod_more (u p : Int) (hp : 0 < p) : u % (p * 256) = u % p + p * (u / p % 256) := by
  have a := Int.emod_nonneg u (show p ≠ 0 by omega)
  have a' := Int.emod_lt_of_pos u hp
  have d := Int.mul_ediv_add_emod u p
  have d2 := Int.mul_ediv_add_emod (u / p) 256
  have r0 := Int.emod_nonneg (u / p) (show (256 : Int) ≠ 0 by omega)
  have r1 := Int.emod_lt_of_pos (u / p) (show (0 : Int) < 256 by omega)
  have k := (Int.ediv_emod_unique (a := u) (b := p * 256) (r := u % p + p * (u / p % 256)) (q := u / p / 256) (by omega)).2
  refine (k ⟨?_, ?_, ?_⟩).2
  · have e : p * 256 * (u / p / 256) = p * (256 * (u / p / 256)) := by rw [Int.mul_assoc]
    have e2 : p * (u / p) = p * (256 * (u / p / 256)) + p * (u / p % 256) := by rw [← Int.mul_add, d2]
    omega
  · have := Int.mul_nonneg (show 0 ≤ p by omega) r0
    omega
  · have : p * (u / p % 256 + 1) ≤ p * 256 := Int.mul_le_mul_of_nonneg_left (by omega) (by omega)
    rw [Int.mul_add] at this
    omega

/-- One byte more, ahead. -/
theorem step_less (p u v : Int) (hp : 0 < p) (x y : List Int) (h : lessI x y = decide (u % p < v % p)) :
    lessI (u / p % 256 :: x) (v / p % 256 :: y) = decide (u % (p * 256) < v % (p * 256)) := by
  have a := Int.emod_nonneg u (show p ≠ 0 by omega)
  have b := Int.emod_nonneg v (show p ≠ 0 by omega)
  have a' := Int.emod_lt_of_pos u hp
  have b' := Int.emod_lt_of_pos v hp
  have e1 : u % (p * 256) = u % p + p * (u / p % 256) := emod_more _ _ hp
  have e2 : v % (p * 256) = v % p + p * (v / p % 256) := emod_more _ _ hp
  rw [e1, e2]
  generalize u / p % 256 = c
  generalize v / p % 256 = d
  unfold lessI
  rw [h]
  generalize u % p = r at *
  generalize v % p = s at *
  rcases Int.lt_trichotomy c d with hc | hc | hc
  · have : p * (c + 1) ≤ p * d := Int.mul_le_mul_of_nonneg_left (by omega) (by omega)
    rw [Int.mul_add] at this
    simp only [hc, decide_true, Bool.true_or]
    exact (decide_eq_true (by omega)).symm
  · subst hc
    simp
  · have : p * (d + 1) ≤ p * c := Int.mul_le_mul_of_nonneg_left (by omega) (by omega)
    rw [Int.mul_add] at this
    have h1 : ¬ c < d := by omega
    have h2 : ¬ c = d := by omega
    simp only [h1, h2, decide_false, Bool.false_and, Bool.or_false]
    exact (decide_eq_false (by omega)).symm

theorem lessI_bytes (u v : Int) (h0 : 0 ≤ u) (h1 : u < 18446744073709551616) (g0 : 0 ≤ v) (g1 : v < 18446744073709551616) :
    lessI (105 :: bytesOf u) (105 :: bytesOf v) = decide (u < v) := by
  rw [lessI_same]
  have s0 : lessI [] [] = decide (u % 1 < v % 1) := by
    simp [lessI]
  have s1 := step_less 1 u v (by omega) _ _ s0
  have s2 := step_less (1 * 256) u v (by omega) _ _ s1
  have s3 := step_less (1 * 256 * 256) u v (by omega) _ _ s2
  have s4 := step_less (1 * 256 * 256 * 256) u v (by omega) _ _ s3
  have s5 := step_less (1 * 256 * 256 * 256 * 256) u v (by omega) _ _ s4
  have s6 := step_less (1 * 256 * 256 * 256 * 256 * 256) u v (by omega) _ _ s5
  have s7 := step_less (1 * 256 * 256 * 256 * 256 * 256 * 256) u v (by omega) _ _ s6
  have s8 := step_less (1 * 256 * 256 * 256 * 256 * 256 * 256 * 256) u v (by omega) _ _ s7
  have e1 : u / 1 % 256 = u % 256 := by omega
  have e2 : v / 1 % 256 = v % 256 := by omega
  rw [e1, e2] at s8
  refine Eq.trans (b := decide (u % (1 * 256 * 256 * 256 * 256 * 256 * 256 * 256 * 256) < v % (1 * 256 * 256 * 256 * 256 * 256 * 256 * 256 * 256))) s8 ?_
  exact decide_eq_decide.2 (by omega)

theorem less_cellInt (a b : Int) (h0 : -9223372036854775808 ≤ a) (h1 : a ≤ 9223372036854775807) (g0 : -9223372036854775808 ≤ b) (g1 : b ≤ 9223372036854775807) :
    Op.bytesLess (cellInt a).toList (cellInt b).toList = decide (a < b) := by
  unfold cellInt
  rw [less_nums _ _ (ok_bytesOf _) (ok_bytesOf _), lessI_bytes _ _ (by unfold offs; omega) (by unfold offs; omega) (by unfold offs; omega) (by unfold offs; omega)]
  exact decide_eq_decide.2 (by omega)

theorem bytesLess_irrefl : ∀ l : List UInt8, Op.bytesLess l l = false
  | [] => rfl
  | x :: l => by simp [Op.bytesLess, bytesLess_irrefl l]

theorem eq_cellInt (a b : Int) (h0 : -9223372036854775808 ≤ a) (h1 : a ≤ 9223372036854775807) (g0 : -9223372036854775808 ≤ b) (g1 : b ≤ 9223372036854775807) :
    ((cellInt a).toList == (cellInt b).toList) = (a == b) := by
  rw [Bool.eq_iff_iff]
  simp only [beq_iff_eq]
  constructor
  · intro e
    have p := less_cellInt a b h0 h1 g0 g1
    have q := less_cellInt b a g0 g1 h0 h1
    rw [e, bytesLess_irrefl] at p q
    have p' := of_decide_eq_false p.symm
    have q' := of_decide_eq_false q.symm
    omega
  · intro e; rw [e]
end Go.Proofs.Ytoeohknnidpcnaa
