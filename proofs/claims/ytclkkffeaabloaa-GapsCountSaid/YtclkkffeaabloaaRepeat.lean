/- slices.Repeat of one element: what it calls, and copies within a slice that the call owns; for layers 4 and 7. -/
import Derived.Test.YtclkkffeaabloaaStrs
import Derived.Laws.CopyOwn
import Derived.StillTailTactics
namespace Go.Proofs.Ytclkkffeaabloaa
open Go Go.RowKit

theorem and_low (n : Nat) (h : n < 4294967296) : bits .and .u64 (n : Int) 4294967295 = (n : Int) := by
  have e := bits_and_u64_nat n 4294967295 (by omega) (by decide)
  rw [show ((4294967295 : Nat) : Int) = 4294967295 by rfl] at e
  rw [e, show (4294967295 : Nat) = 2 ^ 32 - 1 by decide, Nat.and_two_pow_sub_one_eq_mod, Nat.mod_eq_of_lt (by omega)]
theorem mul64_one (n : Nat) (h : n ≤ 1000000) (w : World) : Reads Try.prog 29 #[.int .u64 1, .int .u64 n] w (.tuple #[.int .u64 0, .int .u64 n]) := by
  have h1 := and_low n (by omega)
  have h2 : bits .and .u64 1 4294967295 = 1 := and_low 1 (by decide)
  have h3 : bits .and .u64 0 4294967295 = 0 := and_low 0 (by decide)
  have h4 : (n : Int) / 4294967296 = 0 := by omega
  unfold Reads
  go_enter Try.func29, Try.ntmps29
  go_wp2
  go_ret2
  exact ⟨rfl, rfl⟩
theorem mul_one (n : Nat) (h : n ≤ 1000000) (w : World) : Reads Try.prog 25 #[.int .u64 1, .int .u64 n] w (.tuple #[.int .u64 0, .int .u64 n]) := by
  have H := Lib.hid (mul64_one n h w)
  unfold Reads
  go_enter Try.func25, Try.ntmps25
  go_wp2_with (go_at_call 29; refine H.out.step ?_)
  go_ret2
  exact ⟨rfl, rfl⟩

section
variable {P : Program} {w : World} {B n : Nat} {xs : List Value} {g off cap : Nat}
theorem Own.copied (h : Own w B 1 (.slice (some ⟨g, off, none⟩) n cap) n xs) (k : Nat) (cs : List Value) (hk : k + cs.length ≤ n) : Own (w.setCells g (off + k) cs) B 1 (.slice (some ⟨g, off, none⟩) n cap) n (splice xs k cs) := by
  obtain ⟨h1, h2, h3, h4, h5⟩ := h.parts
  have hx : xs.length = n := by simpa using h.1
  have hl : (splice xs k cs).length = n := by rw [length_splice _ _ _ (by omega), hx]
  refine ⟨by rw [hl, Nat.mul_one], h.2.1, .inr ⟨g, off, cap, rfl, h1, by rw [setCells_size]; exact h2, h3, fun j u hu => ?_, fun j hj => ?_⟩⟩
  · by_cases hj : k ≤ j ∧ j < k + cs.length
    · have e := World.cell?_setCells_in g cs (off + k) w (fun i hi => by rw [Nat.add_assoc]; exact (h5 _ (by omega)).1) (j - k) (by omega)
      rw [show off + j = off + k + (j - k) by omega, e]
      unfold splice at hu
      rw [List.getElem?_append_right (by rw [List.length_take]; omega), List.length_take, Nat.min_eq_left (by omega), List.getElem?_append_left (by omega), List.getElem?_eq_getElem (by omega)] at hu
      exact hu
    · rw [World.cell?_setCells_out g cs _ w ⟨g, off + j, none⟩ (fun _ _ => by simp only []; omega)]
      refine h4 j u ?_
      rw [← hu]
      unfold splice
      by_cases hj2 : j < k
      · rw [List.getElem?_append_left (by rw [List.length_take]; omega), List.getElem?_take_of_lt hj2]
      · rw [List.getElem?_append_right (by rw [List.length_take]; omega), List.length_take, Nat.min_eq_left (by omega), List.getElem?_append_right (by omega), List.getElem?_drop]
        congr 1; omega
  · rw [World.frozen?_setCells]
    refine ⟨?_, (h5 j hj).2⟩
    by_cases hj2 : k ≤ j ∧ j < k + cs.length
    · have e := World.cell?_setCells_in g cs (off + k) w (fun i hi => by rw [Nat.add_assoc]; exact (h5 _ (by omega)).1) (j - k) (by omega)
      rw [show off + j = off + k + (j - k) by omega, e]; rfl
    · rw [World.cell?_setCells_out g cs _ w ⟨g, off + j, none⟩ (fun _ _ => by simp only []; omega)]
      exact (h5 j hj).1
/-- 'copy' into a slice that the call owns, both with cells. -/
theorem run_copy_Own (dT sT ty : TypeId) (elem : TypeId) (hu : P.underlying dT = some (.slice elem)) (hsz : (P.info? elem).map (·.size) = some 1)
    (h : Own w B 1 (.slice (some ⟨g, off, none⟩) n cap) n xs) (k dLen dCap : Nat) (ad : Addr) (sLen sCap : Nat)
    (cs : List Value) (hn : cs.length = Nat.min sLen dLen) (hk : k + cs.length ≤ n) (hsrc : ∀ j v, cs[j]? = some v → w.cell? (ad.add j) = some v) (h1 : ∀ v ∈ cs, v.oneCell' = true) :
    ∃ w', (Builtin.copy_ #[dT, sT] ty #[.slice (some ⟨g, off + k, none⟩) dLen dCap, .slice (some ad) sLen sCap]).run P w = .ok (goInt cs.length) w' ∧ Own w' B 1 (.slice (some ⟨g, off, none⟩) n cap) n (splice xs k cs) ∧ w.grownBy w' (some g) := by
  obtain ⟨_, _, h3, _, h5⟩ := h.parts
  exact ⟨_, run_copy_cells (P := P) w dT sT ty elem g (off + k) dLen dCap ad sLen sCap cs hu hsz hn hsrc (fun j hj => by rw [Nat.add_assoc]; exact (h5 _ (by omega)).1) (fun j hj => by rw [Nat.add_assoc]; exact (h5 _ (by omega)).2) h1, h.copied k cs hk, setCells_grown g cs _ w⟩
end
theorem splice_more (n k : Nat) (x z : Value) (_hk : k ≤ n) : splice (List.replicate k x ++ List.replicate (n - k) z) k (List.replicate (Nat.min k (n - k)) x) = List.replicate (k + Nat.min k (n - k)) x ++ List.replicate (n - (k + Nat.min k (n - k))) z := by
  unfold splice
  have h : Nat.min k (n - k) ≤ n - k := Nat.min_le_right _ _
  generalize Nat.min k (n - k) = m at *
  rw [List.take_append_of_le_length (by simp), List.take_of_length_le (by simp), List.length_replicate, List.drop_append, List.drop_of_length_le (by simp), List.nil_append, List.length_replicate, List.drop_replicate, ← List.append_assoc, List.replicate_append_replicate]
  congr 2; omega
theorem one_rep (m : Nat) (x : Value) (h : x.oneCell' = true) : ∀ u ∈ List.replicate m x, u.oneCell' = true := by
  intro u hu; rw [List.mem_replicate] at hu; rw [hu.2]; exact h
end Go.Proofs.Ytclkkffeaabloaa
