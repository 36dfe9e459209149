/- A term with other columns comes to the same of a row whose cells stand there: plain facts; no program. -/
import Derived.Test.YtppmmkmlngmafaaTermLawKit
namespace Go.Proofs.Ytppmmkmlngmafaa
open Go Go.RowKit

theorem opC_rows {row other : List ByteArray} {op : Int} (h : ¬ op = 99) (col : Int) (cell a b : ByteArray) : opC other op col cell a b = opC row op col cell a b := by
  unfold opC
  rw [if_neg h, if_neg h]
/-- The same of the row that stands there, and as many parts. -/
theorem shift_eval {to : List Int} {row other : List ByteArray} (h : ∀ c d, toT to c = some d → atC other d = atC row c) (t : Trm) : ∀ x, shiftT to t = some x → evalT other x = evalT row t ∧ sizeT x = sizeT t := by
  refine Trm.ind (P := fun t => ∀ x, shiftT to t = some x → evalT other x = evalT row t ∧ sizeT x = sizeT t) (fun t ih => ?_) t
  obtain ⟨op, col, cell, ks⟩ := t
  have kids : ∀ (ks : List Trm), (∀ k ∈ ks, ∀ x, shiftT to k = some x → evalT other x = evalT row k ∧ sizeT x = sizeT k) → ∀ l, shiftTs to ks = some l → evalTs other l = evalTs row ks ∧ sizeTs l = sizeTs ks := by
    intro ks
    induction ks with
    | nil =>
      intro _ l hl
      rw [shiftTs] at hl
      rw [← Option.some.inj hl, evalTs, evalTs, sizeTs]
      exact ⟨rfl, rfl⟩
    | cons k ks ih2 =>
      intro hk l hl
      rw [shiftTs] at hl
      cases h1 : shiftT to k with
      | none => rw [h1] at hl; exact absurd hl (by simp)
      | some x =>
        cases h2 : shiftTs to ks with
        | none => rw [h1, h2] at hl; exact absurd hl (by simp)
        | some m =>
          rw [h1, h2] at hl
          obtain ⟨e1, e2⟩ := hk k (List.mem_cons_self ..) x h1
          obtain ⟨e3, e4⟩ := ih2 (fun k' hk' => hk k' (List.mem_cons_of_mem _ hk')) m h2
          rw [← Option.some.inj hl, evalTs, evalTs, sizeTs, sizeTs, e1, e2, e3, e4]
          exact ⟨rfl, rfl⟩
  intro x hx
  rw [shift_eq] at hx
  cases hc : colT to op col with
  | none =>
    rw [show colT to (Trm.mk op col cell ks).op (Trm.mk op col cell ks).col = none from hc] at hx
    exact absurd hx (by simp)
  | some d =>
    cases hl : shiftTs to ks with
    | none =>
      rw [show colT to (Trm.mk op col cell ks).op (Trm.mk op col cell ks).col = some d from hc, show shiftTs to (Trm.mk op col cell ks).kids = none from hl] at hx
      exact absurd hx (by simp)
    | some l =>
      rw [show colT to (Trm.mk op col cell ks).op (Trm.mk op col cell ks).col = some d from hc, show shiftTs to (Trm.mk op col cell ks).kids = some l from hl] at hx
      have ex : x = .mk op d cell l := (Option.some.inj hx).symm
      subst ex
      obtain ⟨e1, e2⟩ := kids ks (fun k hk => ih k hk) l hl
      rw [evalT, evalT, sizeT, sizeT, e1, e2]
      refine ⟨?_, rfl⟩
      by_cases h99 : op = 99
      · subst h99
        have hd : toT to col = some d := by rw [← hc]; exact (if_pos rfl).symm
        show opC other 99 d cell _ _ = opC row 99 col cell _ _
        have e3 : ∀ (r : List ByteArray) (c : Int) (u v : ByteArray), opC r 99 c cell u v = atC r c := fun r c u v => if_pos rfl
        rw [e3, e3]
        exact h col d hd
      · have : d = col := by
          unfold colT at hc
          rw [if_neg h99] at hc
          exact (Option.some.inj hc).symm
        rw [this]
        exact opC_rows h99 _ _ _ _

/-- Where the cells stand: turned round by so many, one place on. -/
def idxT (turn n k : Nat) : Nat := (k + turn) % n + 1
def toTn (turn n k : Nat) : List Int := (List.range k).map fun i => ((idxT turn n i : Nat) : Int)
def othT (turn : Nat) (row : List ByteArray) : Nat → List ByteArray
  | 0 => List.replicate (row.length + 2) noC
  | k + 1 => (othT turn row k).set (idxT turn row.length k) (row.getD k noC)
theorem othT_len (turn : Nat) (row : List ByteArray) : ∀ k, (othT turn row k).length = row.length + 2
  | 0 => List.length_replicate
  | k + 1 => by rw [othT, List.length_set, othT_len turn row k]
theorem idx_le {turn n k : Nat} (h : 0 < n) : idxT turn n k ≤ n := by
  have := Nat.mod_lt (k + turn) h
  unfold idxT
  omega
theorem idx_inj {turn n i k : Nat} (hi : i < k) (hk : k < n) : idxT turn n i ≠ idxT turn n k := fun e => by
  unfold idxT at e
  have e2 : (k + turn) % n = (i + turn) % n := by omega
  have h3 := Nat.sub_mod_eq_zero_of_mod_eq e2
  rw [show k + turn - (i + turn) = k - i by omega, Nat.mod_eq_of_lt (by omega)] at h3
  omega
theorem othT_at {turn : Nat} {row : List ByteArray} : ∀ k i, i < k → k ≤ row.length → (othT turn row k)[idxT turn row.length i]? = some (row.getD i noC)
  | 0, i, h, _ => absurd h (by omega)
  | k + 1, i, h, hk => by
    rw [othT]
    by_cases e : i = k
    · subst e
      rw [List.getElem?_set_self]
      rw [othT_len]
      have := idx_le (turn := turn) (n := row.length) (k := i) (by omega)
      omega
    · rw [List.getElem?_set_ne (Ne.symm (idx_inj (by omega) (by omega)))]
      exact othT_at k i (by omega) (by omega)
theorem toTn_len (turn n k : Nat) : (toTn turn n k).length = k := by unfold toTn; simp
theorem toTn_step (turn n k : Nat) : toTn turn n (k + 1) = toTn turn n k ++ [((idxT turn n k : Nat) : Int)] := by
  unfold toTn
  rw [List.range_succ, List.map_append]
  rfl
/-- The law's lists do so. -/
theorem oth_to {turn : Nat} {row : List ByteArray} (h0 : 0 < row.length) : ∀ c d, toT (toTn turn row.length row.length) c = some d → atC (othT turn row row.length) d = atC row c := by
  intro c d hd
  unfold toT at hd
  by_cases hc : 0 ≤ c ∧ c < ((toTn turn row.length row.length).length : Nat)
  · rw [if_pos hc] at hd
    rw [toTn_len] at hc
    obtain ⟨i, rfl⟩ : ∃ i : Nat, c = i := ⟨c.toNat, by omega⟩
    have hi : i < row.length := by omega
    have hg : (toTn turn row.length row.length).getD (i : Int).toNat 0 = ((idxT turn row.length i : Nat) : Int) := by
      rw [Int.toNat_natCast, List.getD_eq_getElem?_getD]
      unfold toTn
      rw [List.getElem?_map, List.getElem?_range hi]
      rfl
    rw [hg, if_pos (by omega)] at hd
    have hd2 : d = ((idxT turn row.length i : Nat) : Int) := (Option.some.inj hd).symm
    subst hd2
    have hle := idx_le (turn := turn) (n := row.length) (k := i) h0
    unfold atC
    rw [if_pos ⟨by omega, by rw [othT_len]; omega⟩, if_pos ⟨by omega, by omega⟩, Int.toNat_natCast, Int.toNat_natCast, List.getD_eq_getElem?_getD, othT_at _ i hi (Nat.le_refl _)]
    rfl
  · rw [if_neg hc] at hd
    exact absurd hd (by simp)
theorem toTn_bounds {turn n k : Nat} (hn : 0 < n) (h : n ≤ 1000) : ∀ x ∈ toTn turn n k, -9223372036854775808 ≤ x ∧ x ≤ 9223372036854775807 := fun x hx => by
  obtain ⟨i, _, rfl⟩ := List.mem_map.1 hx
  have := idx_le (turn := turn) (n := n) (k := i) hn
  omega
theorem smallS_yes {l : List ByteArray} (h : smallS l = true) : l.length ≤ 20 := by
  unfold smallS at h
  rw [Bool.and_eq_true] at h
  exact of_decide_eq_true h.2
end Go.Proofs.Ytppmmkmlngmafaa
