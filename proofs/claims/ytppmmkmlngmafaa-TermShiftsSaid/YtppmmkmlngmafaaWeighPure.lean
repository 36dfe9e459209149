/- Plain facts on rows and how often each is there: together, in order, the other way round; no program. -/
import Derived.Test.YtppmmkmlngmafaaShapePure
import Derived.Test.YtppmmkmlngmafaaTimes
namespace Go.Proofs.Ytppmmkmlngmafaa
open Go Go.RowKit

/-- How often a row is there, all together. -/
def cntW : List Tm → List ByteArray → Int
  | [], _ => 0
  | t :: l, r => (if t.1 = r then t.2 else 0) + cntW l r
/-- A row more in rows that stand in order. -/
def putW : List Tm → Tm → List Tm
  | [], x => if x.2 = 0 then [] else [x]
  | t :: l, x =>
    if cmpL t.1 x.1 = -1 then t :: putW l x
    else if t.1 = x.1 then (if x.2 + t.2 = 0 then l else (x.1, x.2 + t.2) :: l)
    else (if x.2 = 0 then t :: l else x :: t :: l)
def ofW (l : List Tm) : List Tm := l.foldl putW []
def sumW (a b : List Tm) : List Tm := b.foldl putW (ofW a)
def minusW (l : List Tm) : List Tm := l.map fun t => (t.1, -t.2)
def dblW (l : List Tm) : List Tm := l.map fun t => (t.1, 2 * t.2)
/-- In order, each once, none that isn't there. -/
def RightP (l : List Tm) : Prop := l.Pairwise (fun a b => cmpL a.1 b.1 = -1) ∧ ∀ t ∈ l, t.2 ≠ 0
/-- All numbers' sizes together: what no sum of them is beyond. -/
def wtW : List Tm → Nat
  | [] => 0
  | t :: l => t.2.natAbs + wtW l

theorem cmpL_ne {a b : List ByteArray} (h : cmpL a b = -1) : a ≠ b := by
  rintro rfl; rw [cmpL_self] at h; exact absurd h (by decide)
theorem cmpL_back {a b : List ByteArray} (h : ¬ cmpL a b = -1) (hn : a ≠ b) : cmpL b a = -1 := by
  have h1 := cmpL_range a b
  have h2 := cmpL_zero a b
  have h3 := cmpL_swap a b
  have : cmpL a b ≠ 0 := fun e => hn (h2.1 e)
  omega
theorem cntW_append (a b : List Tm) (r : List ByteArray) : cntW (a ++ b) r = cntW a r + cntW b r := by
  induction a with
  | nil => simp [cntW]
  | cons t a ih => rw [List.cons_append]; simp only [cntW]; rw [ih]; omega
theorem cntW_none {l : List Tm} {r : List ByteArray} (h : ∀ t ∈ l, t.1 ≠ r) : cntW l r = 0 := by
  induction l with
  | nil => rfl
  | cons t l ih =>
    simp only [cntW]
    rw [if_neg (h t (List.mem_cons_self ..)), ih fun u hu => h u (List.mem_cons_of_mem _ hu)]; rfl
theorem cntW_put (l : List Tm) (x : Tm) (r : List ByteArray) : cntW (putW l x) r = cntW l r + if x.1 = r then x.2 else 0 := by
  induction l with
  | nil =>
    unfold putW
    split
    · rename_i h
      simp only [cntW]
      split <;> omega
    · simp only [cntW]; omega
  | cons t l ih =>
    unfold putW
    split
    · simp only [cntW]; rw [ih]; omega
    · split
      · rename_i h
        split
        · simp only [cntW]
          rw [h]
          split <;> omega
        · simp only [cntW]
          rw [h]
          split <;> omega
      · split
        · simp only [cntW]
          split <;> split <;> omega
        · simp only [cntW]; omega
theorem mem_put {l : List Tm} {x t : Tm} (h : t ∈ putW l x) : t ∈ l ∨ t.1 = x.1 := by
  induction l with
  | nil =>
    unfold putW at h
    split at h
    · exact absurd h (by simp)
    · rw [List.mem_singleton.1 h]; exact .inr rfl
  | cons u l ih =>
    unfold putW at h
    split at h
    · rcases List.mem_cons.1 h with rfl | h
      · exact .inl (List.mem_cons_self ..)
      · exact (ih h).imp (List.mem_cons_of_mem _) id
    · split at h
      · split at h
        · exact .inl (List.mem_cons_of_mem _ h)
        · rcases List.mem_cons.1 h with rfl | h
          · exact .inr rfl
          · exact .inl (List.mem_cons_of_mem _ h)
      · split at h
        · exact .inl h
        · rcases List.mem_cons.1 h with rfl | h
          · exact .inr rfl
          · exact .inl h
theorem RightP.nil : RightP [] := ⟨List.Pairwise.nil, fun t ht => absurd ht (by simp)⟩
theorem RightP.cons_iff {t : Tm} {l : List Tm} : RightP (t :: l) ↔ t.2 ≠ 0 ∧ (∀ u ∈ l, cmpL t.1 u.1 = -1) ∧ RightP l := by
  unfold RightP
  rw [List.pairwise_cons]
  constructor
  · rintro ⟨⟨h1, h2⟩, h3⟩
    exact ⟨h3 t (List.mem_cons_self ..), h1, h2, fun u hu => h3 u (List.mem_cons_of_mem _ hu)⟩
  · rintro ⟨h1, h2, h3, h4⟩
    refine ⟨⟨h2, h3⟩, fun u hu => ?_⟩
    rcases List.mem_cons.1 hu with rfl | hu
    · exact h1
    · exact h4 u hu
theorem RightP.put {l : List Tm} (h : RightP l) (x : Tm) : RightP (putW l x) := by
  induction l with
  | nil =>
    unfold putW
    split
    · exact .nil
    · rename_i hx; exact RightP.cons_iff.2 ⟨hx, fun u hu => absurd hu (by simp), .nil⟩
  | cons t l ih =>
    obtain ⟨h1, h2, h3⟩ := RightP.cons_iff.1 h
    unfold putW
    split
    · rename_i hc
      refine RightP.cons_iff.2 ⟨h1, fun u hu => ?_, ih h3⟩
      rcases mem_put hu with hu | hu
      · exact h2 u hu
      · rw [hu]; exact hc
    · rename_i hc
      split
      · rename_i he
        split
        · exact h3
        · rename_i hz
          exact RightP.cons_iff.2 ⟨hz, fun u hu => he ▸ h2 u hu, h3⟩
      · rename_i hne
        split
        · exact h
        · rename_i hx
          have hb := cmpL_back hc hne
          refine RightP.cons_iff.2 ⟨hx, fun u hu => ?_, h⟩
          rcases List.mem_cons.1 hu with rfl | hu
          · exact hb
          · exact cmpL_chain _ _ _ hb (h2 u hu)
theorem RightP.foldl {l m : List Tm} (h : RightP l) : RightP (m.foldl putW l) := by
  induction m generalizing l with
  | nil => exact h
  | cons x m ih => exact ih (h.put x)
theorem cntW_foldl (l m : List Tm) (r : List ByteArray) : cntW (m.foldl putW l) r = cntW l r + cntW m r := by
  induction m generalizing l with
  | nil => simp [cntW]
  | cons x m ih => rw [List.foldl_cons, ih, cntW_put]; simp only [cntW]; omega
theorem of_right (l : List Tm) : RightP (ofW l) := RightP.nil.foldl
theorem sum_right (a b : List Tm) : RightP (sumW a b) := (of_right a).foldl
theorem cnt_of (l : List Tm) (r : List ByteArray) : cntW (ofW l) r = cntW l r := by unfold ofW; rw [cntW_foldl]; simp [cntW]
theorem cnt_sum (a b : List Tm) (r : List ByteArray) : cntW (sumW a b) r = cntW a r + cntW b r := by unfold sumW; rw [cntW_foldl, cnt_of]
theorem cnt_minus (l : List Tm) (r : List ByteArray) : cntW (minusW l) r = - cntW l r := by
  induction l with
  | nil => rfl
  | cons t l ih =>
    show (if t.1 = r then -t.2 else 0) + cntW (minusW l) r = - ((if t.1 = r then t.2 else 0) + cntW l r)
    rw [ih]; split <;> omega
theorem cnt_dbl (l : List Tm) (r : List ByteArray) : cntW (dblW l) r = 2 * cntW l r := by
  induction l with
  | nil => rfl
  | cons t l ih =>
    show (if t.1 = r then 2 * t.2 else 0) + cntW (dblW l) r = 2 * ((if t.1 = r then t.2 else 0) + cntW l r)
    rw [ih]; split <;> omega
/-- A row of rows in order is there as often as it says. -/
theorem cnt_mem {l : List Tm} (h : RightP l) {t : Tm} (ht : t ∈ l) : cntW l t.1 = t.2 := by
  induction l with
  | nil => exact absurd ht (by simp)
  | cons u l ih =>
    obtain ⟨_, h2, h3⟩ := RightP.cons_iff.1 h
    simp only [cntW]
    rcases List.mem_cons.1 ht with rfl | ht
    · rw [if_pos rfl, cntW_none fun v hv => (cmpL_ne (h2 v hv)).symm]; omega
    · rw [if_neg (cmpL_ne (h2 t ht)), ih h3 ht]; omega
theorem cnt_not_mem {l : List Tm} {r : List ByteArray} (hc : cntW l r ≠ 0) : ∃ t ∈ l, t.1 = r := by
  refine Classical.byContradiction fun hn => hc (cntW_none fun t ht e => hn ⟨t, ht, e⟩)
/-- Rows in order are told by how often each is there. -/
theorem right_ext : ∀ {a b : List Tm}, RightP a → RightP b → (∀ r, cntW a r = cntW b r) → a = b
  | [], [], _, _, _ => rfl
  | [], u :: b, _, h, k => by
    have h1 := cnt_mem h (List.mem_cons_self ..)
    rw [← k] at h1
    exact absurd h1.symm (RightP.cons_iff.1 h).1
  | t :: a, [], h, _, k => by
    have h1 := cnt_mem h (List.mem_cons_self ..)
    rw [k] at h1
    exact absurd h1.symm (RightP.cons_iff.1 h).1
  | t :: a, u :: b, h, g, k => by
    obtain ⟨h1, h2, h3⟩ := RightP.cons_iff.1 h
    obtain ⟨g1, g2, g3⟩ := RightP.cons_iff.1 g
    have ht := cnt_mem h (List.mem_cons_self ..)
    have hu := cnt_mem g (List.mem_cons_self ..)
    have e1 : t.1 = u.1 := by
      obtain ⟨v, hv, e⟩ := cnt_not_mem (l := u :: b) (r := t.1) (by rw [← k, ht]; exact h1)
      obtain ⟨z, hz, e'⟩ := cnt_not_mem (l := t :: a) (r := u.1) (by rw [k, hu]; exact g1)
      rcases List.mem_cons.1 hv with rfl | hv
      · exact e.symm
      · rcases List.mem_cons.1 hz with rfl | hz
        · exact e'
        · have p := g2 v hv
          have q := h2 z hz
          rw [e] at p
          rw [e'] at q
          rw [cmpL_swap, q] at p
          exact absurd p (by decide)
    have e2 : t.2 = u.2 := by rw [← ht, ← hu, k, e1]
    have et : t = u := Prod.ext e1 e2
    subst et
    have hab : a = b := right_ext h3 g3 fun r => by
      have := k r
      simp only [cntW] at this
      omega
    rw [hab]
theorem of_of_right {l : List Tm} (h : RightP l) : ofW l = l := right_ext (of_right l) h (cnt_of l)
theorem of_of (l : List Tm) : ofW (ofW l) = ofW l := of_of_right (of_right l)
theorem sum_comm (a b : List Tm) : sumW a b = sumW b a := right_ext (sum_right _ _) (sum_right _ _) fun r => by rw [cnt_sum, cnt_sum]; omega
theorem sum_assoc (a b c : List Tm) : sumW (sumW a b) c = sumW a (sumW b c) := right_ext (sum_right _ _) (sum_right _ _) fun r => by rw [cnt_sum, cnt_sum, cnt_sum, cnt_sum]; omega
theorem sum_nil (a : List Tm) : sumW a [] = ofW a := rfl
theorem sum_minus (a : List Tm) : sumW a (minusW a) = [] := right_ext (sum_right _ _) .nil fun r => by rw [cnt_sum, cnt_minus]; simp only [cntW]; omega
theorem dbl_right {l : List Tm} (h : RightP l) : RightP (dblW l) := by
  induction l with
  | nil => exact .nil
  | cons t l ih =>
    obtain ⟨h1, h2, h3⟩ := RightP.cons_iff.1 h
    refine RightP.cons_iff.2 ⟨by show 2 * t.2 ≠ 0; omega, fun u hu => ?_, ih h3⟩
    obtain ⟨v, hv, rfl⟩ := List.mem_map.1 hu
    exact h2 v hv
theorem minus_right {l : List Tm} (h : RightP l) : RightP (minusW l) := by
  induction l with
  | nil => exact .nil
  | cons t l ih =>
    obtain ⟨h1, h2, h3⟩ := RightP.cons_iff.1 h
    refine RightP.cons_iff.2 ⟨by show -t.2 ≠ 0; omega, fun u hu => ?_, ih h3⟩
    obtain ⟨v, hv, rfl⟩ := List.mem_map.1 hu
    exact h2 v hv
theorem sum_self (l : List Tm) : sumW l l = dblW (ofW l) := right_ext (sum_right _ _) (dbl_right (of_right l)) fun r => by rw [cnt_sum, cnt_dbl, cnt_of]; omega
theorem put_of (l : List Tm) (x : Tm) : putW (ofW l) x = ofW (l ++ [x]) := by unfold ofW; rw [List.foldl_append]; rfl
theorem sum_of_append (a b : List Tm) : sumW a b = ofW (a ++ b) := by unfold sumW ofW; rw [List.foldl_append]
theorem mem_of {l : List Tm} {t : Tm} (h : t ∈ ofW l) : ∃ u ∈ l, u.1 = t.1 := by
  have h1 := cnt_mem (of_right l) h
  rw [cnt_of] at h1
  exact cnt_not_mem (by rw [h1]; exact (of_right l).2 t h)
theorem put_gone (l : List Tm) (r : List ByteArray) : cntW (putW l (r, - cntW l r)) r = 0 := by rw [cntW_put, if_pos rfl]; omega

/-! Sizes: no sum is beyond all numbers. -/
theorem wtW_append (a b : List Tm) : wtW (a ++ b) = wtW a + wtW b := by
  induction a with
  | nil => simp [wtW]
  | cons t a ih => rw [List.cons_append]; simp only [wtW]; rw [ih]; omega
theorem wtW_put (l : List Tm) (x : Tm) : wtW (putW l x) ≤ wtW l + x.2.natAbs := by
  induction l with
  | nil =>
    unfold putW
    split
    · simp only [wtW]; omega
    · simp only [wtW]; omega
  | cons t l ih =>
    unfold putW
    split
    · simp only [wtW]; omega
    · split
      · split
        · simp only [wtW]; omega
        · simp only [wtW]; omega
      · split
        · simp only [wtW]; omega
        · simp only [wtW]; omega
theorem wtW_foldl (l m : List Tm) : wtW (m.foldl putW l) ≤ wtW l + wtW m := by
  induction m generalizing l with
  | nil => simp [wtW]
  | cons x m ih => rw [List.foldl_cons]; have := ih (putW l x); have := wtW_put l x; simp only [wtW]; omega
theorem wt_of (l : List Tm) : wtW (ofW l) ≤ wtW l := by have := wtW_foldl [] l; simp only [wtW] at this; unfold ofW; omega
theorem wt_sum (a b : List Tm) : wtW (sumW a b) ≤ wtW a + wtW b := by have := wtW_foldl (ofW a) b; have := wt_of a; unfold sumW; omega
theorem wt_minus (l : List Tm) : wtW (minusW l) = wtW l := by
  induction l with
  | nil => rfl
  | cons t l ih => show (-t.2).natAbs + wtW (minusW l) = t.2.natAbs + wtW l; rw [ih]; omega
theorem cntW_le (l : List Tm) (r : List ByteArray) : (cntW l r).natAbs ≤ wtW l := by
  induction l with
  | nil => simp [cntW, wtW]
  | cons t l ih => simp only [cntW, wtW]; split <;> omega
theorem wt_mem {l : List Tm} {t : Tm} (h : t ∈ l) : t.2.natAbs ≤ wtW l := by
  induction l with
  | nil => exact absurd h (by simp)
  | cons u l ih =>
    simp only [wtW]
    rcases List.mem_cons.1 h with rfl | h
    · omega
    · have := ih h; omega
theorem wt_each {l : List Tm} {n : Nat} (h : ∀ t ∈ l, t.2.natAbs ≤ n) : wtW l ≤ l.length * n := by
  induction l with
  | nil => simp [wtW]
  | cons t l ih =>
    have h1 := h t (List.mem_cons_self ..)
    have h2 := ih fun u hu => h u (List.mem_cons_of_mem _ hu)
    simp only [wtW, List.length_cons, Nat.add_mul]
    omega
theorem put_length (l : List Tm) (x : Tm) : (putW l x).length ≤ l.length + 1 := by
  induction l with
  | nil => unfold putW; split <;> simp
  | cons t l ih =>
    unfold putW
    split
    · rw [List.length_cons, List.length_cons]; omega
    · split
      · split
        · simp only [List.length_cons]; omega
        · simp only [List.length_cons]; omega
      · split
        · simp only [List.length_cons]; omega
        · simp only [List.length_cons]; omega
theorem foldl_length (l m : List Tm) : (m.foldl putW l).length ≤ l.length + m.length := by
  induction m generalizing l with
  | nil => simp
  | cons x m ih => rw [List.foldl_cons]; have := ih (putW l x); have := put_length l x; simp only [List.length_cons]; omega
theorem of_length (l : List Tm) : (ofW l).length ≤ l.length := by have := foldl_length [] l; simp only [List.length_nil] at this; unfold ofW; omega
theorem sum_length (a b : List Tm) : (sumW a b).length ≤ a.length + b.length := by have := foldl_length (ofW a) b; have := of_length a; unfold sumW; omega
theorem minus_length (l : List Tm) : (minusW l).length = l.length := List.length_map _
theorem of_take (l : List Tm) (k : Nat) (h : k < l.length) : ofW (l.take (k + 1)) = putW (ofW (l.take k)) l[k] := by
  rw [take_add l k h, ← put_of]
theorem sum_take (a l : List Tm) (k : Nat) (h : k < l.length) : sumW a (l.take (k + 1)) = putW (sumW a (l.take k)) l[k] := by
  rw [take_add l k h]; unfold sumW; rw [List.foldl_append]; rfl
theorem cntW_take (l : List Tm) (r : List ByteArray) (k : Nat) (h : k < l.length) : cntW (l.take (k + 1)) r = cntW (l.take k) r + if l[k].1 = r then l[k].2 else 0 := by
  rw [take_add l k h, cntW_append]; simp only [cntW]; omega
end Go.Proofs.Ytppmmkmlngmafaa
