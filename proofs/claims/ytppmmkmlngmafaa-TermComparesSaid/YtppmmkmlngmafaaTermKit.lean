/- What the laws on terms stand on: constants, parts, what they come to; no program. -/
import Derived.Test.YtppmmkmlngmafaaTermEnd
import Derived.Test.YtppmmkmlngmafaaTermsOwn
namespace Go.Proofs.Ytppmmkmlngmafaa
open Go Go.RowKit

/-- What a region's values are: a term, its cells spelt out; a slice of terms. -/
def TrmP (t : Trm) (o c : Int) (b : ByteArray) (n : Nat) : Value → World → Prop := fun v w => ∃ A p, v = .agg #[.int .u8 o, .int .i64 c, .string b, .slice A n p] ∧ TermIn w v t
theorem TrmP.kept {t : Trm} {o c : Int} {b : ByteArray} {n : Nat} : ∀ (v : Value) (w w' : World), Below w.heap.size w w' → TrmP t o c b n v w → TrmP t o c b n v w' := fun v w w' hb h => by
  obtain ⟨A, p, e, h1⟩ := h
  exact ⟨A, p, e, h1.kept hb⟩
def KidP (l : List Trm) (n : Nat) : Value → World → Prop := fun v w => ∃ A p, v = .slice A n p ∧ KidsIn w v l
theorem KidP.kept {l : List Trm} {n : Nat} : ∀ (v : Value) (w w' : World), Below w.heap.size w w' → KidP l n v w → KidP l n v w' := fun v w w' hb h => by
  obtain ⟨A, p, e, h1⟩ := h
  exact ⟨A, p, e, h1.kept hb⟩
/-- A term of one part that the law itself puts together. -/
theorem one_built {w : World} (T : TypeId) (op : Int) (h1 : 0 ≤ op) (h2 : op ≤ 255) {a : Trm} {o c : Int} {b : ByteArray} {kv : Value} (ha : TermIn w (.agg #[.int .u8 o, .int .i64 c, .string b, kv]) a) :
    TermIn (w.alloc (.cells #[.int .u8 o, .int .i64 c, .string b, kv] T)) (.agg #[.int .u8 op, .int .i64 0, .string ⟨#[]⟩, .slice (some ⟨w.heap.size, 0, none⟩) 1 1]) (oneT15 op a) := by
  obtain ⟨kv', e, ho, hk⟩ := ha
  simp only [trmA, Value.agg.injEq, Array.mk.injEq, List.cons.injEq, Value.int.injEq, Value.string.injEq, true_and, and_true] at e
  obtain ⟨rfl, rfl, rfl, rfl⟩ := e
  have hb := Below.alloc (.refl w.heap.size w) (Nat.le_refl _) (.cells #[.int .u8 a.op, .int .i64 a.col, .string a.cell, kv] T)
  refine ⟨_, rfl, ⟨h1, h2, by show (-9223372036854775808 : Int) ≤ 0; decide, by show (0 : Int) ≤ 9223372036854775807; decide⟩, ?_⟩
  exact kids_lit T [(kv, a)] (fun t ht => by rw [List.mem_singleton.1 ht]; exact ⟨ho, hk⟩) (by show 1 ≤ 1000; decide) rfl rfl rfl _ rfl
def zeroT : Trm := .mk 0 0 noC []
theorem zeroT_in (w : World) : TermIn w (.agg #[.int .u8 0, .int .i64 0, .string ⟨#[]⟩, .slice none 0 0]) zeroT :=
  ⟨_, rfl, ⟨by show (0 : Int) ≤ 0; decide, by show (0 : Int) ≤ 255; decide, by show (-9223372036854775808 : Int) ≤ 0; decide, by show (0 : Int) ≤ 9223372036854775807; decide⟩, KidsIn.nil_ _ _ _⟩
theorem eval_one (row : List ByteArray) (op : Int) (a : Trm) : evalT row (oneT15 op a) = opC row op 0 noC (evalT row a) noC := by
  rw [oneT15, evalT, evalTs, evalTs]
  rfl
theorem eval_two (row : List ByteArray) (op : Int) (a b : Trm) : evalT row (twoT15 op a b) = opC row op 0 noC (evalT row a) (evalT row b) := by
  rw [twoT15, evalT, evalTs, evalTs, evalTs]
  rfl
theorem eval_not (row : List ByteArray) (a : Trm) : evalT row (oneT15 33 a) = notC (evalT row a) := by rw [eval_one]; simp [opC]
theorem eval_and (row : List ByteArray) (a b : Trm) : evalT row (twoT15 38 a b) = bothC (evalT row a) (evalT row b) := by rw [eval_two]; simp [opC]
theorem eval_or (row : List ByteArray) (a b : Trm) : evalT row (twoT15 124 a b) = notC (bothC (notC (evalT row a)) (notC (evalT row b))) := by rw [eval_two]; simp [opC]
theorem empty_no (a : ByteArray) : decide (a = noC) = a.toList.isEmpty := by
  rcases no_cases a with ⟨h, h1, _⟩ | ⟨h, h1, _⟩
  · rw [h1]; exact decide_eq_true h
  · rw [h1]; exact decide_eq_false h
theorem eval_is (row : List ByteArray) (a : Trm) : evalT row (oneT15 63 a) = boolCell (evalT row a).toList.isEmpty := by rw [eval_one, ← empty_no]; simp [opC]
theorem yes_nay : yesC ≠ nayC := by decide +kernel
theorem yes_no : yesC ≠ noC := by decide +kernel
theorem nay_no : nayC ≠ noC := by decide +kernel
theorem not_yes : notC yesC = nayC := by decide +kernel
theorem not_nay : notC nayC = yesC := by decide +kernel
theorem not_not {y : ByteArray} (h : y = noC ∨ y = yesC ∨ y = nayC) : notC (notC y) = y := by
  rcases h with rfl | rfl | rfl
  · rw [notC_no, notC_no]
  · rw [not_yes, not_nay]
  · rw [not_nay, not_yes]
theorem both_swap (a b : ByteArray) : bothC a b = bothC b a := by
  unfold bothC
  by_cases h : a = nayC ∨ b = nayC
  · rw [if_pos h, if_pos (show b = nayC ∨ a = nayC from h.symm)]
  · rw [if_neg h, if_neg (show ¬ (b = nayC ∨ a = nayC) from fun k => h k.symm)]
    by_cases h2 : a = yesC ∧ b = yesC
    · rw [if_pos h2, if_pos (show b = yesC ∧ a = yesC from h2.symm)]
    · rw [if_neg h2, if_neg (show ¬ (b = yesC ∧ a = yesC) from fun k => h2 k.symm)]
theorem both_is_yes {a b : ByteArray} (h : bothC a b = yesC) : notC (bothC (notC a) (notC b)) = yesC := by
  unfold bothC at h
  by_cases h1 : a = nayC ∨ b = nayC
  · rw [if_pos h1] at h; exact absurd h.symm yes_nay
  · rw [if_neg h1] at h
    by_cases h2 : a = yesC ∧ b = yesC
    · rw [h2.1, h2.2, not_yes]; decide +kernel
    · rw [if_neg h2] at h; exact absurd h.symm yes_no
def constT (c : ByteArray) : Trm := .mk 107 0 c []
theorem constT_in (w : World) (c : ByteArray) : TermIn w (.agg #[.int .u8 107, .int .i64 0, .string c, .slice none 0 0]) (constT c) :=
  ⟨_, rfl, ⟨by show (0 : Int) ≤ 107; decide, by show (107 : Int) ≤ 255; decide, by show (-9223372036854775808 : Int) ≤ 0; decide, by show (0 : Int) ≤ 9223372036854775807; decide⟩, KidsIn.nil_ _ _ _⟩
theorem constT_q (Q : Value → Prop) (w : World) (c : ByteArray) (hq : Q (.slice none 0 0)) : TermQ Q w (.agg #[.int .u8 107, .int .i64 0, .string c, .slice none 0 0]) (constT c) :=
  ⟨_, rfl, ⟨by show (0 : Int) ≤ 107; decide, by show (107 : Int) ≤ 255; decide, by show (-9223372036854775808 : Int) ≤ 0; decide, by show (0 : Int) ≤ 9223372036854775807; decide⟩, KidsQ.nil_ _ _ _ _ hq⟩
theorem RowOff.nil_ (v : Value) : RowOff v (.slice none 0 0) := fun A n c k e h0 => by
  injection e with _ h2
  omega
theorem eval_const (row : List ByteArray) (c : ByteArray) : evalT row (constT c) = c := by
  rw [constT, evalT]
  simp [opC]
theorem eval_eq15 (row : List ByteArray) (a b : Trm) : evalT row (twoT15 61 a b) = if evalT row a = noC ∨ evalT row b = noC then noC else boolCell (decide (evalT row a = evalT row b)) := by rw [eval_two]; simp [opC]
theorem eval_lt15 (row : List ByteArray) (a b : Trm) : evalT row (twoT15 60 a b) = if evalT row a = noC ∨ evalT row b = noC then noC else boolCell (ltB (evalT row a) (evalT row b)) := by rw [eval_two]; simp [opC]
theorem size_const (c : ByteArray) : sizeT (constT c) = 1 := by rw [constT, sizeT, sizeTs]
theorem size_two (op : Int) (a b : Trm) : sizeT (twoT15 op a b) = 1 + (sizeT a + sizeT b) := by rw [twoT15, sizeT, sizeTs, sizeTs, sizeTs, Nat.add_zero]
theorem wrap_two (n : Nat) : wrap64 ((1 + (n + 1) : Nat) : Int) = wrap64 (wrap64 (n : Int) + 2) := by
  unfold wrap64
  omega
theorem TermQ.parts {Q : Value → Prop} {w : World} {v : Value} {t : Trm} (h : TermQ Q w v t) : ∃ A cap, v = .agg #[.int .u8 t.op, .int .i64 t.col, .string t.cell, .slice A t.kids.length cap] := by
  obtain ⟨kv, rfl, _, hk⟩ := h
  obtain ⟨A, cap, rfl, -⟩ := kids_at hk
  exact ⟨A, cap, rfl⟩
end Go.Proofs.Ytppmmkmlngmafaa
