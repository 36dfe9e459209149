/- The contract of layer 3's Read, said by what stands at the tape's beginning. -/
import Derived.Test.YtcoodplomnjkcaaShelfRead2
namespace Go.Proofs.Ytcoodplomnjkcaa
open Go Go.RowKit

/-- r is how s ends. -/
def Suf (r s : ByteArray) : Prop := ∃ k, k ≤ s.size ∧ r = s.extract k s.size
theorem Suf.refl (s : ByteArray) : Suf s s := ⟨0, Nat.zero_le _, bytes_ext (by rw [data_extract, List.drop_zero, List.take_of_length_le (by rw [data_size]; omega)])⟩
theorem Suf.data {r s : ByteArray} (h : Suf r s) : ∃ k, k ≤ s.size ∧ r.data.toList = s.data.toList.drop k := by
  obtain ⟨k, hk, rfl⟩ := h
  refine ⟨k, hk, ?_⟩
  rw [data_extract, List.take_of_length_le (by rw [List.length_drop, data_size]; exact Nat.le_refl _)]
theorem Suf.of {r s : ByteArray} {k : Nat} (hk : k ≤ s.size) (h : r.data.toList = s.data.toList.drop k) : Suf r s :=
  ⟨k, hk, bytes_ext (by rw [h, data_extract, List.take_of_length_le (by rw [List.length_drop, data_size]; exact Nat.le_refl _)])⟩
theorem Suf.trans {a b c : ByteArray} (h : Suf a b) (k : Suf b c) : Suf a c := by
  obtain ⟨i, hi, e1⟩ := h.data
  obtain ⟨j, hj, e2⟩ := k.data
  have hb : b.size = c.size - j := by rw [← data_size b, e2, List.length_drop, data_size]
  exact Suf.of (k := j + i) (by omega) (by rw [e1, e2, List.drop_drop])
theorem Suf.split {r s : ByteArray} (h : Suf r s) : s.data.toList = (s.extract 0 (s.size - r.size)).data.toList ++ r.data.toList ∧ r.size ≤ s.size := by
  obtain ⟨k, hk, e⟩ := h.data
  have hr : r.size = s.size - k := by rw [← data_size r, e, List.length_drop, data_size]
  rw [data_extract, e, hr]
  simp only [List.drop_zero, Nat.sub_zero]
  rw [show s.size - (s.size - k) = k by omega, List.take_append_drop]
  exact ⟨rfl, by omega⟩
theorem numT_suf (s : ByteArray) (bad : Bool) (m : Int) : Suf (numT s bad m).2.1 s := by
  unfold numT
  cases bad with
  | true => exact .refl s
  | false =>
    cases h : nextNum s.data.toList with
    | none => exact .refl s
    | some p =>
      obtain ⟨n, k⟩ := p
      have := (nextNum_some h).2.2.1
      rw [data_size] at this
      simp only [Bool.false_eq_true, if_false]
      split
      · exact ⟨k, this, rfl⟩
      · exact .refl s
theorem textT_suf (s : ByteArray) (bad : Bool) (n : Nat) : Suf (textT s bad n).2.1 s := by
  unfold textT
  split
  · exact .refl s
  · split
    · rename_i h; exact ⟨n, h, rfl⟩
    · exact .refl s
theorem takeT_suf (s : ByteArray) (bad : Bool) (many : Int) : Suf (takeT s bad many).2.1 s := by
  have h1 := numT_suf s bad maxU
  have h2 := numT_suf (numT s bad maxU).2.1 (numT s bad maxU).2.2 8
  have h3 := textT_suf (numT (numT s bad maxU).2.1 (numT s bad maxU).2.2 8).2.1 (numT (numT s bad maxU).2.1 (numT s bad maxU).2.2 8).2.2 (many.toNat * (numT (numT s bad maxU).2.1 (numT s bad maxU).2.2 8).1)
  unfold takeT
  split
  · exact .refl s
  · split
    · exact h3.trans (h2.trans h1)
    · exact h3.trans (h2.trans h1)

theorem rowsOf_rows (m : Int) (n : Nat) : ∀ (l : List Int) (r : List UInt8), InR l → (∀ x ∈ l, dist x m < 256 ^ n) → rowsOf m n l.length (rowsP m n l ++ r) = l
  | [], _, _, _ => rfl
  | x :: l, r, hr, hd => by
    have ih := rowsOf_rows m n l r (fun y hy => hr y (List.mem_cons_of_mem _ hy)) (fun y hy => hd y (List.mem_cons_of_mem _ hy))
    have hx := hr x List.mem_cons_self
    unfold rowsOf at ih ⊢
    unfold rowsP at ih ⊢
    rw [List.length_cons, List.range_succ_eq_map, List.map_cons, List.map_map, List.flatMap_cons, List.append_assoc]
    have hl := le_length n (dist x m)
    congr 1
    · rw [Nat.zero_mul, List.drop_zero, List.take_append_of_le_length (by omega), List.take_of_length_le (by omega), unle_le, Nat.mod_eq_of_lt (hd x List.mem_cons_self)]
      exact dist_back x m hx.1 hx.2
    · conv => rhs; rw [← ih]
      apply List.map_congr_left
      intro i _
      simp only [Function.comp]
      rw [Nat.succ_mul, Nat.add_comm, ← List.drop_drop, List.drop_append_of_le_length (by omega), show (le n (dist x m)).drop n = [] from List.drop_of_length_le (by omega), List.nil_append]
theorem takeT_at {s : ByteArray} {many : Int} {l : List Int} {r : List UInt8} (h : ShelfAt s.data.toList many l r) : takeT s false many = (l, mkB r, false) ∧ shelfB l = s.extract 0 (s.size - (mkB r).size) := by
  obtain ⟨h0, h1, hlen, hr, hs⟩ := h
  have hF := foldI_nat l hr
  have hn := bytesFrom_le_8 (leastI l) l
  have hn' : bytesL l ≤ 8 := hn
  have hd := bytesFrom_lt (leastI l) l
  have hrow := rowsP_length (leastI l) (bytesL l) l
  have es : s = printB (foldI (leastI l)).toNat ++ (printB (bytesL l) ++ (mkB (rowsP (leastI l) (bytesL l) l) ++ mkB r)) := by
    apply bytes_ext
    rw [hs, data_append, data_append, data_append, print_data, print_data, mkB_data, mkB_data]
    unfold shelfP
    simp only [List.append_assoc]
  constructor
  · have e1 := numT_print (foldI (leastI l)).toNat hF (printB (bytesL l) ++ (mkB (rowsP (leastI l) (bytesL l) l) ++ mkB r)) maxU (by unfold maxU; omega)
    rw [← es] at e1
    have e2 := numT_print (bytesL l) (by omega) (mkB (rowsP (leastI l) (bytesL l) l) ++ mkB r) 8 (by omega)
    have hM : many.toNat = l.length := by omega
    have hsz : (mkB (rowsP (leastI l) (bytesL l) l) ++ mkB r).size = bytesL l * l.length + r.length := by rw [ByteArray.size_append, mkB_size, mkB_size, hrow]
    have e3 : textT (mkB (rowsP (leastI l) (bytesL l) l) ++ mkB r) false (l.length * bytesL l) = (mkB (rowsP (leastI l) (bytesL l) l), mkB r, false) := by
      unfold textT
      rw [if_neg (by decide), if_pos (by rw [hsz, Nat.mul_comm]; omega)]
      have hq : l.length * bytesL l = (rowsP (leastI l) (bytesL l) l).length := by rw [hrow, Nat.mul_comm]
      congr 1
      · apply bytes_ext
        rw [data_extract, data_append, mkB_data, mkB_data, hq]
        simp
      · congr 1
        apply bytes_ext
        rw [data_extract, data_append, mkB_data, mkB_data, hsz, hq, hrow]
        rw [← hrow]
        simp
    unfold takeT
    rw [if_neg (by omega), e1]
    simp only []
    rw [e2]
    simp only []
    rw [hM, e3, open_fold]
    simp only [Bool.false_eq_true, if_false]
    have e4 := rowsOf_rows (leastI l) (bytesL l) l [] hr hd
    rw [List.append_nil] at e4
    rw [mkB_data, e4]
  · apply bytes_ext
    rw [data_extract, mkB_size, hs, shelfB_data]
    have : s.size = (shelfP l).length + r.length := by rw [← data_size, hs, List.length_append]
    rw [this]
    simp
theorem takeT_back {s : ByteArray} {many : Int} (h : (takeT s false many).2.2 = false) (he : shelfB (takeT s false many).1 = s.extract 0 (s.size - (takeT s false many).2.1.size)) :
    ShelfAt s.data.toList many (takeT s false many).1 (takeT s false many).2.1.data.toList := by
  obtain ⟨a, b, c⟩ := (takeT_length s false many).2 h
  refine ⟨a, b, c, takeT_range s false many, ?_⟩
  rw [← shelfB_data, he]
  exact (takeT_suf s false many).split.1

/-- A tape's call that gives numbers. -/
def TakesInts (P : Program) (T : TypeId) (f : FuncId) (more : List Value) (b : Nat) (s : ByteArray) (l : List Int) (s' : ByteArray) : Prop :=
  ∀ w : World, TapeIn T w b s false → Calls P f (Value.pointer (some ⟨b, 0, none⟩) :: more).toArray w fun e w' => ∃ v, e = .returned v ∧ IntsIn w' v l ∧ Fresh w.heap.size v ∧ TapeIn T w' b s' false ∧ w.grownBy w' (some b)

theorem shelf_read_some (b : Nat) (s : ByteArray) (hs : s.size ≤ 9223372036854775807) {many : Int} {l : List Int} {r : List UInt8} (h : ShelfAt s.data.toList many l r) :
    TakesInts Try.prog 29 13 [.int .i64 many] b s l (mkB r) := by
  intro w hT
  obtain ⟨e1, e2⟩ := takeT_at h
  have hl := (takeT_length s false many).1
  have hz := takeT_size s false many
  have hc := fun b' w => take_calls b' s false many hs w
  rw [e1] at hl hz
  simp only [e1] at hc
  rcases str_ne_cases (shelfB l) (s.extract 0 (s.size - (mkB r).size)) with ⟨_, g1, g2⟩ | ⟨g, _⟩
  · exact read_yes b s false many hs l (mkB r) hl h.2.2.2.1 hz g1 g2 hc w hT
  · exact absurd e2 g
theorem shelf_read_none (b : Nat) (s : ByteArray) (hs : s.size ≤ 9223372036854775807) (many : Int) (h : ¬ ∃ l r, ShelfAt s.data.toList many l r) :
    Takes Try.prog 29 13 [.int .i64 many] b s false (.slice none 0 0) s true := by
  intro w hT
  have hl := (takeT_length s false many).1
  have hr := takeT_range s false many
  have hz := takeT_size s false many
  have hc := fun b' w => take_calls b' s false many hs w
  have hbk := @takeT_back s many
  generalize takeT s false many = X at *
  obtain ⟨l, r, bad'⟩ := X
  cases bad' with
  | true => exact read_bad b s false many hs l r hz hc w hT
  | false =>
    rcases str_ne_cases (shelfB l) (s.extract 0 (s.size - r.size)) with ⟨g, _⟩ | ⟨_, g1, g2⟩
    · exact absurd ⟨_, _, hbk rfl g⟩ h
    · exact read_no b s false many hs l r hl hr hz g1 g2 hc w hT
theorem shelf_read_badtape (b : Nat) (s : ByteArray) (hs : s.size ≤ 9223372036854775807) (many : Int) :
    Takes Try.prog 29 13 [.int .i64 many] b s true (.slice none 0 0) s true := by
  intro w hT
  have hz := takeT_size s true many
  have hc := fun b' w => take_calls b' s true many hs w
  have hb : (takeT s true many).2.2 = true := by
    have n1 : ∀ m, numT s true m = (0, s, true) := fun m => rfl
    have t1 : ∀ n, textT s true n = (⟨#[]⟩, s, true) := fun n => rfl
    unfold takeT
    split
    · rfl
    · rw [n1, n1, t1]; rfl
  generalize takeT s true many = X at *
  obtain ⟨l, r, bad'⟩ := X
  simp only at hb
  subst hb
  exact read_bad b s true many hs l r hz hc w hT
end Go.Proofs.Ytcoodplomnjkcaa
