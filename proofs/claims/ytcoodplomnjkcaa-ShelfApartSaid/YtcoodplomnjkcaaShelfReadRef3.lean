/- The contract of the answer's Read of layer 3, said by what stands at the tape's beginning. -/
import Derived.Test.YtcoodplomnjkcaaShelfReadRef2
namespace Go.Proofs.Ytcoodplomnjkcaa
open Go Go.RowKit

set_option maxHeartbeats 1000000 in
set_option maxRecDepth 100000 in
theorem ref_read_out (b : Nat) (s r1 r2 : ByteArray) (bad b1 b2 : Bool) (m : Int) (n : Nat) (many : Int) (w : World) (hT : TapeIn 31 w b s bad)
    (T1 : Takes Try.prog 31 28 [] b s bad (.int .i64 m) r1 b1) (T2 : Takes Try.prog 31 29 [.int .u64 8] b r1 b1 (.int .u64 n) r2 b2)
    (hn : n ≤ 8) (h : b2 = true ∨ many < 0) :
    Calls Try.prog 14 #[.pointer (some ⟨b, 0, none⟩), .int .i64 many] w fun e w' => ∃ r', e = .returned (.slice none 0 0) ∧ TapeIn 31 w' b r' true ∧ w.grownBy w' (some b) := by
  have hg := grown_refl w (some b)
  have H1 := Lib.hid T1
  have H2 := Lib.hid T2
  clear T1 T2
  by_cases hneg : many < 0
  · have d0 : decide (many < 0) = true := by rw [decide_eq_true_eq]; exact hneg
    have d1 : decide ((0 : Int) < many) = false := by rw [decide_eq_false_iff_not]; omega
    clear h
    cases b2
    all_goals
      go_enter Try.func14, Try.ntmps14
      go_wp2_with (first | (go_at_call 28; refine H1.out.step hT hg ?_; clear hT hg; intro w1 hT hg) | (go_at_call 29; refine H2.out.step hT hg ?_; clear hT hg; intro w2 hT hg; have c0 := hT.c0; have c1 := hT.c1; have f1 := hT.f0 1))
      refine wp_loop_rounds 1 ?_
      rw [rounds_succ]
      go_wp2
      go_quiet (fail)
      go_wp2
      go_ret
      exact ⟨r2, rfl, (hT.drewN _).set1 _, grown_set (grown_drewN hg _) _ _⟩
  · obtain rfl : b2 = true := by rcases h with h | h; · exact h
                                 · exact absurd h hneg
    clear h
    by_cases h0 : 0 < many
    all_goals
      go_enter Try.func14, Try.ntmps14
      go_wp2_with (first | (go_at_call 28; refine H1.out.step hT hg ?_; clear hT hg; intro w1 hT hg) | (go_at_call 29; refine H2.out.step hT hg ?_; clear hT hg; intro w2 hT hg; have c0 := hT.c0; have c1 := hT.c1; have f1 := hT.f0 1))
      refine wp_loop_rounds 1 ?_
      rw [rounds_succ]
      go_wp2
      go_quiet (fail)
      go_wp2
      go_ret
      exact ⟨r2, rfl, (hT.drewN _).set1 _, grown_set (grown_drewN hg _) _ _⟩

theorem numT_good {s : ByteArray} {bad : Bool} {m : Int} (h : (numT s bad m).2.2 = false) : bad = false ∧ s = printB (numT s bad m).1 ++ (numT s bad m).2.1 := by
  cases bad with
  | true => exact absurd h (by show ¬ true = false; simp)
  | false =>
    refine ⟨rfl, ?_⟩
    unfold numT at h ⊢
    cases hq : nextNum s.data.toList with
    | none => rw [hq] at h; exact absurd h (by simp)
    | some p =>
      obtain ⟨n, k⟩ := p
      rw [hq] at h
      obtain ⟨h1, _, h3, _⟩ := nextNum_some hq
      rw [data_size] at h3
      simp only [Bool.false_eq_true, if_false] at h ⊢
      split at h
      · rename_i hm
        rw [if_pos hm]
        apply bytes_ext
        rw [data_append, print_data, h1, data_extract, List.take_of_length_le (l := s.data.toList.drop k) (by rw [List.length_drop, data_size]; omega), List.take_append_drop]
      · simp at h
theorem at_nums {s : ByteArray} {many : Int} {l : List Int} {r : List UInt8} (h : ShelfAt s.data.toList many l r) :
    numT s false maxU = ((foldI (leastI l)).toNat, printB (bytesL l) ++ (mkB (rowsP (leastI l) (bytesL l) l) ++ mkB r), false) ∧
    numT (printB (bytesL l) ++ (mkB (rowsP (leastI l) (bytesL l) l) ++ mkB r)) false 8 = (bytesL l, mkB (rowsP (leastI l) (bytesL l) l) ++ mkB r, false) := by
  obtain ⟨h0, h1, hlen, hr, hs⟩ := h
  have hF := foldI_nat l hr
  have hn' : bytesL l ≤ 8 := bytesFrom_le_8 (leastI l) l
  have es : s = printB (foldI (leastI l)).toNat ++ (printB (bytesL l) ++ (mkB (rowsP (leastI l) (bytesL l) l) ++ mkB r)) := by
    apply bytes_ext
    rw [hs, data_append, data_append, data_append, print_data, print_data, mkB_data, mkB_data]
    unfold shelfP
    simp only [List.append_assoc]
  have e1 := numT_print (foldI (leastI l)).toNat hF (printB (bytesL l) ++ (mkB (rowsP (leastI l) (bytesL l) l) ++ mkB r)) maxU (by unfold maxU; omega)
  rw [← es] at e1
  exact ⟨e1, numT_print (bytesL l) (by omega) (mkB (rowsP (leastI l) (bytesL l) l) ++ mkB r) 8 (by omega)⟩
theorem rr_size {r2 : ByteArray} {k : Nat} (h : k ≤ r2.size) : r2.size - (r2.extract k r2.size).size = k := by rw [ByteArray.size_extract]; omega

theorem ref_shelf_read_some (b : Nat) (s : ByteArray) (hs : s.size ≤ 1000000000000) {many : Int} {l : List Int} {r : List UInt8} (h : ShelfAt s.data.toList many l r) :
    TakesInts Try.prog 31 14 [.int .i64 many] b s l (mkB r) := by
  intro w hT
  obtain ⟨e1, e2⟩ := at_nums h
  obtain ⟨h0, h1, hlen, hr, _⟩ := h
  have hn' : bytesL l ≤ 8 := bytesFrom_le_8 (leastI l) l
  have hd := bytesFrom_lt (leastI l) l
  have hrow := rowsP_length (leastI l) (bytesL l) l
  have z1 := numT_size s false maxU
  have z2 := numT_size (printB (bytesL l) ++ (mkB (rowsP (leastI l) (bytesL l) l) ++ mkB r)) false 8
  rw [e1] at z1
  rw [e2] at z2
  have T1 := ref_tint_calls b s false
  have T2 := ref_tnum_calls b (printB (bytesL l) ++ (mkB (rowsP (leastI l) (bytesL l) l) ++ mkB r)) false 8
  rw [e1, open_fold] at T1
  rw [e2] at T2
  simp only at T1 T2 z1 z2
  have hsz : (mkB (rowsP (leastI l) (bytesL l) l) ++ mkB r).size = bytesL l * l.length + r.length := by rw [ByteArray.size_append, mkB_size, mkB_size, hrow]
  have hle : l.length * bytesL l ≤ (mkB (rowsP (leastI l) (bytesL l) l) ++ mkB r).size := by rw [hsz, Nat.mul_comm]; omega
  have hk := ref_read_full b s _ _ false false (leastI l) (bytesL l) many hn' (by omega) w hT T1 T2 l.length (by omega) (by omega) (.inl (by omega)) hle
  have hro : rowsOf (leastI l) (bytesL l) l.length (mkB (rowsP (leastI l) (bytesL l) l) ++ mkB r).data.toList = l := by
    rw [data_append, mkB_data, mkB_data]; exact rowsOf_rows _ _ l r hr hd
  have hrr : (mkB (rowsP (leastI l) (bytesL l) l) ++ mkB r).extract (l.length * bytesL l) (mkB (rowsP (leastI l) (bytesL l) l) ++ mkB r).size = mkB r := by
    have := extract_front (mkB (rowsP (leastI l) (bytesL l) l)) (mkB r)
    rwa [mkB_size, hrow, Nat.mul_comm] at this
  rw [hro, hrr] at hk
  have hok : shelfB l = printB (foldI (leastI l)).toNat ++ printB (bytesL l) ++ (mkB (rowsP (leastI l) (bytesL l) l) ++ mkB r).extract 0 ((mkB (rowsP (leastI l) (bytesL l) l) ++ mkB r).size - (mkB r).size) := by
    apply bytes_ext
    rw [shelfB_data, data_append, data_append, data_extract, data_append, print_data, print_data, mkB_data, mkB_data, ByteArray.size_append, mkB_size, mkB_size]
    unfold shelfP
    simp
  refine hk.mono fun e w' hp => ?_
  rcases hp with ⟨_, hv⟩ | ⟨hno, _⟩
  · exact hv
  · exact absurd ⟨by omega, rfl, rfl, hok⟩ hno

theorem ref_shelf_read_none (b : Nat) (s : ByteArray) (hs : s.size ≤ 1000000000000) (many : Int) (h : ¬ ∃ l r, ShelfAt s.data.toList many l r) (w : World) (hT : TapeIn 31 w b s false) :
    Calls Try.prog 14 #[.pointer (some ⟨b, 0, none⟩), .int .i64 many] w fun e w' => ∃ r', e = .returned (.slice none 0 0) ∧ TapeIn 31 w' b r' true ∧ w.grownBy w' (some b) := by
  have T1 := ref_tint_calls b s false
  have z1 := numT_size s false maxU
  have k1 := @numT_good s false maxU
  have l1 := numT_lt s false maxU
  generalize numT s false maxU = A at *
  obtain ⟨F, r1, b1⟩ := A
  have T2 := ref_tnum_calls b r1 b1 8
  have z2 := numT_size r1 b1 8
  have k2 := @numT_good r1 b1 8
  have hn := numT_le r1 b1 8 (by decide)
  simp only at T1 z1 k1 l1
  generalize numT r1 b1 8 = C at *
  obtain ⟨n, r2, b2⟩ := C
  simp only at T2 z2 k2 hn
  by_cases ho : b2 = true ∨ many < 0
  · exact ref_read_out b s r1 r2 false b1 b2 _ n many w hT T1 T2 (by omega) ho
  · have hb2 : b2 = false := by cases b2 <;> simp_all
    subst hb2
    have hneg : ¬ many < 0 := fun hx => ho (.inr hx)
    obtain ⟨hb1, es2⟩ := k2 rfl
    subst hb1
    obtain ⟨_, es1⟩ := k1 rfl
    by_cases hsh : r2.size < (min many.toNat 4097) * n
    · exact ref_read_short b s r1 r2 false false _ n many (by omega) (by omega) w hT T1 T2 (min many.toNat 4097) (by omega) (by omega) hsh
    · have hk := ref_read_full b s r1 r2 false false _ n many (by omega) (by omega) w hT T1 T2 (min many.toNat 4097) (by omega) (by omega) (by omega) (by omega)
      refine hk.mono fun e w' hp => ?_
      rcases hp with ⟨⟨c1, c2, c3, c4⟩, _⟩ | ⟨_, hv⟩
      · exfalso
        apply h
        have hM : min many.toNat 4097 = many.toNat := by omega
        rw [hM] at c2 c3 c4 hsh
        refine ⟨_, (r2.extract (many.toNat * n) r2.size).data.toList, by omega, c1, ?_, rowsOf_range (openI F) n many.toNat r2.data.toList, ?_⟩
        · rw [rowsOf_length]; omega
        · rw [← shelfB_data, c4, fold_open, Int.toNat_natCast, rr_size (by omega), es1, es2]
          simp only [data_append, List.append_assoc]
          congr 2
          rw [data_extract, data_extract, List.drop_zero, Nat.sub_zero, List.take_of_length_le (l := r2.data.toList.drop _) (by rw [List.length_drop, data_size]; omega), List.take_append_drop]
      · exact hv
end Go.Proofs.Ytcoodplomnjkcaa
