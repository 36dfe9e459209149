/- The contract of slices.Repeat of one bool. -/
import Derived.Test.YtclkkffeaabloaaRepeat
namespace Go.Proofs.Ytclkkffeaabloaa
open Go Go.RowKit

theorem Try.sizeS4 : (Try.prog.info? 4).map (·.size) = some 1 := by kernel_rfl
theorem Try.infoS4 : (Try.prog.info? 4).map (fun i => (i.zero, i.size, i.bytes)) = some (some (.bool false), 1, 1) := by kernel_rfl
theorem splice_first_bool (n : Nat) (c : Bool) : splice (List.replicate n (Value.bool false)) 0 [Value.bool c] = List.replicate 1 (Value.bool c) ++ List.replicate (n - 1) (Value.bool false) := by
  unfold splice
  rw [List.take_zero, List.nil_append, List.drop_replicate]; rfl

set_option maxHeartbeats 1000000 in
theorem repeat_bool_calls {w : World} {x : Value} {c : Bool} (h : BoolsIn w x [c]) (n : Nat) (h0 : 1 ≤ n) (hn : n ≤ 1000000) :
    Calls Try.prog 23 #[x, .int .i64 n] w fun e w' => ∃ v, e = .returned v ∧ Own w' w.heap.size 1 v n (List.replicate n (Value.bool c)) ∧ Below w.heap.size w w' := by
  obtain ⟨s0, hs, hsz0, hsz1, hsz2⟩ := info_parts Try.infoS4
  obtain ⟨hb, hB⟩ := start w
  obtain ⟨A, cap, rfl, hat⟩ := one_at h
  obtain ⟨b, off, rfl, hbl, hc⟩ := hat 0 (by simp)
  have hcell : w.cell? ⟨b, off, none⟩ = some (.bool c) := hc 0 (by simp)
  clear h hat hc
  have HM := Lib.hid (mul_one n hn)
  go_enter Try.func23, Try.ntmps23
  go_wp2_with (first | (go_at_call 25; refine (HM.out w).step ?_) | (at_make; refine wpList_make_full _ rfl _ _ 23 rfl w.heap.size 4 s0 (.bool false) 1 Try.underlying23 hs hsz0 hsz1 .i64 .i64 _ _ n rfl rfl rfl rfl (by rw [hsz2]; omega) (by unfold maxLen; omega) hB ?_))
  intro w1 hrow hg1
  rw [toList_madeCells_one] at hrow
  have hO := Own.of_row (B := w.heap.size) hrow (by unfold maxLen; omega) (Nat.le_refl _)
  have hb1 : Below w.heap.size w w1 := hb.grown hg1 hB (fun k hk => by cases hk)
  have hc1 := (hb1.cell (p := ⟨b, off, none⟩) hbl).trans hcell
  clear hrow hg1 hcell hb
  generalize hgv : w.heap.size = g at *
  obtain ⟨w2, hrun, hO2, hg2⟩ := run_copy_Own (P := Try.prog) 23 23 3 4 Try.underlying23 Try.sizeS4 hO 0 n n ⟨b, off, none⟩ 1 cap [Value.bool c] (by show 1 = Nat.min 1 n; exact (Nat.min_eq_left h0).symm) (by show 0 + 1 ≤ n; omega) (by
    intro j v hj
    cases j with
    | zero => simp only [List.getElem?_cons_zero, Option.some.injEq] at hj; subst hj; exact hc1
    | succ j => simp at hj) (one_bool _)
  have hrun' : (Builtin.copy_ #[23, 23] 3 #[.slice (some ⟨g, 0, none⟩) n n, .slice (some ⟨b, off, none⟩) 1 cap]).run Try.prog w1 = .ok (.int .i64 1) w2 := hrun
  clear hrun
  have hb2 : Below g w w2 := hb1.grown hg2 (by rw [← hgv]; exact hb1.size) (fun k hk => by cases hk; omega)
  rw [splice_first_bool n c] at hO2
  clear hO hb1 hc1 hg2
  go_wp2
  go_loopw [8] (fun i wr => ∃ (k : Nat), 1 ≤ k ∧ k ≤ n ∧ i = .int .i64 k ∧ Own wr g 1 (.slice (some ⟨g, 0, none⟩) n n) n (List.replicate k (Value.bool c) ++ List.replicate (n - k) (Value.bool false)) ∧ Below g w wr) (fun i _ => n - (intOf i).toNat)
  case atStart => exact ⟨1, by omega, h0, rfl, hO2, hb2⟩
  case round =>
    clear hO2 hb2 hrun'
    obtain ⟨k, hk0, hk, rfl, hO, hb⟩ := hrel
    by_cases hlt : k < n
    · have hne : ¬ k = n := by omega
      obtain ⟨w3, hrun, hO3, hg3⟩ := run_copy_Own (P := Try.prog) 23 23 3 4 Try.underlying23 Try.sizeS4 hO.drew k (n - k) (n - k) ⟨g, 0, none⟩ k n (List.replicate (Nat.min k (n - k)) (Value.bool c)) (by rw [List.length_replicate]) (by rw [List.length_replicate]; have h7 : Nat.min k (n - k) ≤ n - k := Nat.min_le_right k (n - k); generalize Nat.min k (n - k) = m at *; omega) (by
        intro j v hj
        obtain ⟨hj1, hj2⟩ := List.getElem?_eq_some_iff.1 hj
        rw [List.length_replicate] at hj1
        rw [List.getElem_replicate] at hj2
        have hjk : j < k := Nat.lt_of_lt_of_le hj1 (Nat.min_le_left _ _)
        obtain ⟨_, _, _, hcv, _⟩ := hO.parts
        rw [Addr.add_lit]
        refine hcv j v ?_
        rw [List.getElem?_append_left (by rw [List.length_replicate]; exact hjk), List.getElem?_replicate, if_pos hjk, hj2]) (one_rep _ _ rfl)
      rw [splice_more n k _ _ hk] at hO3
      rw [List.length_replicate, Nat.zero_add] at hrun
      have hm : Nat.min k (n - k) ≤ n - k := Nat.min_le_right k (n - k)
      have hm1 : 1 ≤ Nat.min k (n - k) := Nat.le_min.2 ⟨hk0, by omega⟩
      generalize Nat.min k (n - k) = m at *
      have hb3 : Below g w w3 := hb.drew.grown hg3 (by have := hb.size; rw [hgv] at this; exact this) (fun k hk => by cases hk; omega)
      clear hO hb hg3
      go_wp2
      go_region
      go_wp2
      go_roundw
      case rel => exact ⟨k + m, by omega, by omega, by go_num, hO3, hb3⟩
      case measure => simp [intOf]; omega
    · obtain rfl : k = n := by omega
      go_wp2
      go_ret
      rw [Nat.sub_self, List.replicate_zero, List.append_nil] at hO
      exact ⟨_, rfl, hgv ▸ hO, hgv ▸ hb⟩

set_option maxHeartbeats 1000000 in
theorem repeat_bool_none {w : World} {x : Value} {c : Bool} (h : BoolsIn w x [c]) :
    Calls Try.prog 23 #[x, .int .i64 0] w fun e w' => ∃ v, e = .returned v ∧ Own w' w.heap.size 1 v 0 [] ∧ Below w.heap.size w w' := by
  obtain ⟨s0, hs, hsz0, hsz1, hsz2⟩ := info_parts Try.infoS4
  obtain ⟨hb, hB⟩ := start w
  obtain ⟨A, cap, rfl, hat⟩ := one_at h
  obtain ⟨b, off, rfl, hbl, hc⟩ := hat 0 (by simp)
  have hcell : w.cell? ⟨b, off, none⟩ = some (.bool c) := hc 0 (by simp)
  clear h hat hc
  have HM := Lib.hid (mul_one 0 (by decide))
  go_enter Try.func23, Try.ntmps23
  go_wp2_with (first | (go_at_call 25; refine (HM.out w).step ?_) | (at_make; refine wpList_make_full _ rfl _ _ 23 rfl w.heap.size 4 s0 (.bool false) 1 Try.underlying23 hs hsz0 hsz1 .i64 .i64 _ _ 0 rfl rfl rfl rfl (by rw [hsz2]; omega) (by unfold maxLen; omega) hB ?_))
  intro w1 hrow hg1
  rw [toList_madeCells_one] at hrow
  have hO := Own.of_row (B := w.heap.size) hrow (by unfold maxLen; omega) (Nat.le_refl _)
  have hb1 : Below w.heap.size w w1 := hb.grown hg1 hB (fun k hk => by cases hk)
  have hc1 := (hb1.cell (p := ⟨b, off, none⟩) hbl).trans hcell
  clear hrow hg1 hcell hb
  generalize hgv : w.heap.size = g at *
  obtain ⟨w2, hrun, hO2, hg2⟩ := run_copy_Own (P := Try.prog) 23 23 3 4 Try.underlying23 Try.sizeS4 hO 0 0 0 ⟨b, off, none⟩ 1 cap [] rfl (Nat.le_refl _) (fun j v hj => by simp at hj) (fun u hu => absurd hu (by simp))
  have hrun' : (Builtin.copy_ #[23, 23] 3 #[.slice (some ⟨g, 0, none⟩) 0 0, .slice (some ⟨b, off, none⟩) 1 cap]).run Try.prog w1 = .ok (.int .i64 0) w2 := hrun
  clear hrun
  have hb2 : Below g w w2 := hb1.grown hg2 (by rw [← hgv]; exact hb1.size) (fun k hk => by cases hk; omega)
  clear hO hb1 hc1 hg2
  go_wp2
  refine wp_loop_rounds 1 ?_
  rw [rounds_succ]
  go_wp2
  go_ret
  exact ⟨_, rfl, hgv ▸ hO2, hgv ▸ hb2⟩

theorem repeat_bools {w : World} {x : Value} {c : Bool} (h : BoolsIn w x [c]) (n : Nat) (hn : n ≤ 1000000) :
    Calls Try.prog 23 #[x, .int .i64 n] w fun e w' => ∃ v, e = .returned v ∧ Own w' w.heap.size 1 v n (List.replicate n (Value.bool c)) ∧ Below w.heap.size w w' := by
  rcases Nat.eq_zero_or_pos n with rfl | h0
  · exact repeat_bool_none h
  · exact repeat_bool_calls h n h0 hn
end Go.Proofs.Ytclkkffeaabloaa
