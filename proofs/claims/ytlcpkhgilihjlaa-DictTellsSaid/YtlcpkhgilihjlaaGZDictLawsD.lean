/- The law DictApart. -/
import Derived.Test.YtlcpkhgilihjlaaGDictLaws
namespace Go.Proofs.Ytlcpkhgilihjlaa
open Go Go.RowKit

theorem Try.infoX9 : (Try.prog.info? 9).map (fun i => (i.zero, i.size, i.bytes)) = some (some (.string ⟨#[]⟩), 1, 16) := by kernel_rfl
theorem words_both (l m : List ByteArray) : wordsOf (wordsOf l ++ wordsOf m) = wordsOf (l ++ m) := by
  refine rises_unique _ _ (wordsOf_spec _).1 (wordsOf_spec _).1 fun x => ?_
  rw [(wordsOf_spec _).2, (wordsOf_spec _).2, List.mem_append, List.mem_append, (wordsOf_spec _).2, (wordsOf_spec _).2]
theorem words_again (l : List ByteArray) : wordsOf (wordsOf l) = wordsOf l :=
  rises_unique _ _ (wordsOf_spec _).1 (wordsOf_spec _).1 fun x => by rw [(wordsOf_spec _).2]
theorem dictB_eq {l m : List ByteArray} (hl : l.length = m.length) (h1 : ∀ c ∈ l, c.size ≤ 200) (h2 : ∀ c ∈ m, c.size ≤ 200) (hb : l.length ≤ 300) : ((dictB l).toList == (dictB m).toList) = decide (l = m) := by
  rw [Bool.eq_iff_iff, beq_iff_eq, decide_eq_true_eq]
  constructor
  · intro h
    rw [ByteArray.toList_eq, ByteArray.toList_eq] at h
    have h' : dictP l ++ [] = dictP m ++ [] := by rw [List.append_nil, List.append_nil]; exact h
    exact (dictP_prefix l m [] [] (fun c hc => by have := h1 c hc; unfold Small; omega) (fun c hc => by have := h2 c hc; unfold Small; omega) hl (by omega) h').1
  · rintro rfl; rfl

set_option maxHeartbeats 4000000 in
set_option maxRecDepth 100000 in
theorem dictApart_in {w : World} {v1 v2 : Value} {l m : List ByteArray} (h1 : StrsIn w v1 l) (h2 : StrsIn w v2 m) (hs1 : smallL l = true) (hs2 : smallL m = true) :
    GivesAt Try.prog 6 #[v1, v2] w (.bool true) := by
  obtain ⟨i0, hi, hz0, hz1, hz2⟩ := info_parts Try.infoX9
  obtain ⟨hb, hB⟩ := start w
  have HS1 := Lib.hid (small_calls h1)
  have HS2 := Lib.hid (small_calls h2)
  rw [hs1] at HS1
  rw [hs2] at HS2
  obtain ⟨hl1, hz1'⟩ := smallL_of hs1
  obtain ⟨hl2, hz2'⟩ := smallL_of hs2
  have HZ1 : Hid (∀ c ∈ l, c.size ≤ 1000000) := fun c hc => Nat.le_trans (hz1' c hc) (by decide)
  have HZ2 : Hid (∀ c ∈ m, c.size ≤ 1000000) := fun c hc => Nat.le_trans (hz2' c hc) (by decide)
  have HEQ := Lib.hid (fun hl => dictB_eq (l := l) (m := m) hl hz1' hz2' hl1)
  have HWB := Lib.hid (words_both l m)
  have HWA := Lib.hid (words_again (l ++ m))
  have hwl1 := wordsOf_length l
  have hwl2 := wordsOf_length m
  have hwl3 := wordsOf_length (l ++ m)
  rw [List.length_append] at hwl3
  have HA : Hid (∀ (w : World) (v : Value), SliceOf w 1 v (l.length + m.length) (l.map Value.string ++ m.map Value.string) → StrsIn w v (l ++ m)) := fun w v h => by unfold StrsIn; rw [List.length_append, List.map_append]; exact h
  have HBB : Hid (∀ (w : World) (v : Value), SliceOf w 1 v ((wordsOf l).length + (wordsOf m).length) ((wordsOf l).map Value.string ++ (wordsOf m).map Value.string) → StrsIn w v (wordsOf l ++ wordsOf m)) := fun w v h => by unfold StrsIn; rw [List.length_append, List.map_append]; exact h
  have hla : (l ++ m).length ≤ 600 := by rw [List.length_append]; omega
  have hlb : (wordsOf l ++ wordsOf m).length ≤ 600 := by rw [List.length_append]; omega
  generalize l ++ m = a at *
  generalize wordsOf l ++ wordsOf m = bo at *
  have HL1 := Lib.hid h1
  have HL2 := Lib.hid h2
  obtain ⟨A1, c1, rfl, _⟩ := one_at h1
  obtain ⟨A2, c2, rfl, _⟩ := one_at h2
  clear h1 h2 hs1 hs2 hz1' hz2'
  unfold GivesAt
  go_enter Try.func6, Try.ntmps6
  go_wp2_with (first | (go_at_call_of 7 (Value.slice A1 l.length c1); refine HS1.out.step ?_) | (go_at_call_of 7 (Value.slice A2 m.length c2); refine HS2.out.step ?_) | (at_builtin; refine wpList_append_src rfl (.tmp 17) (.tmp 18) 22 rfl 9 i0 (.string ⟨#[]⟩) 1 16 Try.underlying22 hi hz0 hz1 hz2 rfl (by decide) (B := w.heap.size) _ 0 [] rfl (own_empty 1 (Nat.le_refl _) (by simp)) _ l.length (l.map Value.string) rfl (SliceOf.later HL1.out (by go_grown)) (one_strs _) (by unfold maxLen; omega) (by omega) (by go_size) ?_))
  intro v3 w3 hO3 hg3 ha3
  have hb3 : Below w.heap.size w w3 := Below.grown (by go_grown) hg3 (by go_size) (fun k hk => by simp only [Value.ownBlock, Option.some.injEq] at hk; omega)
  have hB3 := hb3.size
  clear hg3 ha3
  go_wp2_with (at_builtin; refine wpList_append_src rfl (.tmp 19) (.tmp 20) 22 rfl 9 i0 (.string ⟨#[]⟩) 1 16 Try.underlying22 hi hz0 hz1 hz2 rfl (by decide) (B := w.heap.size) v3 _ _ rfl hO3 _ m.length (m.map Value.string) rfl (SliceOf.later HL2.out hb3) (one_strs _) (by unfold maxLen; omega) (by omega) hB3 ?_)
  intro v4 w4 hO4 hg4 ha4
  have hb4 : Below w.heap.size w w4 := Below.grown hb3 hg4 hB3 (fun k hk => (hO3.lt k hk).1)
  have hall : StrsIn w4 v4 a := HA.out _ _ (by first | exact hO4.slice | (have h := hO4.slice; rw [Nat.zero_add] at h; exact h))
  clear hg4 ha4 hO3 hO4 hb3 hB3 hb hB HS1 HS2
  have HW := Lib.hid (dict_words_calls hall (by omega))
  obtain ⟨A4, c4, rfl, _⟩ := one_at hall
  clear hall
  go_wp2_with fail
  refine HW.out.mono ?_
  rintro e w5 ⟨v5, rfl, hO5, hk5⟩
  have hb5 := hb4.trans (hk5.mono hb4.size)
  have hw5 := hO5.slice
  have HW1 := Lib.hid (dict_words_calls (SliceOf.later HL1.out hb5) (by omega))
  have hz5 := hb5.size
  obtain ⟨A5, c5, rfl⟩ := hO5.len
  clear HW hO5 hk5 hb4
  go_wp2_with fail
  refine HW1.out.mono ?_
  rintro e w6 ⟨v6, rfl, hO6, hk6⟩
  have hb6 := hb5.trans (hk6.mono hz5)
  have HW2 := Lib.hid (dict_words_calls (SliceOf.later HL2.out hb6) (by omega))
  obtain ⟨A6, c6, rfl⟩ := hO6.len
  clear HW1
  go_wp2_with fail
  refine HW2.out.mono ?_
  rintro e w7 ⟨v7, rfl, hO7, hk7⟩
  have hb57 := hk6.trans (hk7.mono hk6.size)
  have hB57 := hb57.size
  obtain ⟨A7, c7, rfl⟩ := hO7.len
  have hO67 := hO6.later hk7
  have hs7 := hO7.slice
  clear HW2 hO6 hO7 hk6 hk7 hb6
  go_wp2_with (at_builtin; refine wpList_append_src rfl (.tmp 25) (.tmp 27) 22 rfl 9 i0 (.string ⟨#[]⟩) 1 16 Try.underlying22 hi hz0 hz1 hz2 rfl (by decide) (B := w5.heap.size) _ _ _ rfl hO67 _ (wordsOf m).length ((wordsOf m).map Value.string) rfl hs7 (one_strs _) (by unfold maxLen; omega) (by omega) hB57 ?_)
  intro v8 w8 hO8 hg8 _
  have hb58 : Below w5.heap.size w5 w8 := Below.grown hb57 hg8 hB57 (fun k hk => (hO67.lt k hk).1)
  have hboth : StrsIn w8 v8 bo := HBB.out _ _ hO8.slice
  have hb := hb5.trans (hb58.mono hz5)
  have hB := hb.size
  have hww : StrsIn w8 (.slice A5 (wordsOf a).length c5) (wordsOf a) := SliceOf.later hw5 hb58
  have hx1 := StrsIn.kept HL1.out hb
  have hx2 := StrsIn.kept HL2.out hb
  obtain ⟨A8, c8, rfl, _⟩ := one_at hboth
  clear hg8 hO8 hO67 hs7 hb57 hB57 hb58 hb5 hz5 hw5 HL1 HL2
  by_cases hlen : l.length = m.length
  · have n1 : ((l.length : Int) == (m.length : Int)) = true := by rw [beq_iff_eq]; omega
    have n2 : ((l.length : Int) != (m.length : Int)) = false := by rw [bne_eq_false_iff_eq]; omega
    have n3 : (l.length == m.length) = true := by rw [beq_iff_eq]; omega
    have n4 : (l.length != m.length) = false := by rw [bne_eq_false_iff_eq]; omega
    have HD := Lib.hid (HEQ.out hlen)
    clear HEQ hlen
    go_wp2_with (first | (go_at_call 8; refine awake_calls.stepB (w0 := w) (B := w.heap.size) hb hB ?_; clear hb hB; intro w9 hb hB hq; replace hww := StrsIn.kept hww hq; replace hx1 := StrsIn.kept hx1 hq; replace hx2 := StrsIn.kept hx2 hq; replace hboth := StrsIn.kept hboth hq; clear hq))
    go_wp2_with (first | (go_at_call_of 11 (Value.slice A8 bo.length c8); refine Calls.mono (dict_words_calls hboth (by omega)) ?_; rintro e w10 ⟨v10, rfl, hO10, hq⟩; rw [HWB.out] at hO10; replace hb := hb.trans (hq.mono hB); replace hB := hb.size; replace hww := StrsIn.kept hww hq; replace hx1 := StrsIn.kept hx1 hq; replace hx2 := StrsIn.kept hx2 hq; have hs10 := same_strs (vb := v10) hww hO10.slice (by omega) (by omega); rw [decide_eq_true rfl] at hs10; obtain ⟨A10, c10, rfl⟩ := hO10.len; clear hO10 hq hboth))
    go_wp2_with (go_at_call 10; refine hs10.stepB (w0 := w) (B := w.heap.size) hb hB ?_)
    clear hb hB hs10
    intro w11 hb hB hq
    replace hww := StrsIn.kept hww hq; replace hx1 := StrsIn.kept hx1 hq; replace hx2 := StrsIn.kept hx2 hq
    clear hq
    go_wp2_with (go_at_call 11; refine Calls.mono (dict_words_calls hww (by omega)) ?_)
    rintro e w12 ⟨v12, rfl, hO12, hq⟩
    rw [HWA.out] at hO12
    replace hb := hb.trans (hq.mono hB)
    replace hB := hb.size
    replace hww := StrsIn.kept hww hq; replace hx1 := StrsIn.kept hx1 hq; replace hx2 := StrsIn.kept hx2 hq
    have hs12 := same_strs (vb := v12) hww hO12.slice (by omega) (by omega)
    rw [decide_eq_true rfl] at hs12
    obtain ⟨A12, c12, rfl⟩ := hO12.len
    clear hO12 hq hww
    go_wp2_with (go_at_call 10; refine hs12.stepB (w0 := w) (B := w.heap.size) hb hB ?_)
    clear hb hB hs12
    intro w13 hb hB hq
    replace hx1 := StrsIn.kept hx1 hq
    replace hx2 := StrsIn.kept hx2 hq
    clear hq
    go_wp2_with (go_at_call 14; refine (dict_print_calls hx1 (by omega) HZ1.out).stepB (w0 := w) (B := w.heap.size) hb hB ?_)
    clear hb hB
    intro w14 hb hB hq
    replace hx1 := StrsIn.kept hx1 hq
    replace hx2 := StrsIn.kept hx2 hq
    clear hq
    go_wp2_with (go_at_call 14; refine (dict_print_calls hx2 (by omega) HZ2.out).stepB (w0 := w) (B := w.heap.size) hb hB ?_)
    clear hb hB
    intro w15 hb hB hq
    replace hx1 := StrsIn.kept hx1 hq
    replace hx2 := StrsIn.kept hx2 hq
    clear hq
    have hs15 := same_strs hx1 hx2 (by omega) (by omega)
    go_wp2_with (go_at_call 10; refine hs15.step (w0 := w) (B := w.heap.size) hb hB ?_)
    clear hb hB hs15
    intro w16 hb hB
    go_wp2
    go_ret
    exact ⟨ret_bool (by rw [HD.out]; simp), hb⟩
  · have n1 : ((l.length : Int) == (m.length : Int)) = false := by rw [beq_eq_false_iff_ne]; omega
    have n2 : ((l.length : Int) != (m.length : Int)) = true := by rw [bne_iff_ne]; omega
    have n3 : (l.length == m.length) = false := by rw [beq_eq_false_iff_ne]; omega
    have n4 : (l.length != m.length) = true := by rw [bne_iff_ne]; omega
    clear HEQ hlen
    go_wp2_with (first | (go_at_call 8; refine awake_calls.stepB (w0 := w) (B := w.heap.size) hb hB ?_; clear hb hB; intro w9 hb hB hq; replace hww := StrsIn.kept hww hq; replace hx1 := StrsIn.kept hx1 hq; replace hx2 := StrsIn.kept hx2 hq; replace hboth := StrsIn.kept hboth hq; clear hq))
    go_wp2_with (first | (go_at_call_of 11 (Value.slice A8 bo.length c8); refine Calls.mono (dict_words_calls hboth (by omega)) ?_; rintro e w10 ⟨v10, rfl, hO10, hq⟩; rw [HWB.out] at hO10; replace hb := hb.trans (hq.mono hB); replace hB := hb.size; replace hww := StrsIn.kept hww hq; replace hx1 := StrsIn.kept hx1 hq; replace hx2 := StrsIn.kept hx2 hq; have hs10 := same_strs (vb := v10) hww hO10.slice (by omega) (by omega); rw [decide_eq_true rfl] at hs10; obtain ⟨A10, c10, rfl⟩ := hO10.len; clear hO10 hq hboth))
    go_wp2_with (go_at_call 10; refine hs10.stepB (w0 := w) (B := w.heap.size) hb hB ?_)
    clear hb hB hs10
    intro w11 hb hB hq
    replace hww := StrsIn.kept hww hq; replace hx1 := StrsIn.kept hx1 hq; replace hx2 := StrsIn.kept hx2 hq
    clear hq
    go_wp2_with (go_at_call 11; refine Calls.mono (dict_words_calls hww (by omega)) ?_)
    rintro e w12 ⟨v12, rfl, hO12, hq⟩
    rw [HWA.out] at hO12
    replace hb := hb.trans (hq.mono hB)
    replace hB := hb.size
    replace hww := StrsIn.kept hww hq; replace hx1 := StrsIn.kept hx1 hq; replace hx2 := StrsIn.kept hx2 hq
    have hs12 := same_strs (vb := v12) hww hO12.slice (by omega) (by omega)
    rw [decide_eq_true rfl] at hs12
    obtain ⟨A12, c12, rfl⟩ := hO12.len
    clear hO12 hq hww
    go_wp2_with (go_at_call 10; refine hs12.stepB (w0 := w) (B := w.heap.size) hb hB ?_)
    clear hb hB hs12
    intro w13 hb hB hq
    replace hx1 := StrsIn.kept hx1 hq
    replace hx2 := StrsIn.kept hx2 hq
    clear hq
    go_wp2
    go_ret
    exact ⟨ret_bool (by simp), hb⟩

set_option maxHeartbeats 1000000 in
theorem dictApart_calls {w : World} {v1 v2 : Value} {l m : List ByteArray} (h1 : StrsIn w v1 l) (h2 : StrsIn w v2 m) : GivesAt Try.prog 6 #[v1, v2] w (.bool true) := by
  cases hs1 : smallL l with
  | false =>
    obtain ⟨hb, hB⟩ := start w
    have HS1 := Lib.hid (small_calls h1)
    rw [hs1] at HS1
    obtain ⟨A1, c1, rfl, _⟩ := one_at h1
    obtain ⟨A2, c2, rfl, _⟩ := one_at h2
    clear h1 h2
    unfold GivesAt
    go_enter Try.func6, Try.ntmps6
    go_wp2_with (first | (go_at_call 7; refine HS1.out.step ?_) | (go_at_call 8; refine awake_calls.step (w0 := w) (B := w.heap.size) hb hB ?_; clear hb hB; intro w' hb hB))
    go_ret
    exact ⟨rfl, hb⟩
  | true =>
    cases hs2 : smallL m with
    | false =>
      obtain ⟨hb, hB⟩ := start w
      have HS1 := Lib.hid (small_calls h1)
      have HS2 := Lib.hid (small_calls h2)
      rw [hs1] at HS1
      rw [hs2] at HS2
      obtain ⟨A1, c1, rfl, _⟩ := one_at h1
      obtain ⟨A2, c2, rfl, _⟩ := one_at h2
      clear h1 h2
      unfold GivesAt
      go_enter Try.func6, Try.ntmps6
      go_wp2_with (first | (go_at_call_of 7 (Value.slice A1 l.length c1); refine HS1.out.step ?_) | (go_at_call_of 7 (Value.slice A2 m.length c2); refine HS2.out.step ?_) | (go_at_call 8; refine awake_calls.step (w0 := w) (B := w.heap.size) hb hB ?_; clear hb hB; intro w' hb hB))
      go_ret
      exact ⟨rfl, hb⟩
    | true => exact dictApart_in h1 h2 hs1 hs2
end Go.Proofs.Ytlcpkhgilihjlaa
