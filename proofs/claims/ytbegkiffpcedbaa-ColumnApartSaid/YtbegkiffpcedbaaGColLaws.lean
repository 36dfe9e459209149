/- The walk of the document's examples of layer 8. -/
import Derived.Test.YtbegkiffpcedbaaGStrs
import Derived.Test.YtbegkiffpcedbaaGCol
import Derived.Test.YtbegkiffpcedbaaGZColKind
import Derived.Test.YtbegkiffpcedbaaGZColParse
/- Plain facts on the document's examples of layer 8; 'small'; no long walk. -/
namespace Go.Proofs.Ytbegkiffpcedbaa
open Go Go.RowKit

/-- Are cells few, and short? -/
def smallL (l : List ByteArray) : Bool := l.all (fun c => decide (c.size ≤ 200)) && decide (l.length ≤ 200)
theorem smallL_of {l : List ByteArray} (h : smallL l = true) : l.length ≤ 200 ∧ ∀ c ∈ l, c.size ≤ 200 := by
  unfold smallL at h
  rw [Bool.and_eq_true, List.all_eq_true, decide_eq_true_eq] at h
  exact ⟨h.2, fun c hc => by have := h.1 c hc; rwa [decide_eq_true_eq] at this⟩

set_option maxHeartbeats 400000 in
theorem small_calls {w : World} {v : Value} {l : List ByteArray} (h : StrsIn w v l) : Reads Try.prog 6 #[v] w (.bool (smallL l)) := by
  have hm := h.len
  unfold maxLen at hm
  obtain ⟨A, cap, rfl, hat⟩ := one_at h
  have HAT := Lib.hid hat
  clear h hat
  unfold Reads
  go_enter Try.func6, Try.ntmps6
  go_wp2
  go_loop [3] (fun i => ∃ k : Nat, k ≤ l.length ∧ i = .int .i64 k ∧ Hid (∀ c ∈ l.take k, c.size ≤ 200)) (fun i => l.length - (intOf i).toNat)
  case atStart => exact ⟨0, Nat.zero_le _, rfl, fun c hc => absurd hc (by simp)⟩
  case round =>
    obtain ⟨k, hk, rfl, HS⟩ := hrel
    by_cases hlt : k < l.length
    · obtain ⟨b, off, rfl, hbl, hc⟩ := HAT.out k hlt
      have hx := hc k hlt
      have HT := Lib.hid (take_add l k hlt)
      have HM := Lib.hid (List.getElem_mem hlt)
      clear hc
      by_cases hz : l[k].size ≤ 200
      · have d1 : decide (200 < (l[k].size : Int)) = false := by rw [decide_eq_false_iff_not]; omega
        go_wp2
        go_round
        case rel => exact ⟨k + 1, by omega, by go_num, fun c hc => by
          rw [HT.out] at hc
          rcases List.mem_append.1 hc with hc | hc
          · exact HS.out c hc
          · rw [List.mem_singleton] at hc; rw [hc]; exact hz⟩
        case measure => simp [intOf]; omega
      · have d1 : decide (200 < (l[k].size : Int)) = true := by rw [decide_eq_true_eq]; omega
        have HD : Hid (smallL l = false) := by
          show _ = _
          cases hs : smallL l with
          | false => rfl
          | true => exact absurd ((smallL_of hs).2 _ HM.out) hz
        go_wp2
        go_ret
        exact ⟨ret_bool HD.out.symm, rfl⟩
    · obtain rfl : k = l.length := by omega
      have HD : Hid (decide ((l.length : Int) ≤ 200) = smallL l) := by
        show _ = _
        have h1 : l.all (fun c => decide (c.size ≤ 200)) = true := by
          rw [List.all_eq_true]
          intro c hc
          rw [decide_eq_true_eq]
          exact HS.out c (by rw [List.take_length]; exact hc)
        unfold smallL
        rw [h1, Bool.true_and]
        congr 1
        rw [eq_iff_iff]
        omega
      go_wp2
      go_ret
      exact ⟨ret_bool HD.out, rfl⟩


theorem strs_nil (w : World) : StrsIn w (.slice none 0 0) [] := SliceOf.nil_ _ _ _ _
def tA : ByteArray := ⟨#[116, 97]⟩
theorem isInt_tA : isInt tA = false := by unfold isInt; rfl
def l4 : List ByteArray := [cellInt 7, ⟨#[]⟩, cellInt 8, cellInt 9]
theorem cell_ne (n : Int) : cellInt n ≠ ⟨#[]⟩ := by
  intro h
  have := congrArg ByteArray.size h
  rw [size_cellInt] at this
  exact absurd this (by decide)
theorem l4_right : ∀ c ∈ l4, rightB c = true := by
  intro c hc
  simp only [l4, List.mem_cons, List.not_mem_nil, or_false] at hc
  rcases hc with rfl | rfl | rfl | rfl
  · exact cellInt_right _
  · exact right_empty
  · exact cellInt_right _
  · exact cellInt_right _
theorem l4_is : isL l4 = [true, false, true, true] := by
  unfold isL l4
  simp only [List.map_cons, List.map_nil]
  rw [decide_eq_true (cell_ne 7), decide_eq_true (cell_ne 8), decide_eq_true (cell_ne 9)]
  simp
theorem l4_at : ColAt (colB l4) 4 l4 := col_at l4 (by decide) l4_right
theorem l4_no : ¬ ∃ l, ColAt (colB l4) 3 l := by
  rintro ⟨l, k⟩
  obtain ⟨r, g, _⟩ := k.parts
  obtain ⟨r', g', _⟩ := l4_at.parts
  rw [l4_is] at g'
  obtain ⟨_, _, g3, g4⟩ := g
  obtain ⟨_, _, _, g4'⟩ := g'
  obtain ⟨ga, _⟩ := lensOf_good (isL l)
  have hsum := sumN_lensOf (isL l)
  have e : lensOf [true, false, true, true] = [1, 1, 2] := rfl
  unfold gapsP at g4 g4'
  rw [e] at g4'
  obtain ⟨tl, e1, _, _⟩ := gapsB_prefix (lensOf (isL l)) [1, 1, 2] r r' ga ⟨1, [1, 2], rfl, by simp⟩ (by rw [hsum]; simp only [sumN]; omega) (by simp [sumN]) (g4.symm.trans g4')
  generalize lensOf (isL l) = a at *
  have hs3 : sumN a = 3 := by omega
  match a, e1 with
  | [], _ => simp [sumN] at hs3
  | [x], e1 => simp only [List.cons_append, List.cons.injEq] at e1; simp only [sumN] at hs3; omega
  | [x, y], e1 => simp only [List.cons_append, List.cons.injEq] at e1; simp only [sumN] at hs3; omega
  | [x, y, z], e1 => simp only [List.cons_append, List.cons.injEq] at e1; simp only [sumN] at hs3; omega
  | x :: y :: z :: u :: tl', e1 => simp at e1
theorem none_at : ¬ ∃ l, ColAt ⟨#[]⟩ 0 l := by
  rintro ⟨l, _, _, _, _, h⟩
  have := congrArg ByteArray.size h
  unfold colB at this
  rw [ByteArray.size_append, ByteArray.size_append, print_len] at this
  have h1 := vp_some (bestN (fullL l))
  have h2 : (⟨#[]⟩ : ByteArray).size = 0 := rfl
  omega
theorem ta_ok : asOk [tA] 2 = false := by
  show mayL [tA] = false
  exact mayL_no (c := tA) (by simp) isInt_tA
theorem ta_runs : asB [tA, tA] 0 = ⟨#[2, 116, 97, 2]⟩ := by
  rw [asB_0, show [tA, tA] = List.replicate 2 tA from rfl, runs_alike 2 tA (by decide)]
  unfold cellP
  rw [show tA.size = 2 from rfl, vp_small (by decide)]
  rfl
theorem ta_best : bestN [tA, tA] = 0 := best_same (c := tA) (by intro x hx; simpa using hx) (by decide) (by decide) isInt_tA
theorem two_best : bestN [cellInt 7, cellInt 8] = 2 := by
  have hr : InR [7, 8] := by intro x hx; simp only [List.mem_cons, List.not_mem_nil, or_false] at hx; omega
  obtain ⟨h1, h2⟩ := nums_ints hr
  have e : [cellInt 7, cellInt 8] = ([7, 8] : List Int).map cellInt := rfl
  have hs : (asB [cellInt 7, cellInt 8] 2).size = 2 := by
    rw [asB_2, e]
    unfold stepsG
    rw [if_pos h2, h1]
    unfold stepsT stepsP
    rw [mkB_size]
    simp only [stepsB, List.length_append]
    rw [show stepN 0 7 = 14 by decide +kernel, show stepN 7 8 = 2 by decide +kernel, vp_small (by decide), vp_small (by decide)]
    rfl
  have hk : asOk [cellInt 7, cellInt 8] 2 = true := by rw [asOk_2, e]; exact h2
  have hmem : ∀ c ∈ [cellInt 7, cellInt 8], 9 ≤ (cellP c).length := by
    intro c hc
    have : c.size = 9 := by
      simp only [List.mem_cons, List.not_mem_nil, or_false] at hc
      rcases hc with rfl | rfl <;> rfl
    unfold cellP
    rw [List.length_append, ba_len, this]; omega
  have h0 : 9 ≤ (asB [cellInt 7, cellInt 8] 0).size := by
    rw [asB_0, mkB_size]
    unfold runsP
    obtain ⟨g, es⟩ := runsOf_good [cellInt 7, cellInt 8]
    cases hq : runsOf [cellInt 7, cellInt 8] with
    | nil => rw [hq] at es; simp [spread] at es
    | cons x rs =>
      have := hmem _ (runsOf_mem [cellInt 7, cellInt 8] x (by rw [hq]; exact List.mem_cons_self)).1
      rw [runB_cons, List.length_append]; omega
  have h1' : 9 ≤ (asB [cellInt 7, cellInt 8] 1).size := by
    rw [asB_1]
    unfold dictB
    rw [mkB_size]
    unfold dictP
    have hw := (wordsOf_spec [cellInt 7, cellInt 8]).2
    cases hq : wordsOf [cellInt 7, cellInt 8] with
    | nil => have := (hw (cellInt 7)).2 (by simp); rw [hq] at this; simp at this
    | cons x ws =>
      have := hmem x ((hw x).1 (by rw [hq]; exact List.mem_cons_self))
      rw [List.flatMap_cons]
      simp only [List.length_append]; omega
  obtain ⟨b1, _, b3, b4⟩ := bestP_spec [cellInt 7, cellInt 8]
  generalize hbn : bestN [cellInt 7, cellInt 8] = n at *
  have := (b4 2 (by decide) hk).1
  rw [show ((2 : Nat) : Int) = 2 from rfl, hs] at this
  obtain rfl | rfl | rfl : n = 0 ∨ n = 1 ∨ n = 2 := by omega
  · rw [show ((0 : Nat) : Int) = 0 from rfl] at this; omega
  · rw [show ((1 : Nat) : Int) = 1 from rfl] at this; omega
  · rfl
theorem fits_cell (n kind : Int) (null : Bool) : fitsB (cellInt n) kind null = (105 == kind) := by
  unfold fitsB
  rw [if_neg (cell_ne n), cellInt_right, kind_cellInt, Bool.true_and]
theorem fits_empty (kind : Int) (null : Bool) : fitsB ⟨#[]⟩ kind null = null := if_pos rfl
theorem l4_kind (kind : Int) (null : Bool) : kindL l4 kind null = ((105 == kind) && null) := by
  unfold kindL l4
  simp only [List.all_cons, List.all_nil, fits_cell, fits_empty]
  cases (105 == kind) <;> cases null <;> rfl
theorem l4_small : ∀ c ∈ l4, c.size ≤ 1000000 := right_size l4_right
theorem ta_small : ∀ c ∈ [tA], c.size ≤ 1000000 := by
  intro c hc; rw [List.mem_singleton.1 hc]; decide
theorem tas_small : ∀ c ∈ [tA, tA], c.size ≤ 1000000 := by
  intro c hc
  simp only [List.mem_cons, List.not_mem_nil, or_false, or_self] at hc
  rw [hc]; decide
theorem two_small : ∀ c ∈ [cellInt 7, cellInt 8], c.size ≤ 1000000 := by
  intro c hc
  simp only [List.mem_cons, List.not_mem_nil, or_false] at hc
  rcases hc with rfl | rfl <;> (rw [size_cellInt]; decide)
end Go.Proofs.Ytbegkiffpcedbaa
namespace Go.Proofs.Ytbegkiffpcedbaa
open Go Go.RowKit

theorem ParseEnd.yes {w w' : World} {s : ByteArray} {many : Int} {e : Ending} (h : ParseEnd w s many e w') {l : List ByteArray} (k : ColAt s many l) : ∃ v, e = .returned (.tuple #[v, .bool true]) ∧ StrsIn w' v l ∧ Below w.heap.size w w' := by
  obtain ⟨hb, ⟨v, l', he, hv, hc⟩ | ⟨_, hn⟩⟩ := h
  · obtain rfl := hc.same k
    exact ⟨v, he, hv, hb⟩
  · exact absurd ⟨l, k⟩ hn
theorem ParseEnd.no {w w' : World} {s : ByteArray} {many : Int} {e : Ending} (h : ParseEnd w s many e w') (k : ¬ ∃ l, ColAt s many l) : e = .returned (.tuple #[.slice none 0 0, .bool false]) ∧ Below w.heap.size w w' := by
  obtain ⟨hb, ⟨v, l', he, hv, hc⟩ | ⟨he, _⟩⟩ := h
  · exact absurd ⟨l', hc⟩ k
  · exact ⟨he, hb⟩
theorem colB_small {l : List ByteArray} (hl : l.length ≤ 4096) (hs : ∀ c ∈ l, c.size ≤ 1000000) : (colB l).size ≤ 9223372036854775807 := by
  have z1 := gapsT_size (isL l) (by rw [isL_length]; omega)
  have hfl := fullL_length l
  have z3 := as_size (fullL l) (by omega) (fun c hc => hs c (fullL_mem hc)) (bestN (fullL l))
  have hbn := (bestP_spec (fullL l)).2.2.1
  have z2 : (printB (bestN (fullL l))).size ≤ 10 := by rw [print_len]; exact vp_len_10 (by omega)
  unfold colB
  rw [ByteArray.size_append, ByteArray.size_append]
  omega

set_option maxHeartbeats 4000000 in
set_option maxRecDepth 100000 in
theorem awake_calls : Gives Try.prog 7 #[] (.bool true) := by
  intro w
  obtain ⟨hb, hB⟩ := start w
  have H7 := Lib.hid (int_calls 7 (by decide) (by decide))
  have H8 := Lib.hid (int_calls 8 (by decide) (by decide))
  have H9 := Lib.hid (int_calls 9 (by decide) (by decide))
  have hl4 : l4 = [cellInt 7, ⟨#[]⟩, cellInt 8, cellInt 9] := rfl
  have HTB := Lib.hid two_best
  have HTS := Lib.hid two_small
  generalize cellInt 7 = c7 at *
  generalize cellInt 8 = c8 at *
  generalize cellInt 9 = c9 at *
  have HL := Lib.hid hl4
  clear hl4
  have hca := colB_small (l := l4) (by decide) l4_small
  have HY := Lib.hid l4_at
  have HN := Lib.hid l4_no
  have HP : Hid (∀ (w' : World) (v : Value), StrsIn w' v l4 → GivesAt Try.prog 9 #[v] w' (.string (colB l4))) := fun w' v h => col_print_calls h (by decide) l4_small
  generalize colB l4 = s4 at *
  have e1 : (⟨#[2, 116, 97, 2]⟩ : ByteArray).toList = [2, 116, 97, 2] := by rw [ByteArray.toList_eq]
  go_enter Try.func7, Try.ntmps7
  go_wp2_with fail
  refine H7.out.step (w0 := w) (B := w.heap.size) hb hB ?_
  clear hb hB; intro w1 hb hB
  go_wp2_with fail
  refine H8.out.step (w0 := w) (B := w.heap.size) hb hB ?_
  clear hb hB; intro w2 hb hB
  go_wp2_with fail
  refine H9.out.step (w0 := w) (B := w.heap.size) hb hB ?_
  clear hb hB; intro w3 hb hB
  go_wp2_with fail
  have hm : StrsIn (w3.alloc (.cells #[.string c7, .string ⟨#[]⟩, .string c8, .string c9] 9)) (.slice (some ⟨w3.heap.size, 0, none⟩) 4 4) l4 := by
    rw [HL.out]; exact lit_strs w3 9 [c7, ⟨#[]⟩, c8, c9] (by simp)
  have hbb := below_alloc hb hB (.cells #[.string c7, .string ⟨#[]⟩, .string c8, .string c9] 9)
  clear hb hB
  obtain ⟨hb, hB⟩ := hbb
  generalize w3.alloc (.cells #[.string c7, .string ⟨#[]⟩, .string c8, .string c9] 9) = w4 at *
  generalize w3.heap.size = g at *
  refine (HP.out _ _ hm).stepB (w0 := w) (B := w.heap.size) hb hB ?_
  clear hb hB; intro w5 hb hB hq
  replace hm := StrsIn.kept hm hq
  clear hq
  go_wp2_with fail
  refine (parse_calls w5 s4 4 hca).mono ?_
  intro e w6 h
  obtain ⟨vm, rfl, hx, hq⟩ := h.yes HY.out
  replace hb := hb.trans (hq.mono hB)
  replace hB := hb.size
  replace hm := StrsIn.kept hm hq
  clear hq h
  go_wp2_with fail
  refine (HP.out _ _ hm).stepB (w0 := w) (B := w.heap.size) hb hB ?_
  clear hb hB; intro w7 hb hB hq
  replace hm := StrsIn.kept hm hq
  replace hx := StrsIn.kept hx hq
  clear hq
  go_wp2_with fail
  refine (parse_calls w7 s4 3 hca).mono ?_
  intro e w8 h
  obtain ⟨rfl, hq⟩ := h.no HN.out
  replace hb := hb.trans (hq.mono hB)
  replace hB := hb.size
  replace hm := StrsIn.kept hm hq
  replace hx := StrsIn.kept hx hq
  clear hq h
  go_wp2_with fail
  refine (parse_calls w8 ⟨#[]⟩ 0 (by decide)).mono ?_
  intro e w9 h
  obtain ⟨rfl, hq⟩ := h.no none_at
  replace hb := hb.trans (hq.mono hB)
  replace hB := hb.size
  replace hm := StrsIn.kept hm hq
  replace hx := StrsIn.kept hx hq
  clear hq h
  go_wp2_with fail
  have hk : StrsIn (w9.alloc (.cells #[.string ⟨#[116, 97]⟩] 9)) (.slice (some ⟨w9.heap.size, 0, none⟩) 1 1) [tA] := lit_strs w9 9 [tA] (by simp)
  have hs := as_calls hk (by decide) ta_small 2 (by decide)
  rw [show ((2 : Nat) : Int) = 2 from rfl, ta_ok] at hs
  refine hs.stepB (w0 := w) (B := w.heap.size) (below_alloc hb hB _).1 (below_alloc hb hB _).2 ?_
  clear hb hB hs hk
  intro w10 hb hB hq
  replace hq := lit_below hq
  replace hm := StrsIn.kept hm hq
  replace hx := StrsIn.kept hx hq
  clear hq
  generalize asB [tA] 2 = ax
  go_wp2_with fail
  have hk : StrsIn (w10.alloc (.cells #[.string ⟨#[116, 97]⟩, .string ⟨#[116, 97]⟩] 9)) (.slice (some ⟨w10.heap.size, 0, none⟩) 2 2) [tA, tA] := lit_strs w10 9 [tA, tA] (by simp)
  have hs := as_calls hk (by decide) tas_small 0 (by decide)
  rw [show ((0 : Nat) : Int) = 0 from rfl, ta_runs, asOk_0] at hs
  refine hs.stepB (w0 := w) (B := w.heap.size) (below_alloc hb hB _).1 (below_alloc hb hB _).2 ?_
  clear hb hB hs hk
  intro w11 hb hB hq
  replace hq := lit_below hq
  replace hm := StrsIn.kept hm hq
  replace hx := StrsIn.kept hx hq
  clear hq
  go_wp2_with fail
  have hs := same_strs hx hm (by decide) (by decide)
  rw [decide_eq_true rfl] at hs
  refine hs.stepB (w0 := w) (B := w.heap.size) hb hB ?_
  clear hb hB hs hx
  intro w12 hb hB hq
  replace hm := StrsIn.kept hm hq
  clear hq
  go_wp2_with fail
  have hk : StrsIn (w12.alloc (.cells #[.string ⟨#[116, 97]⟩, .string ⟨#[116, 97]⟩] 9)) (.slice (some ⟨w12.heap.size, 0, none⟩) 2 2) [tA, tA] := lit_strs w12 9 [tA, tA] (by simp)
  have hs := bestBig_calls hk (by decide) tas_small
  rw [ta_best] at hs
  refine hs.stepB (w0 := w) (B := w.heap.size) (below_alloc hb hB _).1 (below_alloc hb hB _).2 ?_
  clear hb hB hs hk
  intro w13 hb hB hq
  replace hq := lit_below hq
  replace hm := StrsIn.kept hm hq
  clear hq
  go_wp2_with fail
  refine H7.out.stepB (w0 := w) (B := w.heap.size) hb hB ?_
  clear hb hB; intro w14 hb hB hq
  replace hm := StrsIn.kept hm hq
  clear hq
  go_wp2_with fail
  refine H8.out.stepB (w0 := w) (B := w.heap.size) hb hB ?_
  clear hb hB; intro w15 hb hB hq
  replace hm := StrsIn.kept hm hq
  clear hq
  go_wp2_with fail
  have hk : StrsIn (w15.alloc (.cells #[.string c7, .string c8] 9)) (.slice (some ⟨w15.heap.size, 0, none⟩) 2 2) [c7, c8] := lit_strs w15 9 [c7, c8] (by simp)
  have hs := bestBig_calls hk (by simp) HTS.out
  rw [HTB.out] at hs
  refine hs.stepB (w0 := w) (B := w.heap.size) (below_alloc hb hB _).1 (below_alloc hb hB _).2 ?_
  clear hb hB hs hk
  intro w16 hb hB hq
  replace hq := lit_below hq
  replace hm := StrsIn.kept hm hq
  clear hq
  go_wp2_with fail
  have hs := kindL_calls hm 105 true
  rw [l4_kind, show ((105 : Int) == 105 && true) = true from rfl] at hs
  refine hs.stepB (w0 := w) (B := w.heap.size) hb hB ?_
  clear hb hB hs
  intro w17 hb hB hq
  replace hm := StrsIn.kept hm hq
  clear hq
  go_wp2_with fail
  have hs := kindL_calls hm 105 false
  rw [l4_kind, show ((105 : Int) == 105 && false) = false from rfl] at hs
  refine hs.stepB (w0 := w) (B := w.heap.size) hb hB ?_
  clear hb hB hs
  intro w18 hb hB hq
  replace hm := StrsIn.kept hm hq
  clear hq
  go_wp2_with fail
  have hs := kindL_calls hm 116 true
  rw [l4_kind, show ((105 : Int) == 116 && true) = false from rfl] at hs
  refine hs.step (w0 := w) (B := w.heap.size) hb hB ?_
  clear hb hB hs hm
  intro w19 hb hB
  go_wp2
  go_ret
  exact ⟨rfl, hb⟩
end Go.Proofs.Ytbegkiffpcedbaa
