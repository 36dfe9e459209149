/- The contract of layer 7's Join. -/
import Derived.Test.YtclkkffeaabloaaGapsSplit
namespace Go.Proofs.Ytclkkffeaabloaa
open Go Go.RowKit

def zeroTexts (n : Nat) : List Value := List.replicate n (Value.string ⟨#[]⟩)
theorem joinL_length (is : List Bool) (l : List ByteArray) : (joinL is l).length ≤ is.length := by
  unfold joinL
  split
  · rw [joinF_length]; exact Nat.le_refl _
  · simp
/-- How Join ends. -/
def JoinEnd (w : World) (is : List Bool) (l : List ByteArray) (e : Ending) (w' : World) : Prop :=
  ∃ v, e = .returned (.tuple #[v, .bool (joinOk is l)]) ∧ StrsIn w' v (joinL is l) ∧ Below w.heap.size w w'
theorem join_no {w w' : World} {is : List Bool} {l : List ByteArray} (h : cnt is ≠ l.length) (hb : Below w.heap.size w w') : JoinEnd w is l (.returned (.tuple #[.slice none 0 0, .bool false])) w' := by
  have e1 : joinOk is l = false := by unfold joinOk; rw [decide_eq_false h]
  have e2 : joinL is l = [] := by unfold joinL; rw [if_neg h]
  exact ⟨_, by rw [e1], by rw [e2]; exact SliceOf.nil_ _ _ _ _, hb⟩
theorem join_yes {w w' : World} {is : List Bool} {l : List ByteArray} {v : Value} (h : cnt is = l.length) (hv : StrsIn w' v (joinF is l)) (hb : Below w.heap.size w w') : JoinEnd w is l (.returned (.tuple #[v, .bool true])) w' := by
  have e1 : joinOk is l = true := by unfold joinOk; rw [decide_eq_true h]
  have e2 : joinL is l = joinF is l := by unfold joinL; rw [if_pos h]
  exact ⟨_, by rw [e1], by rw [e2]; exact hv, hb⟩

set_option maxHeartbeats 1000000 in
set_option maxRecDepth 100000 in
theorem join_calls {w : World} {vi v : Value} {is : List Bool} {l : List ByteArray} (hi : BoolsIn w vi is) (h : StrsIn w v l) (hl : l.length ≤ 1000000) (hn : is.length ≤ 1000000) :
    Calls Try.prog 11 #[vi, v] w (JoinEnd w is l) := by
  obtain ⟨j0, hj, jz0, jz1, jz2⟩ := info_parts Try.infoT9
  obtain ⟨hb, hB⟩ := start w
  obtain ⟨A1, cap1, rfl, hat1⟩ := one_at hi
  obtain ⟨A2, cap2, rfl, hat2⟩ := one_at h
  have HAT1 := Lib.hid hat1
  have HAT2 := Lib.hid hat2
  clear h hi hat1 hat2
  go_enter Try.func11, Try.ntmps11
  go_wp2_with (at_make; refine wpList_make_full _ rfl _ _ 22 rfl w.heap.size 9 j0 (.string ⟨#[]⟩) 1 Try.underlying22 hj jz0 jz1 .i64 .i64 _ _ is.length rfl rfl rfl rfl (by rw [jz2]; omega) (by unfold maxLen; omega) hB ?_)
  intro w1 hrow hg1
  rw [toList_madeCells_one] at hrow
  have hO : Own w1 w.heap.size 1 (.slice (some ⟨w.heap.size, 0, none⟩) is.length is.length) is.length (zeroTexts is.length) := Own.of_row (B := w.heap.size) hrow (by unfold maxLen; omega) (Nat.le_refl _)
  have hb1 : Below w.heap.size w w1 := hb.grown hg1 hB (fun k hk => by cases hk)
  clear hrow hg1 hb hB
  have HX := Lib.hid (show ((joinF is l).map Value.string).length = is.length by rw [List.length_map, joinF_length])
  have HZ := Lib.hid (show (zeroTexts is.length).length = is.length from List.length_replicate)
  go_wp2
  go_loopw [7, 15] (fun u i wr => ∃ k : Nat, k ≤ is.length ∧ i = .int .i64 k ∧ u = .int .i64 (cnt (is.take k)) ∧ cnt (is.take k) ≤ l.length ∧ Own wr w.heap.size 1 (.slice (some ⟨w.heap.size, 0, none⟩) is.length is.length) is.length (((joinF is l).map Value.string).take k ++ (zeroTexts is.length).drop k) ∧ Below w.heap.size w wr) (fun _ i _ => is.length - (intOf i).toNat)
  case atStart => exact ⟨0, Nat.zero_le _, rfl, rfl, Nat.zero_le _, by simpa using hO, hb1⟩
  case round =>
    clear hO hb1
    obtain ⟨k, hk, rfl, rfl, hu, hO, hb⟩ := hrel
    by_cases hlt : k < is.length
    · obtain ⟨b, off, rfl, hbl, hc⟩ := HAT1.out k hlt
      have hx := (hb.cell (p := ⟨b, off + k, none⟩) hbl).trans (hc k hlt)
      have HC := Lib.hid (cnt_take is k hlt)
      have HCL := Lib.hid (cnt_take_le is (k + 1))
      have HGET := Lib.hid (List.getElem?_eq_getElem hlt)
      have HJN := Lib.hid (joinF_no is l k)
      have HJY := Lib.hid (joinF_yes is l k)
      obtain ⟨hs1, hs2⟩ := hO.fillCell HX.out HZ.out hlt
      have hz9 : (zeroTexts is.length)[k]? = some (Value.string ⟨#[]⟩) := by unfold zeroTexts; rw [List.getElem?_replicate, if_pos hlt]
      have hz8 : (zeroTexts is.length)[k]'(by rw [HZ.out]; exact hlt) = Value.string ⟨#[]⟩ := by unfold zeroTexts; rw [List.getElem_replicate]
      rw [hz8] at hs1
      have HO := Lib.hid hO
      clear hc hO hz8
      generalize is[k] = y at *
      cases y with
      | false =>
        have HC0 := Lib.hid (show cnt (is.take (k + 1)) = cnt (is.take k) from HC.out)
        have HSK := Lib.hid (fill_skip ((joinF is l).map Value.string) (zeroTexts is.length) k (by rw [HX.out]; exact hlt) (by rw [HX.out, HZ.out]) (by rw [hz9, List.getElem?_map, HJN.out HGET.out]; rfl))
        clear hz9 hs1 hs2
        go_wp2
        go_roundw
        case rel => exact ⟨k + 1, by omega, by go_num, by rw [HC0.out], by rw [HC0.out]; exact hu, by rw [← HSK.out]; exact HO.out, hb⟩
        case measure => simp [intOf]; omega
      | true =>
        have HC1 := Lib.hid (show cnt (is.take (k + 1)) = cnt (is.take k) + 1 from HC.out)
        generalize hq : cnt (is.take k) = q at *
        by_cases hql : q < l.length
        · obtain ⟨b2, off2, rfl, hbl2, hc2⟩ := HAT2.out q hql
          have hx2 := (hb.cell (p := ⟨b2, off2 + q, none⟩) hbl2).trans (hc2 q hql)
          have HY := Lib.hid (HJY.out HGET.out l[q] (by rw [List.getElem?_eq_getElem hql]))
          have HO' := Lib.hid (HO.out.filled HX.out HZ.out hlt (u := .string l[q]) (by rw [List.getElem?_map, HY.out]; rfl))
          have hbb := hb.setCell (Nat.le_refl w.heap.size) (p := ⟨w.heap.size, k, none⟩) (.string l[q])
          have d1 : ((q : Int) == (l.length : Int)) = false := by rw [beq_eq_false_iff_ne]; omega
          clear hc2 hz9 HJN HJY HY HO
          generalize l[q] = c at *
          go_wp2
          go_roundw
          case rel => exact ⟨k + 1, by omega, by go_num, by rw [HC1.out]; go_num, by rw [HC1.out]; omega, HO'.out, hbb⟩
          case measure => simp [intOf]; omega
        · have d1 : ((q : Int) == (l.length : Int)) = true := by rw [beq_iff_eq]; omega
          have HNE := Lib.hid (show cnt is ≠ l.length by have h1 := HC1.out; have h2 := HCL.out; omega)
          clear hz9 HJN HJY HO
          go_wp2
          go_ret2
          exact join_no HNE.out hb
    · obtain rfl : k = is.length := by omega
      have HT := Lib.hid (show cnt (is.take is.length) = cnt is by rw [List.take_length])
      rw [List.take_length] at hu ⊢
      generalize hq : cnt is = q at *
      by_cases hql : q < l.length
      · have HNE := Lib.hid (show cnt is ≠ l.length by omega)
        clear hq HT hO
        go_wp2
        go_ret2
        exact join_no HNE.out hb
      · have HE := Lib.hid (show cnt is = l.length by omega)
        have H2 := Lib.hid (strs_of (hO.full HX.out HZ.out) (joinF_length is l).symm)
        clear hq HT hO
        go_wp2
        go_ret2
        exact join_yes HE.out H2.out hb
end Go.Proofs.Ytclkkffeaabloaa
