/- The contract of the answer's Join of layer 7. -/
import Derived.Test.YtclkkffeaabloaaGapsJoin
namespace Go.Proofs.Ytclkkffeaabloaa
open Go Go.RowKit

theorem joinF_take (is : List Bool) (l : List ByteArray) (k : Nat) (_h : k < is.length) (x : ByteArray) (hx : (joinF is l)[k]? = some x) : ((joinF is l).take (k + 1)).map Value.string = ((joinF is l).take k).map Value.string ++ [Value.string x] := by
  obtain ⟨hk, rfl⟩ := List.getElem?_eq_some_iff.1 hx
  rw [take_add _ k hk, List.map_append]; rfl
/-- A slice without its first element. -/
theorem strs_tail {w : World} {b o n cap : Nat} {l : List ByteArray} (h : StrsIn w (.slice (some ⟨b, o, none⟩) n cap) l) (hn : n = l.length) (h0 : 0 < n) :
    StrsIn w (.slice (if cap = 1 then some ⟨b, o, none⟩ else some ⟨b, o + 1, none⟩) (n - 1) (cap - 1)) (l.drop 1) := by
  subst hn
  obtain ⟨h1, h2, A, c, h3, hr, h4⟩ := h
  simp only [Value.slice.injEq, true_and] at h3
  obtain ⟨rfl, rfl⟩ := h3
  obtain ⟨b', o', e, hb, hc⟩ := h4 h0
  simp only [Option.some.injEq, Addr.mk.injEq, and_true] at e
  obtain ⟨rfl, rfl⟩ := e
  refine ⟨by rw [List.length_map, Nat.mul_one], by rw [List.length_drop]; omega, _, cap - 1, by rw [List.length_drop], by rw [List.length_drop]; omega, fun h5 => ?_⟩
  rw [List.length_drop] at h5
  refine ⟨b, o + 1, by rw [if_neg (by omega)], hb, fun j u hu => ?_⟩
  rw [List.map_drop, List.getElem?_drop] at hu
  rw [Nat.add_assoc]
  exact hc _ u hu

theorem strs_first {w : World} {v : Value} {l : List ByteArray} {q : Nat} (h : StrsIn w v (l.drop q)) (hq : q < l.length) :
    ∃ b o cap, v = .slice (some ⟨b, o, none⟩) (l.length - q) cap ∧ b < w.heap.size ∧ w.cell? ⟨b, o, none⟩ = some (.string l[q]) := by
  have hd : 0 < (l.drop q).length := by rw [List.length_drop]; omega
  rcases StrsIn.parts h with ⟨h0, _⟩ | ⟨_, b, o, cap, hv, hb, hc⟩
  · rw [h0] at hd; exact absurd hd (by simp)
  · rw [List.length_drop] at hv
    have h5 := hc 0 hd
    rw [List.getElem_drop] at h5
    exact ⟨b, o, cap, hv, hb, h5⟩

set_option maxHeartbeats 2000000 in
set_option maxRecDepth 100000 in
theorem ref_join_calls {w : World} {vi v : Value} {is : List Bool} {l : List ByteArray} (hi : BoolsIn w vi is) (h : StrsIn w v l) (hn : is.length ≤ 1000000) :
    Calls Try.prog 12 #[vi, v] w (JoinEnd w is l) := by
  obtain ⟨j0, hj, jz0, jz1, jz2⟩ := info_parts Try.infoT9
  obtain ⟨hb, hB⟩ := start w
  obtain ⟨A1, cap1, rfl, hat1⟩ := one_at hi
  have HAT1 := Lib.hid hat1
  have HV := Lib.hid h
  obtain ⟨A2, cap2, rfl, _⟩ := one_at h
  clear h hi hat1
  go_enter Try.func12, Try.ntmps12
  go_wp2
  go_loopw [1, 6, 7] (fun lv x i wr => ∃ k : Nat, k ≤ is.length ∧ i = .int .i64 k ∧ cnt (is.take k) ≤ l.length ∧ Hid (StrsIn w lv (l.drop (cnt (is.take k)))) ∧ Own wr w.heap.size 1 x k (((joinF is l).take k).map Value.string) ∧ Below w.heap.size w wr) (fun _ _ i _ => is.length - (intOf i).toNat)
  case atStart => exact ⟨0, Nat.zero_le _, rfl, Nat.zero_le _, HV.out, Own.nil_ _ _ _, hb⟩
  case round =>
    clear hb hB HV
    obtain ⟨k, hk, rfl, hu, HL, hO, hb⟩ := hrel
    have hB := hb.size
    obtain ⟨A3, p3, hv1, _⟩ := one_at HL.out
    rw [List.length_drop] at hv1
    by_cases hlt : k < is.length
    · obtain ⟨b, off, rfl, hbl, hc⟩ := HAT1.out k hlt
      have hx := (hb.cell (p := ⟨b, off + k, none⟩) hbl).trans (hc k hlt)
      have HC := Lib.hid (cnt_take is k hlt)
      have HCL := Lib.hid (cnt_take_le is (k + 1))
      have HGET := Lib.hid (List.getElem?_eq_getElem hlt)
      have HJN := Lib.hid (joinF_no is l k)
      have HJY := Lib.hid (joinF_yes is l k)
      have HJT := Lib.hid (joinF_take is l k hlt)
      obtain ⟨A9, p9, rfl⟩ := hO.len
      generalize ((joinF is l).take k).map Value.string = xs at *
      clear hc
      generalize is[k] = y at *
      cases y with
      | false =>
        have HC0 := Lib.hid (show cnt (is.take (k + 1)) = cnt (is.take k) from HC.out)
        have HX := Lib.hid (HJT.out _ (HJN.out HGET.out))
        generalize hq : cnt (is.take k) = q at *
        subst hv1
        go_wp2_with (at_builtin; refine wpList_append_Own rfl _ _ 22 rfl 9 j0 (.string ⟨#[]⟩) 1 16 Try.underlying22 hj jz0 jz1 jz2 rfl (by decide) _ _ _ rfl (Own.alloc hO _) ⟨wr.heap.size, 0, none⟩ 1 1 [_] rfl rfl (one_new _ _ _) (one_str _) ?c1 ?c2 (below_alloc hb hB _).2 ?_)
        case c1 => unfold maxLen; omega
        case c2 => omega
        intro v3 w3 hO3 hg3
        have hb3 := (Own.alloc hO (.cells #[Value.string ⟨#[]⟩] 9)).grown (below_alloc hb hB _).1 (below_alloc hb hB _).2 hg3
        have HO3 := Lib.hid hO3
        clear hO hb hB hg3 hx hO3
        go_wp2
        go_roundw
        case rel => exact ⟨k + 1, by omega, by go_num, by rw [HC0.out]; omega, by rw [HC0.out]; exact HL, by rw [HX.out]; exact HO3.out, hb3⟩
        case measure => simp [intOf]; omega
      | true =>
        have HC1 := Lib.hid (show cnt (is.take (k + 1)) = cnt (is.take k) + 1 from HC.out)
        generalize hq : cnt (is.take k) = q at *
        by_cases hql : q < l.length
        · obtain ⟨b2, o2, c2, rfl, hb2, hc2⟩ := strs_first HL.out hql
          have hx2 : wr.cell? ⟨b2, o2, none⟩ = some (.string l[q]) := (hb.cell (p := ⟨b2, o2, none⟩) hb2).trans hc2
          have HX := Lib.hid (HJT.out _ (HJY.out HGET.out l[q] (by rw [List.getElem?_eq_getElem hql])))
          have HT := Lib.hid (strs_tail HL.out (by rw [List.length_drop]) (by omega))
          rw [List.drop_drop] at HT
          obtain ⟨r, hr⟩ : ∃ r, l.length - q = r := ⟨_, rfl⟩
          rw [hr] at HT ⊢
          have d1 : ((r : Int) == 0) = false := by rw [beq_eq_false_iff_ne]; omega
          have d2 : (r == 0) = false := by rw [beq_eq_false_iff_ne]; omega
          have e0 : (0 : Int) < (r : Int) := by omega
          have e1 : (1 : Int) ≤ (r : Int) := by omega
          have e2 : 0 < r := by omega
          clear hc2 hv1 HJN HJY hr
          generalize l[q] = c at *
          go_wp2
          have HO1 := Lib.hid (Own.alloc hO (.cells #[Value.string c] 9)).drew
          have HLIT : Hid (SliceOf ((wr.alloc (.cells #[Value.string c] 9)).drew) 1 (.slice (some ⟨wr.heap.size, 0, none⟩) 1 1) 1 [Value.string c]) := (lit_ones Value.string wr 9 [c] (by show 1 ≤ 1000; decide)).drew
          have HBA := Lib.hid (below_alloc hb hB (.cells #[Value.string c] 9))
          clear hO hb hB hx
          go_region_law (refine step_append_src rfl (.tmp 14) (.tmp 18) 22 rfl 9 j0 (.string ⟨#[]⟩) 1 16 Try.underlying22 hj jz0 jz1 jz2 rfl (by decide) (.slice A9 k p9) k xs ?s1 HO1.out (.slice (some ⟨wr.heap.size, 0, none⟩) 1 1) 1 [.string c] ?s2 HLIT.out (one_str _) ?s3 ?s4 ?s5 ?s6; rfl; rfl; (focus (unfold maxLen; omega)); omega; exact HBA.out.2; intro v5 w5 hO5 hg5 ha5)
          have hb5 := HO1.out.grown (Below.drew HBA.out.1) HBA.out.2 hg5
          have HO5 := Lib.hid hO5
          clear hO5 hg5 ha5 hx2
          go_wp2
          go_roundw
          case rel => exact ⟨k + 1, by omega, by go_num, by rw [HC1.out]; omega, by rw [HC1.out]; exact HT, by rw [HX.out]; exact HO5.out, hb5⟩
          case measure => simp [intOf]; omega
        · have d1 : (((l.length - q : Nat) : Int) == 0) = true := by rw [beq_iff_eq]; omega
          have d2 : l.length - q = 0 := by omega
          have HNE := Lib.hid (show cnt is ≠ l.length by have h1 := HC1.out; have h2 := HCL.out; omega)
          subst hv1
          rw [d2]
          clear hO HJN HJY d1 d2
          go_wp2
          go_ret2
          exact join_no HNE.out hb
    · obtain rfl : k = is.length := by omega
      have HT := Lib.hid (show cnt (is.take is.length) = cnt is by rw [List.take_length])
      rw [List.take_length] at hu hv1
      generalize hq : cnt is = q at *
      subst hv1
      by_cases hql : q < l.length
      · have HNE := Lib.hid (show cnt is ≠ l.length by omega)
        have d1 : (0 : Int) < ((l.length - q : Nat) : Int) := by omega
        obtain ⟨_, _, rfl⟩ := hO.len
        clear hq HT hO
        go_wp2
        go_ret2
        exact join_no HNE.out hb
      · have HE := Lib.hid (show cnt is = l.length by omega)
        have d2 : l.length - q = 0 := by omega
        rw [List.take_of_length_le (by rw [joinF_length]; omega)] at hO
        have H2 := Lib.hid (strs_of hO (joinF_length is l).symm)
        obtain ⟨_, _, rfl⟩ := hO.len
        rw [d2]
        clear hq HT hO d2
        go_wp2
        go_ret2
        exact join_yes HE.out H2.out hb
end Go.Proofs.Ytclkkffeaabloaa
