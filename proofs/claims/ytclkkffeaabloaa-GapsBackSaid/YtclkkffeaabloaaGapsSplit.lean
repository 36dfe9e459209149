/- The contracts of layer 7's Split. -/
import Derived.Test.YtclkkffeaabloaaGapsTake
namespace Go.Proofs.Ytclkkffeaabloaa
open Go Go.RowKit

theorem Try.infoT9 : (Try.prog.info? 9).map (fun i => (i.zero, i.size, i.bytes)) = some (some (.string ⟨#[]⟩), 1, 16) := by kernel_rfl
def zeroBools (n : Nat) : List Value := List.replicate n (Value.bool false)
theorem isL_take (l : List ByteArray) (k : Nat) (h : k < l.length) : isL (l.take (k + 1)) = isL (l.take k) ++ [decide (l[k] ≠ ⟨#[]⟩)] := by
  unfold isL; rw [take_add l k h, List.map_append]; rfl
theorem fullL_take (l : List ByteArray) (k : Nat) (h : k < l.length) : (l[k] = ⟨#[]⟩ → fullL (l.take (k + 1)) = fullL (l.take k)) ∧ (l[k] ≠ ⟨#[]⟩ → fullL (l.take (k + 1)) = fullL (l.take k) ++ [l[k]]) := by
  unfold fullL
  rw [take_add l k h, List.filter_append]
  refine ⟨fun h => ?_, fun h => ?_⟩
  · rw [List.filter_cons_of_neg (by simpa using h)]; simp
  · rw [List.filter_cons_of_pos (by simpa using h)]; simp
theorem isL_get (l : List ByteArray) (k : Nat) (h : k < l.length) : ((isL l).map Value.bool)[k]? = some (.bool (decide (l[k] ≠ ⟨#[]⟩))) := by
  unfold isL; rw [List.getElem?_map, List.getElem?_map, List.getElem?_eq_getElem h]; rfl
theorem one_newS (w : World) (p : Addr) (v x : Value) (T : TypeId) : ∀ (j : Nat) (u : Value), [x][j]? = some u → ((w.setCell p v).alloc (.cells #[x] T)).cell? ((⟨w.heap.size, 0, none⟩ : Addr).add j) = some u := by
  have h := one_new (w.setCell p v) x T
  rwa [show (w.setCell p v).heap.size = w.heap.size by simp] at h
/-- How Split ends. -/
def SplitEnd (w : World) (l : List ByteArray) (e : Ending) (w' : World) : Prop :=
  ∃ v1 v2, e = .returned (.tuple #[v1, v2]) ∧ BoolsIn w' v1 (isL l) ∧ StrsIn w' v2 (fullL l) ∧ Below w.heap.size w w'
set_option maxHeartbeats 1000000 in
set_option maxRecDepth 100000 in
theorem split_calls {w : World} {v : Value} {l : List ByteArray} (h : StrsIn w v l) (hl : l.length ≤ 1000000) : Calls Try.prog 9 #[v] w (SplitEnd w l) := by
  obtain ⟨i0, hi, hz0, hz1, hz2⟩ := info_parts Try.infoS4
  obtain ⟨j0, hj, jz0, jz1, jz2⟩ := info_parts Try.infoT9
  obtain ⟨hb, hB⟩ := start w
  obtain ⟨A, cap, rfl, hat⟩ := one_at h
  have HAT := Lib.hid hat
  clear h hat
  go_enter Try.func9, Try.ntmps9
  go_wp2_with (at_make; refine wpList_make_full _ rfl _ _ 23 rfl w.heap.size 4 i0 (.bool false) 1 Try.underlying23 hi hz0 hz1 .i64 .i64 _ _ l.length rfl rfl rfl rfl (by rw [hz2]; omega) (by unfold maxLen; omega) hB ?_)
  intro w1 hrow hg1
  rw [toList_madeCells_one] at hrow
  have hO : Own w1 w.heap.size 1 (.slice (some ⟨w.heap.size, 0, none⟩) l.length l.length) l.length (zeroBools l.length) := Own.of_row (B := w.heap.size) hrow (by unfold maxLen; omega) (Nat.le_refl _)
  have hb1 : Below w.heap.size w w1 := hb.grown hg1 hB (fun k hk => by cases hk)
  have hs1 : w.heap.size + 1 ≤ w1.heap.size := by have := hO.lt w.heap.size rfl; omega
  clear hrow hg1 hb hB
  have hX : ((isL l).map Value.bool).length = l.length := by rw [List.length_map, isL_length]
  have hZ : (zeroBools l.length).length = l.length := List.length_replicate
  have HX := Lib.hid hX
  have HZ := Lib.hid hZ
  clear hX hZ
  go_wp2
  go_loopw [5, 13] (fun v i wr => ∃ k : Nat, k ≤ l.length ∧ i = .int .i64 k ∧ Own wr w.heap.size 1 (.slice (some ⟨w.heap.size, 0, none⟩) l.length l.length) l.length (((isL l).map Value.bool).take k ++ (zeroBools l.length).drop k) ∧ Own wr (w.heap.size + 1) 1 v (fullL (l.take k)).length ((fullL (l.take k)).map Value.string) ∧ Below w.heap.size w wr ∧ w.heap.size + 1 ≤ wr.heap.size) (fun _ i _ => l.length - (intOf i).toNat)
  case atStart => exact ⟨0, Nat.zero_le _, rfl, by simpa using hO, Own.nil_ _ _ _, hb1, hs1⟩
  case round =>
    clear hO hb1 hs1
    obtain ⟨k, hk, rfl, hO, hP, hb, hs⟩ := hrel
    by_cases hlt : k < l.length
    · obtain ⟨b, off, rfl, hbl, hc⟩ := HAT.out k hlt
      have hx := (hb.cell (p := ⟨b, off + k, none⟩) hbl).trans (hc k hlt)
      have HF := Lib.hid (fullL_take l k hlt)
      have HG := Lib.hid (isL_get l k hlt)
      have hfl := fullL_length (l.take k)
      rw [List.length_take] at hfl
      obtain ⟨hs1, hs2⟩ := hO.fillCell HX.out HZ.out hlt
      have hz9 : (zeroBools l.length)[k]? = some (Value.bool false) := by unfold zeroBools; rw [List.getElem?_replicate, if_pos hlt]
      have hz8 : (zeroBools l.length)[k]'(by rw [HZ.out]; exact hlt) = Value.bool false := by unfold zeroBools; rw [List.getElem_replicate]
      rw [hz8] at hs1
      have HO := Lib.hid hO
      have HP := Lib.hid hP
      obtain ⟨_, _, rfl⟩ := hP.len
      clear hc hO hP hz8
      generalize l[k] = c at *
      rcases str_ne_cases c ⟨#[]⟩ with ⟨he, g1, g2⟩ | ⟨he, g1, g2⟩
      · rw [empty_toList] at g1 g2
        have g3 : c.toList.isEmpty = true := by rw [he, empty_toList]; rfl
        have HSK := Lib.hid (fill_skip ((isL l).map Value.bool) (zeroBools l.length) k (by rw [HX.out]; exact hlt) (by rw [HX.out, HZ.out]) (HG.out.trans (by rw [hz9, he]; rfl)))
        have HFF := Lib.hid (HF.out.1 he)
        clear hz9 HG hs1 hs2
        go_wp2
        go_roundw
        case rel => exact ⟨k + 1, by omega, by go_num, by rw [← HSK.out]; exact HO.out, by rw [HFF.out]; exact HP.out, hb, hs⟩
        case measure => simp [intOf]; omega
      · rw [empty_toList] at g1 g2
        have g3 : c.toList.isEmpty = false := by simpa using g2
        have HFF := Lib.hid (HF.out.2 he)
        have HO' := Lib.hid (HO.out.filled HX.out HZ.out hlt (u := .bool true) (HG.out.trans (by rw [decide_eq_true he])))
        have hbb := hb.setCell (Nat.le_refl w.heap.size) (p := ⟨w.heap.size, k, none⟩) (.bool true)
        have HP' := Lib.hid (own_aside HP.out (Nat.lt_succ_self w.heap.size) (grown_set (grown_refl wr (some w.heap.size)) k (.bool true)))
        have hsz : w.heap.size + 1 ≤ (wr.setCell ⟨w.heap.size, k, none⟩ (.bool true)).heap.size := by simpa using hs
        clear hz9 HG HO HP
        go_wp2_with (at_builtin; refine wpList_append_Own rfl _ _ 22 rfl 9 j0 (.string ⟨#[]⟩) 1 16 Try.underlying22 hj jz0 jz1 jz2 rfl (by decide) _ _ _ rfl (Own.alloc HP'.out _) ⟨wr.heap.size, 0, none⟩ 1 1 [_] rfl rfl (one_newS _ _ _ _ _) (one_str _) ?c1 ?c2 (Nat.le_trans hsz (by simp)) ?_)
        case c1 => unfold maxLen; omega
        case c2 => omega
        intro v4 w4 hO4 hg4
        have hP1 := Own.alloc HP'.out (.cells #[Value.string c] 9)
        have hlt4 := fun k hk => (hP1.lt k hk).1
        have HO5 := Lib.hid ((Own.alloc HO'.out (.cells #[Value.string c] 9)).other hg4 (fun k hk e => by
          simp only [Value.ownBlock, Option.some.injEq] at hk
          have := hlt4 k e.symm; omega))
        have hb4 := (hbb.alloc (Nat.le_trans (Nat.le_succ _) hsz) (.cells #[Value.string c] 9)).grown hg4 (by have := hsz; simp at this ⊢; omega) (fun k hk => by have := hlt4 k hk; omega)
        have hs4 : w.heap.size + 1 ≤ w4.heap.size := Nat.le_trans hsz (Nat.le_trans (by simp) hg4.size)
        have HL4 := Lib.hid (show (fullL (l.take k) ++ [c]).length = (fullL (l.take k)).length + 1 by rw [List.length_append]; rfl)
        have HM4 := Lib.hid (show (fullL (l.take k) ++ [c]).map Value.string = (fullL (l.take k)).map Value.string ++ [Value.string c] by rw [List.map_append]; rfl)
        have HP4 := Lib.hid hO4
        clear hO4 hg4 hP1 hlt4 hbb hb hs hsz HP' HO'
        go_wp2
        go_roundw
        case rel => exact ⟨k + 1, by omega, by go_num, HO5.out, by rw [HFF.out, HL4.out, HM4.out]; exact HP4.out, hb4, hs4⟩
        case measure => simp [intOf]; omega
    · obtain rfl : k = l.length := by omega
      have h2 := (hO.full HX.out HZ.out).slice
      rw [List.take_length] at hP
      have H3 := Lib.hid hP.slice
      obtain ⟨_, _, rfl⟩ := hP.len
      clear hO hP
      go_wp2
      go_ret2
      refine ⟨_, _, rfl, ?_, H3.out, hb⟩
      unfold BoolsIn
      rw [isL_length]
      exact h2

set_option maxHeartbeats 1000000 in
set_option maxRecDepth 100000 in
theorem ref_split_calls {w : World} {v : Value} {l : List ByteArray} (h : StrsIn w v l) (hl : l.length ≤ 1000000) : Calls Try.prog 10 #[v] w (SplitEnd w l) := by
  obtain ⟨i0, hi, hz0, hz1, hz2⟩ := info_parts Try.infoS4
  obtain ⟨j0, hj, jz0, jz1, jz2⟩ := info_parts Try.infoT9
  obtain ⟨hb, hB⟩ := start w
  obtain ⟨A, cap, rfl, hat⟩ := one_at h
  have HAT := Lib.hid hat
  clear h hat
  go_enter Try.func10, Try.ntmps10
  go_wp2
  go_loopw [4, 5, 6] (fun x y i wr => ∃ (k : Nat), k ≤ l.length ∧ i = .int .i64 k ∧ Own wr w.heap.size 1 x k ((isL (l.take k)).map Value.bool) ∧ Own wr w.heap.size 1 y (fullL (l.take k)).length ((fullL (l.take k)).map Value.string) ∧ Aside x y ∧ Below w.heap.size w wr) (fun _ _ i _ => l.length - (intOf i).toNat)
  case atStart => exact ⟨0, by omega, rfl, Own.nil_ _ _ _, Own.nil_ _ _ _, fun k hk => by simp [Value.ownBlock] at hk, hb⟩
  case round =>
    clear hb hB
    obtain ⟨k, hk, rfl, hO, hP, hap, hb⟩ := hrel
    have hB := hb.size
    by_cases hlt : k < l.length
    · obtain ⟨b, off, rfl, hbl, hc⟩ := HAT.out k hlt
      have hxw := hc k hlt
      have hx := (hb.cell (p := ⟨b, off + k, none⟩) hbl).trans hxw
      have HXW := Lib.hid hxw
      have HF := Lib.hid (fullL_take l k hlt)
      have HIS := Lib.hid (show (isL (l.take (k + 1))).map Value.bool = (isL (l.take k)).map Value.bool ++ [Value.bool (decide (l[k] ≠ ⟨#[]⟩))] by rw [isL_take l k hlt, List.map_append]; rfl)
      have hfl := fullL_length (l.take k)
      rw [List.length_take] at hfl
      obtain ⟨A1, p1, rfl⟩ := hO.len
      obtain ⟨A2, p2, rfl⟩ := hP.len
      generalize (isL (l.take k)).map Value.bool = xs at *
      clear hc hxw
      generalize l[k] = c at *
      obtain ⟨g, hg1, hg2⟩ : ∃ g, c.toList.isEmpty = !g ∧ decide (c ≠ ⟨#[]⟩) = g := by
        refine ⟨!c.toList.isEmpty, by simp, ?_⟩
        rcases str_ne_cases c ⟨#[]⟩ with ⟨he, _, g2⟩ | ⟨he, _, g2⟩
        · rw [decide_eq_false (by simpa using he), he, empty_toList]; rfl
        · rw [empty_toList] at g2; rw [decide_eq_true he]; simpa using g2.symm
      rw [hg2] at HIS
      have hce : (g = false → c = ⟨#[]⟩) ∧ (g = true → c ≠ ⟨#[]⟩) := by subst hg2; simp
      have HCE := Lib.hid hce
      clear hg2 hce
      cases g with
      | false =>
        have HFF := Lib.hid (HF.out.1 (HCE.out.1 rfl))
        go_wp2_with (at_builtin; refine wpList_append_OwnA rfl _ _ 23 rfl 4 i0 (.bool false) 1 1 Try.underlying23 hi hz0 hz1 hz2 rfl (by decide) _ _ _ rfl (Own.alloc hO _) ⟨wr.heap.size, 0, none⟩ 1 1 [_] rfl rfl (one_new _ _ _) (one_bool _) ?c1 ?c2 (below_alloc hb hB _).2 ?_)
        case c1 => unfold maxLen; omega
        case c2 => omega
        intro v3 w3 hO3 hg3 ha3
        have hb3 := (Own.alloc hO (.cells #[Value.bool false] 4)).grown (below_alloc hb hB _).1 (below_alloc hb hB _).2 hg3
        obtain ⟨hP3, hap3⟩ := own_beside (Own.alloc hP (.cells #[Value.bool false] 4)) hap hg3 (fun k hk => (ha3 k hk).imp id fun h => by simpa using h)
        have hx3 := (hb3.cell (p := ⟨b, off + k, none⟩) hbl).trans HXW.out
        have HO3 := Lib.hid hO3
        have HP3 := Lib.hid hP3
        have HAP3 := Lib.hid hap3
        clear hO hP hb hB hap hg3 ha3 hx hO3 hP3 hap3
        go_wp2
        go_roundw
        case rel => exact ⟨k + 1, by omega, by go_num, by rw [HIS.out]; exact HO3.out, by rw [HFF.out]; exact HP3.out, HAP3.out, hb3⟩
        case measure => simp [intOf]; omega
      | true =>
        have HFF := Lib.hid (HF.out.2 (HCE.out.2 rfl))
        go_wp2_with (at_builtin; refine wpList_append_OwnA rfl _ _ 23 rfl 4 i0 (.bool false) 1 1 Try.underlying23 hi hz0 hz1 hz2 rfl (by decide) _ _ _ rfl (Own.alloc hO _) ⟨wr.heap.size, 0, none⟩ 1 1 [_] rfl rfl (one_new _ _ _) (one_bool _) ?c1 ?c2 (below_alloc hb hB _).2 ?_)
        case c1 => unfold maxLen; omega
        case c2 => omega
        intro v3 w3 hO3 hg3 ha3
        have hb3 := (Own.alloc hO (.cells #[Value.bool true] 4)).grown (below_alloc hb hB _).1 (below_alloc hb hB _).2 hg3
        have hB3 := hb3.size
        obtain ⟨hP3, hap3⟩ := own_beside (Own.alloc hP (.cells #[Value.bool true] 4)) hap hg3 (fun k hk => (ha3 k hk).imp id fun h => by simpa using h)
        have hx3 := (hb3.cell (p := ⟨b, off + k, none⟩) hbl).trans HXW.out
        obtain ⟨A3, p3, rfl⟩ := hO3.len
        have HO3 := Lib.hid hO3
        have HAP3 := Lib.hid hap3
        clear hO hP hb hB hap hg3 ha3 hx hO3 hap3
        go_wp2_with (at_builtin; refine wpList_append_OwnA rfl _ _ 22 rfl 9 j0 (.string ⟨#[]⟩) 1 16 Try.underlying22 hj jz0 jz1 jz2 rfl (by decide) _ _ _ rfl (Own.alloc hP3 _) ⟨w3.heap.size, 0, none⟩ 1 1 [_] rfl rfl (one_new _ _ _) (one_str _) ?c3 ?c4 (below_alloc hb3 hB3 _).2 ?_)
        case c3 => unfold maxLen; omega
        case c4 => omega
        intro v5 w5 hP5 hg5 ha5
        have hb5 := (Own.alloc hP3 (.cells #[Value.string c] 9)).grown (below_alloc hb3 hB3 _).1 (below_alloc hb3 hB3 _).2 hg5
        obtain ⟨hO5, hap5⟩ := own_beside (Own.alloc HO3.out (.cells #[Value.string c] 9)) HAP3.out.sym hg5 (fun k hk => (ha5 k hk).imp id fun h => by simpa using h)
        have HO5 := Lib.hid hO5
        have HP5 := Lib.hid hP5
        have HAP5 := Lib.hid hap5.sym
        have HL4 := Lib.hid (show (fullL (l.take k) ++ [c]).length = (fullL (l.take k)).length + 1 by rw [List.length_append]; rfl)
        have HM4 := Lib.hid (show (fullL (l.take k) ++ [c]).map Value.string = (fullL (l.take k)).map Value.string ++ [Value.string c] by rw [List.map_append]; rfl)
        clear hP3 hb3 hB3 hx3 hg5 ha5 hO5 hP5 hap5 HO3 HAP3
        go_wp2
        go_roundw
        case rel => exact ⟨k + 1, by omega, by go_num, by rw [HIS.out]; exact HO5.out, by rw [HFF.out, HL4.out, HM4.out]; exact HP5.out, HAP5.out, hb5⟩
        case measure => simp [intOf]; omega
    · obtain rfl : k = l.length := by omega
      rw [List.take_length] at hO hP
      have H3 := Lib.hid (strs_of hP rfl)
      have H2 := Lib.hid (bools_of hO (isL_length l).symm)
      obtain ⟨_, _, rfl⟩ := hO.len
      obtain ⟨_, _, rfl⟩ := hP.len
      clear hO hP hap
      go_wp2
      go_ret2
      exact ⟨_, _, rfl, H2.out, H3.out, hb⟩
end Go.Proofs.Ytclkkffeaabloaa
