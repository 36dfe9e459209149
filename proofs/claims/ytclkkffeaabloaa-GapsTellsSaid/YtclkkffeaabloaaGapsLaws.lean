/- The walk of the document's examples of layer 7, and of 'small'. -/
import Derived.Test.YtclkkffeaabloaaGapsJoinRef
import Derived.Test.YtclkkffeaabloaaGapsReadRef
import Derived.Test.YtclkkffeaabloaaGapsPrint
import Derived.Test.YtclkkffeaabloaaGapsSame
import Derived.Test.YtclkkffeaabloaaSame
import Derived.Test.YtclkkffeaabloaaReadsKit
namespace Go.Proofs.Ytclkkffeaabloaa
open Go Go.RowKit

theorem GapsRead.yes {T : TypeId} {w w' : World} {b : Nat} {s : ByteArray} {many : Int} {e : Ending} (k : GapsRead T w b s false many e w') {l : List Bool} {r : List UInt8} (h : GapsAt s.data.toList many l r) :
    ∃ v s', e = .returned v ∧ BoolsIn w' v l ∧ Fresh w.heap.size v ∧ TapeIn T w' b s' false ∧ w.grownBy w' (some b) ∧ (false = false → s' = mkB r) := by
  rcases k with ⟨v, l', r', he, _, hS, hi, hf, hT', hg⟩ | ⟨s0, _, _, _, hn⟩
  · obtain ⟨rfl, rfl⟩ := h.same hS
    exact ⟨v, _, he, hi, hf, hT', hg, fun _ => rfl⟩
  · rcases hn with hn | hn
    · exact absurd hn (by decide)
    · exact absurd ⟨_, _, h⟩ hn
theorem GapsRead.no {T : TypeId} {w w' : World} {b : Nat} {s : ByteArray} {many : Int} {e : Ending} (k : GapsRead T w b s false many e w') (h : ¬ ∃ l r, GapsAt s.data.toList many l r) :
    ∃ v s', e = .returned v ∧ BoolsIn w' v [] ∧ Fresh w.heap.size v ∧ TapeIn T w' b s' true ∧ w.grownBy w' (some b) ∧ (true = false → s' = ⟨#[]⟩) := by
  rcases k with ⟨v, l', r', _, _, hS, _⟩ | ⟨s0, he, hT', hg, _⟩
  · exact absurd ⟨_, _, hS⟩ h
  · exact ⟨_, s0, he, SliceOf.nil_ _ _ _ _, fresh_nil _, hT', hg, fun h => absurd h (by decide)⟩
theorem gaps_both (s : ByteArray) (many : Int) : ∃ l r bad, l.length ≤ 4096 ∧ (∀ b, ReadsBools Try.prog 36 17 [.int .i64 many] b s l r bad) ∧
    ∀ b, ReadsBools Try.prog 38 18 [.int .i64 many] b s l r bad := by
  by_cases h : ∃ l r, GapsAt s.data.toList many l r
  · obtain ⟨l, r, h⟩ := h
    exact ⟨l, mkB r, false, by have := h.2.2.1; have := h.2.1; omega, fun b w hT => (gaps_read_calls b s false many w hT).mono fun _ _ k => k.yes h, fun b w hT => (ref_gaps_read_calls b s false many w hT).mono fun _ _ k => k.yes h⟩
  · exact ⟨[], ⟨#[]⟩, true, by simp, fun b w hT => (gaps_read_calls b s false many w hT).mono fun _ _ k => k.no h, fun b w hT => (ref_gaps_read_calls b s false many w hT).mono fun _ _ k => k.no h⟩
theorem gaps_at (l : List Bool) (hl : l.length ≤ 4096) (more : ByteArray) : GapsAt (gapsT l ++ more).data.toList l.length l more.data.toList :=
  ⟨by omega, by omega, rfl, by rw [data_append]; rfl⟩

/-- Are cells few, and short? -/
def smallL (l : List ByteArray) : Bool := l.all (fun c => decide (c.size ≤ 200)) && decide (l.length ≤ 300)
theorem smallL_of {l : List ByteArray} (h : smallL l = true) : l.length ≤ 300 ∧ ∀ c ∈ l, c.size ≤ 200 := by
  unfold smallL at h
  rw [Bool.and_eq_true, List.all_eq_true, decide_eq_true_eq] at h
  exact ⟨h.2, fun c hc => by have := h.1 c hc; rwa [decide_eq_true_eq] at this⟩

set_option maxHeartbeats 400000 in
theorem small_calls {w : World} {v : Value} {l : List ByteArray} (h : StrsIn w v l) : Reads Try.prog 7 #[v] w (.bool (smallL l)) := by
  have hm := h.len
  unfold maxLen at hm
  obtain ⟨A, cap, rfl, hat⟩ := one_at h
  have HAT := Lib.hid hat
  clear h hat
  unfold Reads
  go_enter Try.func7, Try.ntmps7
  go_wp2
  go_loop [3] (fun i => ∃ k : Nat, k ≤ l.length ∧ i = .int .i64 k ∧ Hid (∀ c ∈ l.take k, c.size ≤ 200)) (fun i => l.length - (intOf i).toNat)
  case atStart => exact ⟨0, Nat.zero_le _, rfl, fun c hc => absurd hc (by simp)⟩
  case round =>
    obtain ⟨k, hk, rfl, HS⟩ := hrel
    by_cases hlt : k < l.length
    · obtain ⟨b, off, rfl, hbl, hc⟩ := HAT.out k hlt
      have hx := hc k hlt
      have HT := Lib.hid (take_add l k hlt)
      have HM := Lib.hid (List.getElem_mem hlt)
      clear hc
      by_cases hz : l[k].size ≤ 200
      · have d1 : decide (200 < (l[k].size : Int)) = false := by rw [decide_eq_false_iff_not]; omega
        go_wp2
        go_round
        case rel => exact ⟨k + 1, by omega, by go_num, fun c hc => by
          rw [HT.out] at hc
          rcases List.mem_append.1 hc with hc | hc
          · exact HS.out c hc
          · rw [List.mem_singleton] at hc; rw [hc]; exact hz⟩
        case measure => simp [intOf]; omega
      · have d1 : decide (200 < (l[k].size : Int)) = true := by rw [decide_eq_true_eq]; omega
        have HD : Hid (smallL l = false) := by
          show _ = _
          cases hs : smallL l with
          | false => rfl
          | true => exact absurd ((smallL_of hs).2 _ HM.out) hz
        go_wp2
        go_ret
        exact ⟨ret_bool HD.out.symm, rfl⟩
    · obtain rfl : k = l.length := by omega
      have HD : Hid (decide ((l.length : Int) ≤ 300) = smallL l) := by
        show _ = _
        have h1 : l.all (fun c => decide (c.size ≤ 200)) = true := by
          rw [List.all_eq_true]
          intro c hc
          rw [decide_eq_true_eq]
          exact HS.out c (by rw [List.take_length]; exact hc)
        unfold smallL
        rw [h1, Bool.true_and]
        congr 1
        rw [eq_iff_iff]
        omega
      go_wp2
      go_ret
      exact ⟨ret_bool HD.out, rfl⟩

theorem strs_nil (w : World) : StrsIn w (.slice none 0 0) [] := SliceOf.nil_ _ _ _ _
theorem bools_nil (w : World) : BoolsIn w (.slice none 0 0) [] := SliceOf.nil_ _ _ _ _
theorem aw_is : isL [⟨#[]⟩, ⟨#[116, 97]⟩, ⟨#[]⟩, ⟨#[]⟩] = [false, true, false, false] := by decide
theorem aw_full : fullL [⟨#[]⟩, ⟨#[116, 97]⟩, ⟨#[]⟩, ⟨#[]⟩] = [⟨#[116, 97]⟩] := by decide
theorem aw_gaps : gapsP [false, true, false, false] = [0, 1, 1, 2] := by
  unfold gapsP
  rw [show lensOf [false, true, false, false] = [0, 1, 1, 2] by rfl]
  simp only [gapsB, List.flatMap_cons, List.flatMap_nil]
  rw [vp_small (by decide), vp_small (by decide), vp_small (by decide)]; rfl
theorem aw_nil : gapsT [] = ⟨#[0]⟩ := by
  unfold gapsT gapsP
  rw [show lensOf [] = [0] by rfl]
  simp only [gapsB, List.flatMap_cons, List.flatMap_nil]
  rw [vp_small (by decide)]; rfl
theorem aw_print : gapsT [false, true, false, false] = ⟨#[0, 1, 1, 2]⟩ := by unfold gapsT; rw [aw_gaps]; rfl
theorem aw_none : ¬ ∃ l r, GapsAt (⟨#[1, 0, 3]⟩ : ByteArray).data.toList 4 l r := by
  rintro ⟨l, r, h⟩
  obtain ⟨m, rest, hm, e, _, h1⟩ := gaps_more (ls := [1]) (cur := [0, 3]) (.inr ⟨1, [], rfl, by simp⟩) (by simp only [gapsB, List.flatMap_cons, List.flatMap_nil]; rw [vp_small (by decide)]; rfl) (.inr (by simp [sumN])) h
  have h2 : vp 0 ++ [3] = vp m ++ rest := by rw [← e, vp_small (by decide)]; rfl
  have := (vp_front (by decide) hm h2).1
  have := h1 (by simp)
  omega

set_option maxHeartbeats 4000000 in
set_option maxRecDepth 100000 in
theorem awake_calls : Gives Try.prog 8 #[] (.bool true) := by
  intro w
  obtain ⟨hb, hB⟩ := start w
  have e0 : (⟨#[0, 1, 1, 2]⟩ : ByteArray) ++ ⟨#[120]⟩ = ⟨#[0, 1, 1, 2, 120]⟩ := bytes_ext (by rw [data_append]; rfl)
  have e1 : (⟨#[0, 1, 1, 2]⟩ : ByteArray).toList = [0, 1, 1, 2] := by rw [ByteArray.toList_eq]
  have e2 : (⟨#[120]⟩ : ByteArray).toList = [120] := by rw [ByteArray.toList_eq]
  have e3 : (⟨#[0]⟩ : ByteArray).toList = [0] := by rw [ByteArray.toList_eq]
  go_enter Try.func8, Try.ntmps8
  go_wp2_with fail
  have hm : StrsIn (w.alloc (.cells #[.string ⟨#[]⟩, .string ⟨#[116, 97]⟩, .string ⟨#[]⟩, .string ⟨#[]⟩] 9)) (.slice (some ⟨w.heap.size, 0, none⟩) 4 4) [⟨#[]⟩, ⟨#[116, 97]⟩, ⟨#[]⟩, ⟨#[]⟩] := lit_strs w 9 [⟨#[]⟩, ⟨#[116, 97]⟩, ⟨#[]⟩, ⟨#[]⟩] (by decide)
  have hs := split_calls hm (by decide)
  unfold SplitEnd at hs
  rw [aw_is, aw_full] at hs
  refine hs.mono ?_
  rintro e w1 ⟨v1, v2, rfl, hi, hl, hq⟩
  replace hb := hb.trans ((lit_below hq).mono hB)
  replace hB := hb.size
  clear hm hs hq
  go_wp2_with fail
  have hs := join_calls hi hl (by decide) (by decide)
  unfold JoinEnd at hs
  rw [show joinOk [false, true, false, false] [⟨#[116, 97]⟩] = true by decide, show joinL [false, true, false, false] [⟨#[116, 97]⟩] = [⟨#[]⟩, ⟨#[116, 97]⟩, ⟨#[]⟩, ⟨#[]⟩] by decide] at hs
  refine hs.mono ?_
  rintro e w2 ⟨v3, rfl, hm2, hq⟩
  replace hb := hb.trans (hq.mono hB)
  replace hB := hb.size
  replace hi := BoolsIn.kept hi hq
  replace hl := StrsIn.kept hl hq
  clear hs hq
  go_wp2_with fail
  have hs := join_calls hi (strs_nil w2) (by decide) (by decide)
  unfold JoinEnd at hs
  rw [show joinOk [false, true, false, false] [] = false by decide] at hs
  refine hs.mono ?_
  rintro e w3 ⟨v4, rfl, _, hq⟩
  replace hb := hb.trans (hq.mono hB)
  replace hB := hb.size
  replace hi := BoolsIn.kept hi hq
  replace hl := StrsIn.kept hl hq
  replace hm2 := StrsIn.kept hm2 hq
  clear hs hq
  go_wp2_with fail
  have hk : StrsIn (w3.alloc (.cells #[.string ⟨#[116, 97]⟩, .string ⟨#[116, 98]⟩] 9)) (.slice (some ⟨w3.heap.size, 0, none⟩) 2 2) [⟨#[116, 97]⟩, ⟨#[116, 98]⟩] := lit_strs w3 9 [⟨#[116, 97]⟩, ⟨#[116, 98]⟩] (by decide)
  have hs := join_calls (BoolsIn.kept hi (Below.alloc (.refl _ w3) (Nat.le_refl _) _)) hk (by decide) (by decide)
  unfold JoinEnd at hs
  rw [show joinOk [false, true, false, false] [⟨#[116, 97]⟩, ⟨#[116, 98]⟩] = false by decide] at hs
  refine hs.mono ?_
  rintro e w4 ⟨v5, rfl, _, hq⟩
  replace hq := lit_below hq
  replace hb := hb.trans (hq.mono hB)
  replace hB := hb.size
  replace hi := BoolsIn.kept hi hq
  replace hl := StrsIn.kept hl hq
  replace hm2 := StrsIn.kept hm2 hq
  clear hs hq hk
  go_wp2_with fail
  have hs := gaps_print_calls hi (by decide)
  rw [aw_print] at hs
  refine hs.stepB (w0 := w) (B := w.heap.size) hb hB ?_
  clear hb hB hs
  intro w5 hb hB hq
  replace hi := BoolsIn.kept hi hq
  replace hl := StrsIn.kept hl hq
  replace hm2 := StrsIn.kept hm2 hq
  clear hq
  go_wp2_with fail
  refine (gaps_read_calls w5.heap.size ⟨#[0, 1, 1, 2, 120]⟩ false 4 _ (box_tape w5 _ _ _)).mono ?_
  intro e w6 h
  obtain ⟨v6, s6, rfl, hx, _, hT6, hg, hs6⟩ := h.yes (l := [false, true, false, false]) (r := [120]) ⟨by decide, by decide, rfl, by rw [aw_gaps]; rfl⟩
  obtain rfl := hs6 rfl
  have hq := boxed_below hg
  replace hb := hb.trans (hq.mono hB)
  replace hB := hb.size
  replace hi := BoolsIn.kept hi hq
  replace hl := StrsIn.kept hl hq
  replace hm2 := StrsIn.kept hm2 hq
  clear hq hg h hs6
  go_wp2_with fail
  refine (gaps_read_calls w6.heap.size ⟨#[1, 0, 3]⟩ false 4 _ (box_tape w6 _ _ _)).mono ?_
  intro e w7 h
  obtain ⟨v7, s7, rfl, hy, _, hT7, hg, _⟩ := h.no aw_none
  have hq := boxed_below hg
  replace hb := hb.trans (hq.mono hB)
  replace hB := hb.size
  replace hi := BoolsIn.kept hi hq
  replace hl := StrsIn.kept hl hq
  replace hm2 := StrsIn.kept hm2 hq
  replace hx := BoolsIn.kept hx hq
  replace hT6 := hT6.kept hq
  clear hq hg h
  obtain ⟨A2, d2, rfl, _⟩ := one_at hl
  obtain ⟨A7, d7, rfl, _⟩ := one_at hy
  go_wp2_with fail
  have hk : StrsIn (w7.alloc (.cells #[.string ⟨#[]⟩, .string ⟨#[116, 97]⟩, .string ⟨#[]⟩, .string ⟨#[]⟩] 9)) (.slice (some ⟨w7.heap.size, 0, none⟩) 4 4) [⟨#[]⟩, ⟨#[116, 97]⟩, ⟨#[]⟩, ⟨#[]⟩] := lit_strs w7 9 [⟨#[]⟩, ⟨#[116, 97]⟩, ⟨#[]⟩, ⟨#[]⟩] (by decide)
  have hs := same_strs (StrsIn.kept hm2 (Below.alloc (.refl _ w7) (Nat.le_refl _) _)) hk (by decide) (by decide)
  rw [decide_eq_true rfl] at hs
  refine hs.stepB (w0 := w) (B := w.heap.size) (below_alloc hb hB _).1 (below_alloc hb hB _).2 ?_
  clear hb hB hs hk
  intro w8 hb hB hq
  replace hq := lit_below hq
  replace hi := BoolsIn.kept hi hq
  replace hx := BoolsIn.kept hx hq
  replace hT6 := hT6.kept hq
  replace hT7 := hT7.kept hq
  clear hq hm2 hl hy
  go_wp2_with fail
  have hs := gaps_print_calls hi (by decide)
  rw [aw_print] at hs
  refine hs.stepB (w0 := w) (B := w.heap.size) hb hB ?_
  clear hb hB hs
  intro w9 hb hB hq
  replace hi := BoolsIn.kept hi hq
  replace hx := BoolsIn.kept hx hq
  replace hT6 := hT6.kept hq
  replace hT7 := hT7.kept hq
  clear hq
  go_wp2_with fail
  have hs := gaps_print_calls (bools_nil w9) (by decide)
  rw [aw_nil] at hs
  refine hs.stepB (w0 := w) (B := w.heap.size) hb hB ?_
  clear hb hB hs
  intro w10 hb hB hq
  replace hi := BoolsIn.kept hi hq
  replace hx := BoolsIn.kept hx hq
  replace hT6 := hT6.kept hq
  replace hT7 := hT7.kept hq
  clear hq
  go_wp2_with fail
  have hs := same_bools hx hi (by decide) (by decide)
  rw [decide_eq_true rfl] at hs
  refine hs.stepB (w0 := w) (B := w.heap.size) hb hB ?_
  clear hb hB hs
  intro w11 hb hB hq
  have t1 := (hT6.kept hq).c0
  have t2 := (hT7.kept hq).c1
  have e4 : mkB [120] = ⟨#[120]⟩ := rfl
  rw [e4] at t1
  clear hi hx hT6 hT7 hq
  go_wp2
  go_ret
  exact ⟨rfl, hb⟩
end Go.Proofs.Ytclkkffeaabloaa
