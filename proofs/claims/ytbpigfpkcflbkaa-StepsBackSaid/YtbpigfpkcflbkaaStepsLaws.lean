/- The walk of the document's examples of layer 6, and of 'small'. -/
import Derived.Test.YtbpigfpkcflbkaaStepsReadRef
import Derived.Test.YtbpigfpkcflbkaaSame
import Derived.Test.YtbpigfpkcflbkaaReadsKit
namespace Go.Proofs.Ytbpigfpkcflbkaa
open Go Go.RowKit

theorem steps_read_some (b : Nat) (s : ByteArray) {many : Int} {xs : List Int} {r : List UInt8} (h : StepsAt s.data.toList many xs r) :
    TakesStrs Try.prog 27 8 [.int .i64 many] b s (xs.map cellInt) (mkB r) := by
  intro w hT
  refine Calls.mono (steps_read_calls b s false many w hT) ?_
  rintro e w' (⟨v, xs', r', he, _, hS, hi, hf, hT', hg⟩ | ⟨s0, _, _, _, hn⟩)
  · obtain ⟨rfl, rfl⟩ := h.same hS
    exact ⟨v, he, hi, hf, hT', hg⟩
  · rcases hn with hn | hn
    · exact absurd hn (by decide)
    · exact absurd ⟨_, _, h⟩ hn
theorem steps_read_none (b : Nat) (s : ByteArray) (many : Int) (h : ¬ ∃ l r, StepsAt s.data.toList many l r) :
    TakesNone Try.prog 27 8 [.int .i64 many] b s false (.slice none 0 0) := by
  intro w hT
  refine Calls.mono (steps_read_calls b s false many w hT) ?_
  rintro e w' (⟨v, xs', r', _, _, hS, _⟩ | ⟨s0, he, hT', hg, _⟩)
  · exact absurd ⟨_, _, hS⟩ h
  · exact ⟨s0, he, hT', hg⟩
theorem ref_steps_read_some (b : Nat) (s : ByteArray) {many : Int} {xs : List Int} {r : List UInt8} (h : StepsAt s.data.toList many xs r) :
    TakesStrs Try.prog 29 9 [.int .i64 many] b s (xs.map cellInt) (mkB r) := by
  intro w hT
  refine Calls.mono (ref_steps_read_calls b s false many w hT) ?_
  rintro e w' (⟨v, xs', r', he, _, hS, hi, hf, hT', hg⟩ | ⟨s0, _, _, _, hn⟩)
  · obtain ⟨rfl, rfl⟩ := h.same hS
    exact ⟨v, he, hi, hf, hT', hg⟩
  · rcases hn with hn | hn
    · exact absurd hn (by decide)
    · exact absurd ⟨_, _, h⟩ hn
theorem ref_steps_read_none (b : Nat) (s : ByteArray) (many : Int) (h : ¬ ∃ l r, StepsAt s.data.toList many l r) :
    TakesNone Try.prog 29 9 [.int .i64 many] b s false (.slice none 0 0) := by
  intro w hT
  refine Calls.mono (ref_steps_read_calls b s false many w hT) ?_
  rintro e w' (⟨v, xs', r', _, _, hS, _⟩ | ⟨s0, he, hT', hg, _⟩)
  · exact absurd ⟨_, _, hS⟩ h
  · exact ⟨s0, he, hT', hg⟩
theorem steps_both (s : ByteArray) (many : Int) : ∃ l r bad, l.length ≤ 4096 ∧ (∀ b, ReadsStrs Try.prog 27 8 [.int .i64 many] b s l r bad) ∧
    ∀ b, ReadsStrs Try.prog 29 9 [.int .i64 many] b s l r bad := by
  by_cases h : ∃ l r, StepsAt s.data.toList many l r
  · obtain ⟨l, r, h⟩ := h
    exact ⟨l.map cellInt, mkB r, false, by rw [List.length_map]; have := h.2.2.1; have := h.2.1; omega, fun b => (steps_read_some b s h).reads, fun b => (ref_steps_read_some b s h).reads⟩
  · exact ⟨[], ⟨#[]⟩, true, by simp, fun b => (steps_read_none b s many h).reads, fun b => (ref_steps_read_none b s many h).reads⟩
theorem steps_at (l : List Int) (hl : l.length ≤ 4096) (hr : InR l) (more : ByteArray) : StepsAt (stepsT l ++ more).data.toList l.length l more.data.toList :=
  ⟨by omega, by omega, rfl, hr, by rw [data_append]; rfl⟩

/-- Are cells few, and short? -/
def smallL (l : List ByteArray) : Bool := l.all (fun c => decide (c.size ≤ 200)) && decide (l.length ≤ 300)
theorem smallL_of {l : List ByteArray} (h : smallL l = true) : l.length ≤ 300 ∧ ∀ c ∈ l, c.size ≤ 200 := by
  unfold smallL at h
  rw [Bool.and_eq_true, List.all_eq_true, decide_eq_true_eq] at h
  exact ⟨h.2, fun c hc => by have := h.1 c hc; rwa [decide_eq_true_eq] at this⟩

set_option maxHeartbeats 400000 in
theorem small_calls {w : World} {v : Value} {l : List ByteArray} (h : StrsIn w v l) : Reads Try.prog 6 #[v] w (.bool (smallL l)) := by
  have hm := h.len
  unfold maxLen at hm
  obtain ⟨A, cap, rfl, hat⟩ := one_at h
  have HAT := Lib.hid hat
  clear h hat
  unfold Reads
  go_enter Try.func6, Try.ntmps6
  go_wp2
  go_loop [3] (fun i => ∃ k : Nat, k ≤ l.length ∧ i = .int .i64 k ∧ Hid (∀ c ∈ l.take k, c.size ≤ 200)) (fun i => l.length - (intOf i).toNat)
  case atStart => exact ⟨0, Nat.zero_le _, rfl, fun c hc => absurd hc (by simp)⟩
  case round =>
    obtain ⟨k, hk, rfl, HS⟩ := hrel
    by_cases hlt : k < l.length
    · obtain ⟨b, off, rfl, hbl, hc⟩ := HAT.out k hlt
      have hx := hc k hlt
      have HT := Lib.hid (take_add l k hlt)
      have HM := Lib.hid (List.getElem_mem hlt)
      clear hc
      by_cases hz : l[k].size ≤ 200
      · have d1 : decide (200 < (l[k].size : Int)) = false := by rw [decide_eq_false_iff_not]; omega
        go_wp2
        go_round
        case rel => exact ⟨k + 1, by omega, by go_num, fun c hc => by
          rw [HT.out] at hc
          rcases List.mem_append.1 hc with hc | hc
          · exact HS.out c hc
          · rw [List.mem_singleton] at hc; rw [hc]; exact hz⟩
        case measure => simp [intOf]; omega
      · have d1 : decide (200 < (l[k].size : Int)) = true := by rw [decide_eq_true_eq]; omega
        have HD : Hid (smallL l = false) := by
          show _ = _
          cases hs : smallL l with
          | false => rfl
          | true => exact absurd ((smallL_of hs).2 _ HM.out) hz
        go_wp2
        go_ret
        exact ⟨ret_bool HD.out.symm, rfl⟩
    · obtain rfl : k = l.length := by omega
      have HD : Hid (decide ((l.length : Int) ≤ 300) = smallL l) := by
        show _ = _
        have h1 : l.all (fun c => decide (c.size ≤ 200)) = true := by
          rw [List.all_eq_true]
          intro c hc
          rw [decide_eq_true_eq]
          exact HS.out c (by rw [List.take_length]; exact hc)
        unfold smallL
        rw [h1, Bool.true_and]
        congr 1
        rw [eq_iff_iff]
        omega
      go_wp2
      go_ret
      exact ⟨ret_bool HD.out, rfl⟩

theorem cell_kept {w w' : World} {a : Addr} {v : Value} (h : w.cell? a = some v) (hb : Below w.heap.size w w') : w'.cell? a = some v := (hb.cell (block_lt_of_cell h)).trans h
theorem box_lit {w wb w' : World} {o : Obj} {B : Nat} (h : Below B wb w) (hB : B ≤ w.heap.size) (hk : Below (w.alloc o).heap.size (w.alloc o) w') : Below B wb w' := h.trans ((lit_below hk).mono hB)
theorem lit_strs (w : World) (T : TypeId) (l : List ByteArray) (h : l.length ≤ 1000) : StrsIn (w.alloc (.cells (l.map Value.string).toArray T)) (.slice (some ⟨w.heap.size, 0, none⟩) l.length l.length) l := lit_ones Value.string w T l h
theorem step_200 : vp (stepN 0 100) = [200, 1] := by
  rw [show stepN 0 100 = 200 by unfold stepN wrap64 foldI; decide, vp_great (by decide), vp_small (by decide)]; rfl
theorem step_2 : vp (stepN 100 101) = [2] := by
  rw [show stepN 100 101 = 2 by unfold stepN wrap64 foldI; decide, vp_small (by decide)]; rfl
theorem step_3 : vp (stepN 101 99) = [3] := by
  rw [show stepN 101 99 = 3 by unfold stepN wrap64 foldI; decide, vp_small (by decide)]; rfl
theorem aw_range : InR [100, 101, 99] := by
  intro x hx
  simp only [List.mem_cons, List.not_mem_nil, or_false] at hx
  rcases hx with rfl | rfl | rfl <;> decide
theorem aw_steps : stepsP [100, 101, 99] = [200, 1, 2, 3] := by
  unfold stepsP
  simp only [stepsB]
  rw [step_200, step_2, step_3]; rfl
theorem aw_print : stepsG [cellInt 100, cellInt 101, cellInt 99] = ⟨#[200, 1, 2, 3]⟩ := by
  obtain ⟨h1, h2⟩ := nums_ints aw_range
  unfold stepsG stepsT
  rw [show [cellInt 100, cellInt 101, cellInt 99] = [100, 101, 99].map cellInt from rfl, h1, h2, aw_steps]; rfl
theorem aw_may : mayL [cellInt 100, cellInt 101, cellInt 99] = true := (nums_ints aw_range).2
theorem aw_ta : mayL [⟨#[116, 97]⟩] = false := rfl
theorem aw_empty : mayL [⟨#[]⟩] = false := rfl
theorem aw_print_ta : stepsG [⟨#[116, 97]⟩] = ⟨#[]⟩ := by unfold stepsG; rw [aw_ta]; rfl
theorem aw_read (b : Nat) : TakesStrs Try.prog 27 8 [.int .i64 3] b ⟨#[200, 1, 2, 3, 120]⟩ [cellInt 100, cellInt 101, cellInt 99] ⟨#[120]⟩ :=
  steps_read_some b _ (xs := [100, 101, 99]) (r := [120]) ⟨by decide, by decide, rfl, aw_range, by rw [aw_steps]; rfl⟩
theorem aw_none (b : Nat) : TakesNone Try.prog 27 8 [.int .i64 2] b ⟨#[2]⟩ false (.slice none 0 0) := by
  refine steps_read_none b _ 2 ?_
  rintro ⟨l, r, _, _, hl, _, hs⟩
  match l, hl, hs with
  | [x, y], _, hs =>
    have h : 1 = (stepsP [x, y] ++ r).length := congrArg List.length hs
    unfold stepsP at h
    simp only [stepsB, List.length_append, List.length_nil] at h
    have h1 := vp_pos (stepN 0 x)
    have h2 := vp_pos (stepN x y)
    omega

set_option maxHeartbeats 4000000 in
set_option maxRecDepth 100000 in
theorem awake_calls : Gives Try.prog 7 #[] (.bool true) := by
  intro w
  obtain ⟨hb, hB⟩ := start w
  have e0 : (⟨#[200, 1, 2, 3]⟩ : ByteArray) ++ ⟨#[120]⟩ = ⟨#[200, 1, 2, 3, 120]⟩ := bytes_ext (by rw [data_append]; rfl)
  have e1 : (⟨#[200, 1, 2, 3]⟩ : ByteArray).toList = [200, 1, 2, 3] := by rw [ByteArray.toList_eq]
  have e2 : (⟨#[120]⟩ : ByteArray).toList = [120] := by rw [ByteArray.toList_eq]
  have e3 : (⟨#[]⟩ : ByteArray).toList = [] := by rw [ByteArray.toList_eq]
  have I1 := Lib.hid (int_calls 100 (by decide) (by decide))
  have I2 := Lib.hid (int_calls 101 (by decide) (by decide))
  have I3 := Lib.hid (int_calls 99 (by decide) (by decide))
  have HG := Lib.hid aw_print
  have HM := Lib.hid aw_may
  have HR := Lib.hid aw_read
  generalize cellInt 100 = c1 at *
  generalize cellInt 101 = c2 at *
  generalize cellInt 99 = c3 at *
  go_enter Try.func7, Try.ntmps7
  go_wp2_with (first | (go_at_call_of 15 (Value.int .i64 100); refine I1.out.step (w0 := w) (B := w.heap.size) hb hB ?_; clear hb hB; intro w1 hb hB) | (go_at_call_of 15 (Value.int .i64 101); refine I2.out.step (w0 := w) (B := w.heap.size) hb hB ?_; clear hb hB; intro w2 hb hB) | (go_at_call_of 15 (Value.int .i64 99); refine I3.out.step (w0 := w) (B := w.heap.size) hb hB ?_; clear hb hB; intro w3 hb hB))
  have hm : StrsIn (w3.alloc (.cells #[.string c1, .string c2, .string c3] 9)) (.slice (some ⟨w3.heap.size, 0, none⟩) 3 3) [c1, c2, c3] := lit_strs w3 9 [c1, c2, c3] (by show 3 ≤ 1000; decide)
  replace hb := (below_alloc hb hB (.cells #[.string c1, .string c2, .string c3] 9)).1
  replace hB := hb.size
  generalize Value.slice (some ⟨w3.heap.size, 0, none⟩) 3 3 = vm at *
  generalize w3.alloc (.cells #[.string c1, .string c2, .string c3] 9) = w4 at *
  have hp := steps_print_calls hm (by show 3 ≤ 1000000; decide)
  rw [HG.out] at hp
  refine hp.stepB (w0 := w) (B := w.heap.size) hb hB ?_
  clear hb hB hp
  intro w5 hb hB hk
  replace hm := StrsIn.kept hm hk
  clear hk
  go_wp2_with (go_at_call 8; refine (HR.out _).stepB (w0 := w) (B := w.heap.size) (box_tape w5 _ _ _) (below_alloc hb hB _).1 (below_alloc hb hB _).2 (by go_size) ?_)
  clear hb hB
  intro v1 w6 hi1 _ hT1 hb hB hg
  have hk := boxed_below hg
  replace hm := StrsIn.kept hm hk
  clear hk hg
  obtain ⟨A1, d1, rfl, _⟩ := one_at hi1
  go_wp2_with fail
  refine (aw_none _ _ (box_tape w6 _ _ _)).mono ?_
  rintro e w7 ⟨s7, rfl, hT2, hg⟩
  have hk := boxed_below hg
  replace hb := hb.trans (hk.mono hB)
  replace hB := hb.size
  replace hm := StrsIn.kept hm hk
  replace hi1 := StrsIn.kept hi1 hk
  replace hT1 := hT1.kept hk
  clear hk hg
  go_wp2_with fail
  have hq := may_calls hm
  rw [HM.out] at hq
  refine hq.stepB (w0 := w) (B := w.heap.size) hb hB ?_
  clear hb hB hq
  intro w8 hb hB hk
  replace hm := StrsIn.kept hm hk
  replace hi1 := StrsIn.kept hi1 hk
  replace hT1 := hT1.kept hk
  replace hT2 := hT2.kept hk
  clear hk
  go_wp2_with fail
  have hl : StrsIn (w8.alloc (.cells #[.string ⟨#[116, 97]⟩] 9)) (.slice (some ⟨w8.heap.size, 0, none⟩) 1 1) [⟨#[116, 97]⟩] := lit_strs w8 9 [⟨#[116, 97]⟩] (by decide)
  have hq := may_calls hl
  rw [aw_ta] at hq
  refine hq.stepB (w0 := w) (B := w.heap.size) (below_alloc hb hB _).1 (below_alloc hb hB _).2 ?_
  clear hb hB hq hl
  intro w9 hb hB hk
  replace hk := lit_below hk
  replace hm := StrsIn.kept hm hk
  replace hi1 := StrsIn.kept hi1 hk
  replace hT1 := hT1.kept hk
  replace hT2 := hT2.kept hk
  clear hk
  go_wp2_with fail
  have hl : StrsIn (w9.alloc (.cells #[.string ⟨#[]⟩] 9)) (.slice (some ⟨w9.heap.size, 0, none⟩) 1 1) [⟨#[]⟩] := lit_strs w9 9 [⟨#[]⟩] (by decide)
  have hq := may_calls hl
  rw [aw_empty] at hq
  refine hq.stepB (w0 := w) (B := w.heap.size) (below_alloc hb hB _).1 (below_alloc hb hB _).2 ?_
  clear hb hB hq hl
  intro w10 hb hB hk
  replace hk := lit_below hk
  replace hm := StrsIn.kept hm hk
  replace hi1 := StrsIn.kept hi1 hk
  replace hT1 := hT1.kept hk
  replace hT2 := hT2.kept hk
  clear hk
  go_wp2_with fail
  have hq := steps_print_calls hm (by show 3 ≤ 1000000; decide)
  rw [HG.out] at hq
  refine hq.stepB (w0 := w) (B := w.heap.size) hb hB ?_
  clear hb hB hq
  intro w11 hb hB hk
  replace hm := StrsIn.kept hm hk
  replace hi1 := StrsIn.kept hi1 hk
  replace hT1 := hT1.kept hk
  replace hT2 := hT2.kept hk
  clear hk
  go_wp2_with fail
  have hs := same_strs hi1 hm (by show 3 ≤ 1000000; decide) (by show 3 ≤ 1000000; decide)
  rw [decide_eq_true rfl] at hs
  refine hs.stepB (w0 := w) (B := w.heap.size) hb hB ?_
  clear hb hB hs
  intro w12 hb hB hk
  have t1 := (hT1.kept hk).c0
  have t2 := (hT2.kept hk).c1
  clear hm hi1 hT1 hT2 hk
  go_wp2_with fail
  have hl : StrsIn (w12.alloc (.cells #[.string ⟨#[116, 97]⟩] 9)) (.slice (some ⟨w12.heap.size, 0, none⟩) 1 1) [⟨#[116, 97]⟩] := lit_strs w12 9 [⟨#[116, 97]⟩] (by decide)
  have hq := steps_print_calls hl (by decide)
  rw [aw_print_ta] at hq
  refine hq.step (w0 := w) (B := w.heap.size) (below_alloc hb hB _).1 (below_alloc hb hB _).2 ?_
  clear hb hB hq hl
  intro w13 hb hB
  go_wp2
  go_ret
  exact ⟨rfl, hb⟩
end Go.Proofs.Ytbpigfpkcflbkaa
