/- The law ShapeOrder. -/
import Derived.Test.YtilnioloeijfhaaShapeLaws
import Derived.Test.YtilnioloeijfhaaOwnStep
namespace Go.Proofs.Ytilnioloeijfhaa
open Go Go.RowKit

/-- What is known of three rows in order. -/
def Ordered (x y z r : Int) (same : Bool) : Prop :=
  (x = -1 ∧ r = 1 ∧ same = false ∧ y = -1 ∧ z = -1) ∨ (x = -1 ∧ r = 1 ∧ same = false ∧ (y == -1) = false ∧ ¬ y = -1) ∨ (x = 0 ∧ r = 0 ∧ same = true) ∨ (x = 1 ∧ r = -1 ∧ same = false)
theorem ordered (a b c : List ByteArray) : Ordered (cmpL a b) (cmpL b c) (cmpL a c) (cmpL b a) (decide (a = b)) := by
  have h := cmpL_range a b
  have hz := cmpL_zero a b
  have hs := cmpL_swap a b
  have hc := cmpL_chain a b c
  have hd : ∀ n : Int, n ≠ 0 → cmpL a b = n → decide (a = b) = false := by
    intro n hn e
    rw [decide_eq_false_iff_not]
    intro k
    rw [hz.2 k] at e; exact hn e.symm
  by_cases h1 : cmpL a b = -1
  · have hr : cmpL b a = 1 := by rw [hs, h1]; rfl
    by_cases h2 : cmpL b c = -1
    · exact .inl ⟨h1, hr, hd _ (by decide) h1, h2, hc h1 h2⟩
    · exact .inr (.inl ⟨h1, hr, hd _ (by decide) h1, by rw [beq_eq_false_iff_ne]; exact h2, h2⟩)
  · by_cases h2 : cmpL a b = 0
    · exact .inr (.inr (.inl ⟨h2, by rw [hs, h2]; rfl, by rw [decide_eq_true_eq]; exact hz.1 h2⟩))
    · have h3 : cmpL a b = 1 := by omega
      exact .inr (.inr (.inr ⟨h3, by rw [hs, h3], hd _ (by decide) h3⟩))

set_option maxHeartbeats 4000000 in
set_option maxRecDepth 100000 in
theorem shapeOrder_short {w : World} {va vb vc : Value} {a b c : List ByteArray} (ha : StrsIn w va a) (hb' : StrsIn w vb b) (hc : StrsIn w vc c) (sa : smallL a = true) (sb : smallL b = true) (sc : smallL c = true) :
    GivesAt Try.prog 4 #[va, vb, vc] w (.bool true) := by
  obtain ⟨i0, hi, hz0, hz1, hz2⟩ := info_parts Try.infoP9
  obtain ⟨hb, hB⟩ := start w
  have hsa := small_calls ha
  have hsb := small_calls hb'
  have hsc := small_calls hc
  rw [sa] at hsa
  rw [sb] at hsb
  rw [sc] at hsc
  have la := (smallL_of sa).1
  have lb := (smallL_of sb).1
  have lc := (smallL_of sc).1
  have HO := Lib.hid (ordered a b c)
  have k1 := compare_calls ha hb'
  have k2 := compare_calls hb' hc
  have k3 := compare_calls ha hc
  have HAP := Lib.hid (cmpL_append c a b)
  clear sa sb sc
  obtain ⟨A1, p1, rfl, _⟩ := one_at ha
  obtain ⟨A2, p2, rfl, _⟩ := one_at hb'
  obtain ⟨A3, p3, rfl, _⟩ := one_at hc
  unfold GivesAt
  go_enter Try.func4, Try.ntmps4
  go_wp2_with fail
  refine hsa.step ?_
  clear hsa
  go_wp2_with fail
  refine hsb.step ?_
  clear hsb
  go_wp2_with fail
  refine hsc.step ?_
  clear hsc
  go_wp2_with fail
  refine k1.step ?_
  clear k1
  go_wp2_with fail
  refine k2.step ?_
  clear k2
  go_wp2_with fail
  refine k3.step ?_
  clear k3
  go_wp2_with (at_builtin; refine wpList_append_src rfl (.tmp 35) (.tmp 36) 22 rfl 9 i0 (.string ⟨#[]⟩) 1 16 Try.underlying22 hi hz0 hz1 hz2 rfl (by decide) (B := w.heap.size) _ 0 [] rfl (own_empty 1 (Nat.le_refl _) (by simp)) _ c.length (c.map Value.string) rfl (SliceOf.alloc hc _) (one_texts _) (by unfold maxLen; omega) (by omega) (by simp) ?_)
  intro v7 w7 hO7 hg7 _
  have hb7 := boxed_below hg7
  go_wp2_with (at_builtin; refine wpList_append_src rfl (.tmp 37) (.tmp 38) 22 rfl 9 i0 (.string ⟨#[]⟩) 1 16 Try.underlying22 hi hz0 hz1 hz2 rfl (by decide) (B := w.heap.size) v7 _ _ rfl hO7 _ a.length (a.map Value.string) rfl (SliceOf.later ha hb7) (one_texts _) (by unfold maxLen; omega) (by omega) hb7.size ?_)
  intro v8 w8 hO8 hg8 _
  have hb8 := hb7.grown hg8 hb7.size (fun k hk => (hO7.lt k hk).1)
  have hm : StrsIn w8 v8 (c ++ a) := strs_of (n := c.length + a.length) (l := c ++ a) (by rw [List.map_append]; exact hO8) (by rw [List.length_append])
  replace ha := StrsIn.kept ha hb8
  replace hb' := StrsIn.kept hb' hb8
  replace hc := StrsIn.kept hc hb8
  replace hb := hb.trans hb8
  replace hB := hb.size
  clear hO7 hg7 hb7 hO8 hg8 hb8
  go_wp2_with (at_builtin; refine wpList_append_src rfl (.tmp 40) (.tmp 41) 22 rfl 9 i0 (.string ⟨#[]⟩) 1 16 Try.underlying22 hi hz0 hz1 hz2 rfl (by decide) (B := w8.heap.size) _ 0 [] rfl (own_empty 1 (Nat.le_refl _) (by simp)) _ c.length (c.map Value.string) rfl (SliceOf.alloc hc _) (one_texts _) (by unfold maxLen; omega) (by omega) (by simp) ?_)
  intro v9 w9 hO9 hg9 _
  have hb9 := boxed_below hg9
  go_wp2_with (at_builtin; refine wpList_append_src rfl (.tmp 42) (.tmp 43) 22 rfl 9 i0 (.string ⟨#[]⟩) 1 16 Try.underlying22 hi hz0 hz1 hz2 rfl (by decide) (B := w8.heap.size) v9 _ _ rfl hO9 _ b.length (b.map Value.string) rfl (SliceOf.later hb' hb9) (one_texts _) (by unfold maxLen; omega) (by omega) hb9.size ?_)
  intro v10 w10 hO10 hg10 _
  have hb10 := hb9.grown hg10 hb9.size (fun k hk => (hO9.lt k hk).1)
  have hm2 : StrsIn w10 v10 (c ++ b) := strs_of (n := c.length + b.length) (l := c ++ b) (by rw [List.map_append]; exact hO10) (by rw [List.length_append])
  replace ha := StrsIn.kept ha hb10
  replace hb' := StrsIn.kept hb' hb10
  replace hm := StrsIn.kept hm hb10
  replace hb := hb.trans (hb10.mono hB)
  replace hB := hb.size
  clear hc hO9 hg9 hb9 hO10 hg10 hb10
  obtain ⟨A8, p8, rfl, _⟩ := one_at hm
  obtain ⟨A10, p10, rfl, _⟩ := one_at hm2
  go_wp2_with fail
  refine awake_calls.stepB (w0 := w) (B := w.heap.size) hb hB ?_
  clear hb hB
  intro w11 hb hB hk
  replace ha := StrsIn.kept ha hk
  replace hb' := StrsIn.kept hb' hk
  replace hm := StrsIn.kept hm hk
  replace hm2 := StrsIn.kept hm2 hk
  clear hk
  have q1 := compare_calls hb' ha
  have q2 := same_strs ha hb' (by omega) (by omega)
  have q3 : ∀ w', Below w11.heap.size w11 w' → Reads Try.prog 11 #[_, _] w' (.int .i64 (cmpL (c ++ a) (c ++ b))) := fun w' h => compare_calls (StrsIn.kept hm h) (StrsIn.kept hm2 h)
  rw [HAP.out] at q3
  simp only [List.length_append] at q3
  clear ha hb' hm hm2 HAP
  generalize cmpL a b = x at *
  generalize cmpL b c = y at *
  generalize cmpL a c = z at *
  generalize cmpL b a = r at *
  generalize decide (a = b) = same at *
  have HQ3 := Lib.hid q3
  clear q3
  rcases HO.out with ⟨rfl, rfl, rfl, rfl, rfl⟩ | ⟨rfl, rfl, rfl, d1, d2⟩ | ⟨rfl, rfl, rfl⟩ | ⟨rfl, rfl, rfl⟩
  all_goals
    clear HO
    go_wp2_with fail
    refine q1.step ?_
    clear q1
    go_wp2_with fail
    refine q2.stepB (w0 := w) (B := w.heap.size) hb hB ?_
    clear hb hB q2
    intro w12 hb hB hk
    go_wp2_with fail
    refine (HQ3.out _ hk).step ?_
    clear hk HQ3
    go_wp2
    go_ret
    exact ⟨rfl, hb⟩

set_option maxHeartbeats 2000000 in
theorem shapeOrder_calls {w : World} {va vb vc : Value} {a b c : List ByteArray} (ha : StrsIn w va a) (hb' : StrsIn w vb b) (hc : StrsIn w vc c) :
    GivesAt Try.prog 4 #[va, vb, vc] w (.bool true) := by
  cases sa : smallL a with
  | true =>
    cases sb : smallL b with
    | true =>
      cases sc : smallL c with
      | true => exact shapeOrder_short ha hb' hc sa sb sc
      | false =>
        have hsa := small_calls ha
        have hsb := small_calls hb'
        have hsc := small_calls hc
        rw [sa] at hsa
        rw [sb] at hsb
        rw [sc] at hsc
        obtain ⟨hb, hB⟩ := start w
        obtain ⟨A1, p1, rfl, _⟩ := one_at ha
        obtain ⟨A2, p2, rfl, _⟩ := one_at hb'
        obtain ⟨A3, p3, rfl, _⟩ := one_at hc
        clear ha hb' hc sa sb sc
        unfold GivesAt
        go_enter Try.func4, Try.ntmps4
        go_wp2_with fail
        refine hsa.step ?_
        clear hsa
        go_wp2_with fail
        refine hsb.step ?_
        clear hsb
        go_wp2_with fail
        refine hsc.step ?_
        clear hsc
        go_wp2_with (go_at_call 7; refine awake_calls.step (w0 := w) (B := w.heap.size) hb hB ?_; clear hb hB; intro w' hb hB)
        go_ret
        exact ⟨rfl, hb⟩
    | false =>
      have hsa := small_calls ha
      have hsb := small_calls hb'
      rw [sa] at hsa
      rw [sb] at hsb
      obtain ⟨hb, hB⟩ := start w
      obtain ⟨A1, p1, rfl, _⟩ := one_at ha
      obtain ⟨A2, p2, rfl, _⟩ := one_at hb'
      obtain ⟨A3, p3, rfl, _⟩ := one_at hc
      clear ha hb' hc sa sb
      unfold GivesAt
      go_enter Try.func4, Try.ntmps4
      go_wp2_with fail
      refine hsa.step ?_
      clear hsa
      go_wp2_with fail
      refine hsb.step ?_
      clear hsb
      go_wp2_with (go_at_call 7; refine awake_calls.step (w0 := w) (B := w.heap.size) hb hB ?_; clear hb hB; intro w' hb hB)
      go_ret
      exact ⟨rfl, hb⟩
  | false =>
    have hsa := small_calls ha
    rw [sa] at hsa
    obtain ⟨hb, hB⟩ := start w
    obtain ⟨A1, p1, rfl, _⟩ := one_at ha
    obtain ⟨A2, p2, rfl, _⟩ := one_at hb'
    obtain ⟨A3, p3, rfl, _⟩ := one_at hc
    clear ha hb' hc sa
    unfold GivesAt
    go_enter Try.func4, Try.ntmps4
    go_wp2_with fail
    refine hsa.step ?_
    clear hsa
    go_wp2_with (go_at_call 7; refine awake_calls.step (w0 := w) (B := w.heap.size) hb hB ?_; clear hb hB; intro w' hb hB)
    go_ret
    exact ⟨rfl, hb⟩
end Go.Proofs.Ytilnioloeijfhaa
