/- The laws DictTells and DictReads. -/
import Derived.Test.YtlcpkhgilihjlaaGStrs
import Derived.Test.YtlcpkhgilihjlaaGDictLaws
namespace Go.Proofs.Ytlcpkhgilihjlaa
open Go Go.RowKit

set_option maxHeartbeats 4000000 in
set_option maxRecDepth 100000 in
theorem dictTells_calls {w : World} {v : Value} {l : List ByteArray} (h : StrsIn w v l) (c : ByteArray) : GivesAt Try.prog 3 #[v, .string c] w (.bool true) := by
  obtain ⟨hb, hB⟩ := start w
  have HS := Lib.hid (small_calls h)
  have HL := Lib.hid h
  unfold GivesAt
  by_cases hgo : smallL l = true ∧ c.size ≤ 200
  · obtain ⟨hsm, hc⟩ := hgo
    rw [hsm] at HS
    obtain ⟨hl, hsz⟩ := smallL_of hsm
    have hs1 := fun c hc => Nat.le_trans (hsz c hc) (by decide : 200 ≤ 1000000)
    have hwl := wordsOf_length l
    have d1 : decide (200 < (c.size : Int)) = false := by rw [decide_eq_false_iff_not]; omega
    obtain ⟨A, cap, rfl, _⟩ := one_at h
    clear h hsm
    go_enter Try.func3, Try.ntmps3
    go_wp2_with (first | (go_at_call 7; refine HS.out.step ?_) | (go_at_call 9; refine (ref_words_calls HL.out (by omega)).mono ?_))
    rintro e w1 ⟨v1, rfl, hO1, hk1⟩
    have hi1 := hO1.slice
    replace hb := hb.trans (hk1.mono hB)
    replace hB := hb.size
    have hl1 := StrsIn.kept HL.out hk1
    obtain ⟨A1, c1, rfl⟩ := hO1.len
    clear hO1 hk1 HL HS
    have hii1 : StrsIn w1 (.slice A1 (wordsOf l).length c1) (wordsOf l) := hi1
    clear hi1
    go_wp2_with (first | (go_at_call 8; refine awake_calls.stepB (w0 := w) (B := w.heap.size) hb hB ?_; clear hb hB; intro w2 hb hB hq; replace hl1 := StrsIn.kept hl1 hq; replace hii1 := StrsIn.kept hii1 hq; clear hq) | (go_at_call 11; refine Calls.mono (dict_words_calls hl1 (by omega)) ?_; rintro e w3 ⟨v3, rfl, hO3, hk3⟩; replace hb := hb.trans (hk3.mono hB); replace hB := hb.size; replace hl1 := StrsIn.kept hl1 hk3; replace hii1 := StrsIn.kept hii1 hk3; have hs := same_strs (va := v3) hO3.slice hii1 (by omega) (by omega); rw [decide_eq_true rfl] at hs; obtain ⟨A3, c3, rfl⟩ := hO3.len; clear hk3 hO3) | (go_at_call 10; refine hs.stepB (w0 := w) (B := w.heap.size) hb hB ?_; clear hb hB; intro w4 hb hB hq; replace hl1 := StrsIn.kept hl1 hq; replace hii1 := StrsIn.kept hii1 hq; clear hq hs; have hp1 := Lib.hid (dict_place_calls hii1 c); have hp2 := Lib.hid (ref_place_calls hii1 c)) | (go_at_call 12; refine hp1.out.step ?_) | (go_at_call 13; refine hp2.out.step ?_) | (go_at_call 14; refine (dict_print_calls hl1 (by omega) hs1).stepB (w0 := w) (B := w.heap.size) hb hB ?_; clear hb hB; intro w6 hb hB hq; replace hl1 := StrsIn.kept hl1 hq; clear hq) | (go_at_call 15; refine (ref_dict_print_calls hl1 (by omega) hs1).step (w0 := w) (B := w.heap.size) hb hB ?_; clear hb hB; intro w7 hb hB))
    go_ret
    exact ⟨ret_bool (by simp), hb⟩
  · obtain ⟨A, cap, rfl, _⟩ := one_at h
    clear h
    cases hsm : smallL l with
    | false =>
      rw [hsm] at HS
      clear hgo
      go_enter Try.func3, Try.ntmps3
      go_wp2_with (first | (go_at_call 7; refine HS.out.step ?_) | (go_at_call 8; refine awake_calls.step (w0 := w) (B := w.heap.size) hb hB ?_; clear hb hB; intro w' hb hB))
      go_ret
      exact ⟨rfl, hb⟩
    | true =>
      rw [hsm] at HS
      have d1 : decide (200 < (c.size : Int)) = true := by rw [decide_eq_true_eq]; have : ¬ c.size ≤ 200 := fun h => hgo ⟨hsm, h⟩; omega
      clear hgo hsm
      go_enter Try.func3, Try.ntmps3
      go_wp2_with (first | (go_at_call 7; refine HS.out.step ?_) | (go_at_call 8; refine awake_calls.step (w0 := w) (B := w.heap.size) hb hB ?_; clear hb hB; intro w' hb hB))
      go_ret
      exact ⟨rfl, hb⟩
end Go.Proofs.Ytlcpkhgilihjlaa
