/- The law GapsCount. -/
import Derived.Test.YtclkkffeaabloaaGapsLaws
namespace Go.Proofs.Ytclkkffeaabloaa
open Go Go.RowKit

def theT : ByteArray := ⟨#[116]⟩
theorem theT_toList : (⟨#[116]⟩ : ByteArray).toList = [116] := by rw [ByteArray.toList_eq]
/-- How many are the text that the law uses. -/
def cntT (l : List ByteArray) : Nat := (l.filter fun c => c.toList == [116]).length
theorem cntT_take (l : List ByteArray) (k : Nat) (h : k < l.length) : cntT (l.take (k + 1)) = cntT (l.take k) + (if (l[k].toList == [116]) = true then 1 else 0) := by
  unfold cntT
  rw [take_add l k h, List.filter_append, List.length_append]
  cases hc : (l[k].toList == [116]) <;> simp [hc]
theorem cntT_le (l : List ByteArray) : cntT l ≤ l.length := List.length_filter_le _ _
theorem cntT_join : ∀ (is : List Bool) (k : Nat), cnt is ≤ k → cntT (joinF is (List.replicate k theT)) = cnt is
  | [], _, _ => rfl
  | false :: is, k, h => by
    have ih := cntT_join is k (by simpa [cnt] using h)
    unfold cntT cnt at ih ⊢
    rw [joinF, List.filter_cons_of_neg (by rw [empty_toList]; decide), ih]; rfl
  | true :: is, 0, h => by simp [cnt] at h
  | true :: is, k + 1, h => by
    have ih := cntT_join is k (by simp only [cnt, List.filter_cons, id, if_true, List.length_cons] at h ⊢; omega)
    unfold cntT cnt at ih ⊢
    rw [List.replicate_succ, joinF, List.filter_cons_of_pos (by unfold theT; rw [theT_toList]; decide), List.length_cons, ih]; rfl
theorem gapsT_eq {l m : List Bool} (hl : l.length = m.length) (h4 : l.length ≤ 4096) : ((gapsT l).toList == (gapsT m).toList) = decide (l = m) := by
  rw [Bool.eq_iff_iff, beq_iff_eq, decide_eq_true_eq]
  constructor
  · intro h
    rw [ByteArray.toList_eq, ByteArray.toList_eq] at h
    have h1 : GapsAt (gapsP l) l.length l [] := ⟨by omega, by omega, rfl, by rw [List.append_nil]⟩
    have h2 : GapsAt (gapsP l) l.length m [] := ⟨by omega, by omega, by omega, by rw [List.append_nil]; exact h⟩
    exact (h1.same h2).1
  · intro h; rw [h]

set_option maxHeartbeats 4000000 in
set_option maxRecDepth 100000 in
theorem gapsCount_in {w : World} {vi vw : Value} {is was : List Bool} (hi : BoolsIn w vi is) (hw : BoolsIn w vw was) (q : Nat) (hq8 : q < 256) (hn : is.length ≤ 300) (hn2 : was.length ≤ 300) :
    GivesAt Try.prog 6 #[vi, vw, .int .u8 q] w (.bool true) := by
  obtain ⟨j0, hj, jz0, jz1, jz2⟩ := info_parts Try.infoT9
  obtain ⟨hb, hB⟩ := start w
  have d1 : decide (300 < (is.length : Int)) = false := by rw [decide_eq_false_iff_not]; omega
  have d2 : decide (300 < (was.length : Int)) = false := by rw [decide_eq_false_iff_not]; omega
  have HVI := Lib.hid hi
  have HVW := Lib.hid hw
  obtain ⟨A1, p1, rfl, hat⟩ := one_at hi
  obtain ⟨A2, p2, rfl, _⟩ := one_at hw
  have HAT := Lib.hid hat
  have hcl := cnt_le is
  clear hi hw hat
  unfold GivesAt
  go_enter Try.func6, Try.ntmps6
  go_wp2
  go_loopw [7, 8] (fun n i wr => ∃ k : Nat, k ≤ is.length ∧ i = .int .i64 k ∧ n = .int .i64 (cnt (is.take k)) ∧ w = wr) (fun _ i _ => is.length - (intOf i).toNat)
  case atStart => exact ⟨0, Nat.zero_le _, rfl, rfl, rfl⟩
  case round =>
    obtain ⟨k, hk, rfl, rfl, rfl⟩ := hrel
    have hctl := cnt_take_le is k
    by_cases hlt : k < is.length
    · obtain ⟨b, off, rfl, hbl, hc⟩ := HAT.out k hlt
      have hx := hc k hlt
      have HC := Lib.hid (cnt_take is k hlt)
      clear hc
      generalize is[k] = y at *
      cases y with
      | false =>
        have HC0 := Lib.hid (show cnt (is.take (k + 1)) = cnt (is.take k) from HC.out)
        go_wp2
        go_roundw
        case rel => exact ⟨k + 1, by omega, by go_num, by rw [HC0.out], trivial⟩
        case measure => simp [intOf]; omega
      | true =>
        have HC1 := Lib.hid (show cnt (is.take (k + 1)) = cnt (is.take k) + 1 from HC.out)
        go_wp2
        go_roundw
        case rel => exact ⟨k + 1, by omega, by go_num, by rw [HC1.out]; go_num, trivial⟩
        case measure => simp [intOf]; omega
    · obtain rfl : k = is.length := by omega
      rw [List.take_length]
      clear hctl
      generalize hcn : cnt is = n at *
      have HCN := Lib.hid hcn
      clear hcn
      have hm3 : q % 3 < 3 := Nat.mod_lt _ (by decide)
      have q0 : (q : Int) % 3 = ((q % 3 : Nat) : Int) := by omega
      have q1 : (q : Int).tmod 3 = ((q % 3 : Nat) : Int) := by rw [Int.tmod_eq_emod_of_nonneg (by omega)]; omega
      generalize q % 3 = m at *
      obtain ⟨K, hK⟩ : ∃ K, n + m = K := ⟨_, rfl⟩
      have q2 : (n : Int) + (m : Int) = (K : Int) := by omega
      have q3 : IntKind.i64.wrap (m : Int) = (m : Int) := wrap_i64_nat _ (by omega)
      have q4 : IntKind.u8.wrap (m : Int) = (m : Int) := by rw [IntKind.wrap_u8]; omega
      have q5 : IntKind.i64.wrap (K : Int) = (K : Int) := wrap_i64_nat _ (by omega)
      go_wp2_with (at_make; refine wpList_make_full _ rfl _ _ 22 rfl w.heap.size 9 j0 (.string ⟨#[]⟩) 1 Try.underlying22 hj jz0 jz1 .i64 .i64 _ _ K rfl rfl rfl rfl (by rw [jz2]; omega) (by unfold maxLen; omega) hB ?_)
      intro w1 hrow hg1
      rw [toList_madeCells_one] at hrow
      have hO : Own w1 w.heap.size 1 (.slice (some ⟨w.heap.size, 0, none⟩) K K) K (zeroTexts K) := Own.of_row (B := w.heap.size) hrow (by unfold maxLen; omega) (Nat.le_refl _)
      have hb1 : Below w.heap.size w w1 := hb.grown hg1 hB (fun k hk => by cases hk)
      clear hrow hg1 hb hB q0 q1 q2 q3 q4 q5
      have HX := Lib.hid (show ((List.replicate K theT).map Value.string).length = K by rw [List.length_map, List.length_replicate])
      have HZ := Lib.hid (show (zeroTexts K).length = K from List.length_replicate)
      go_wp2
      go_loopw [11] (fun i wr => ∃ k : Nat, k ≤ K ∧ i = .int .i64 k ∧ Own wr w.heap.size 1 (.slice (some ⟨w.heap.size, 0, none⟩) K K) K (((List.replicate K theT).map Value.string).take k ++ (zeroTexts K).drop k) ∧ Below w.heap.size w wr) (fun i _ => K - (intOf i).toNat)
      case atStart => exact ⟨0, Nat.zero_le _, rfl, by simpa using hO, hb1⟩
      case round =>
        clear hO hb1
        obtain ⟨k, hk, rfl, hO, hb⟩ := hrel
        by_cases hlt : k < K
        · obtain ⟨hs1, hs2⟩ := hO.fillCell HX.out HZ.out hlt
          have hz8 : (zeroTexts K)[k]'(by rw [HZ.out]; exact hlt) = Value.string ⟨#[]⟩ := by unfold zeroTexts; rw [List.getElem_replicate]
          rw [hz8] at hs1
          have HO' := Lib.hid (hO.filled HX.out HZ.out hlt (u := .string theT) (by rw [List.map_replicate, List.getElem?_replicate, if_pos hlt]))
          have hbb := hb.setCell (Nat.le_refl w.heap.size) (p := ⟨w.heap.size, k, none⟩) (.string theT)
          clear hO hz8
          go_wp2
          go_roundw
          case rel => exact ⟨k + 1, by omega, by go_num, HO'.out, hbb⟩
          case measure => simp [intOf]; omega
        · obtain rfl : k = K := by omega
          have hl := strs_of (hO.full HX.out HZ.out) (show k = (List.replicate k theT).length from List.length_replicate.symm)
          have hB := hb.size
          have hvi := BoolsIn.kept HVI.out hb
          have hvw := BoolsIn.kept HVW.out hb
          have HCJ := Lib.hid (cntT_join is k (by rw [HCN.out]; omega))
          clear hO HX HZ
          go_wp2_with fail
          have hs := join_calls hvi hl (by rw [List.length_replicate]; omega) (by omega)
          unfold JoinEnd at hs
          have hok : joinOk is (List.replicate k theT) = decide (m = 0) := by
            unfold joinOk
            rw [List.length_replicate, HCN.out, decide_eq_decide]; omega
          have HXS : Hid ((m = 0 → (joinL is (List.replicate k theT)).length = is.length ∧ cntT (joinL is (List.replicate k theT)) = n) ∧ (joinL is (List.replicate k theT)).length ≤ is.length) := by
            refine ⟨fun h0 => ?_, joinL_length _ _⟩
            unfold joinL
            rw [if_pos (by rw [List.length_replicate, HCN.out]; omega), joinF_length, HCJ.out, HCN.out]
            exact ⟨rfl, rfl⟩
          rw [hok] at hs
          generalize joinL is (List.replicate k theT) = X at *
          refine hs.mono ?_
          rintro e w2 ⟨v5, rfl, h5, hq⟩
          replace hb := hb.trans (hq.mono hB)
          replace hB := hb.size
          replace hvi := BoolsIn.kept hvi hq
          replace hvw := BoolsIn.kept hvw hq
          clear hq hs hl hok
          have hxl := HXS.out.2
          obtain ⟨A5, p5, rfl, hat5⟩ := one_at h5
          have HAT5 := Lib.hid hat5
          clear h5 hat5
          go_wp2
          go_loopw [14, 15] (fun c i wr => ∃ t : Nat, t ≤ X.length ∧ i = .int .i64 t ∧ c = .int .i64 (cntT (X.take t)) ∧ w2 = wr) (fun _ i _ => X.length - (intOf i).toNat)
          case atStart => exact ⟨0, Nat.zero_le _, rfl, rfl, rfl⟩
          case round =>
            obtain ⟨t, ht, rfl, rfl, rfl⟩ := hrel
            by_cases hlt : t < X.length
            · obtain ⟨b, off, rfl, hbl, hc⟩ := HAT5.out t hlt
              have hx := hc t hlt
              have HC := Lib.hid (cntT_take X t hlt)
              have hcl9 := cntT_le (X.take t)
              rw [List.length_take] at hcl9
              clear hc
              generalize X[t] = c at *
              cases hce : (c.toList == [116]) with
              | false =>
                have HC0 : Hid (cntT (X.take (t + 1)) = cntT (X.take t)) := by show _ = _; rw [HC.out, hce]; rfl
                go_wp2
                go_roundw
                case rel => exact ⟨t + 1, by omega, by go_num, by rw [HC0.out], trivial⟩
                case measure => simp [intOf]; omega
              | true =>
                have HC1 : Hid (cntT (X.take (t + 1)) = cntT (X.take t) + 1) := by show _ = _; rw [HC.out, hce]; rfl
                go_wp2
                go_roundw
                case rel => exact ⟨t + 1, by omega, by go_num, by rw [HC1.out]; go_num, trivial⟩
                case measure => simp [intOf]; omega
            · obtain rfl : t = X.length := by omega
              rw [List.take_length]
              have HEQ := Lib.hid (fun hl => gapsT_eq (l := is) (m := was) hl (by omega))
              have hlen : (m = 0 ∧ X.length = is.length ∧ cntT X = n ∧ k = n) ∨ (m ≠ 0 ∧ k ≠ n) := by
                by_cases h0 : m = 0
                · exact .inl ⟨h0, (HXS.out.1 h0).1, (HXS.out.1 h0).2, by omega⟩
                · exact .inr ⟨h0, by omega⟩
              go_wp2_with fail
              refine awake_calls.stepB (w0 := w) (B := w.heap.size) hb hB ?_
              clear hb hB
              intro w6 hb hB hq
              replace hvi := BoolsIn.kept hvi hq
              replace hvw := BoolsIn.kept hvw hq
              clear hq
              have hll : (((is.length : Int) == (was.length : Int)) = false ∧ ¬ is.length = was.length ∧ ((is.length : Int) != (was.length : Int)) = true) ∨ (((is.length : Int) == (was.length : Int)) = true ∧ is.length = was.length) := by
                by_cases h : is.length = was.length
                · exact .inr ⟨by rw [beq_iff_eq]; omega, h⟩
                · left; exact ⟨by rw [beq_eq_false_iff_ne]; omega, h, by rw [bne_iff_ne]; omega⟩
              have hm2 : (decide (m = 0) = true ∧ ((k : Int) == (n : Int)) = true ∧ ((X.length : Int) == (is.length : Int)) = true ∧ ((cntT X : Int) == (n : Int)) = true) ∨ (decide (m = 0) = false ∧ ((k : Int) == (n : Int)) = false) := by
                rcases hlen with ⟨h0, h1, h2, h3⟩ | ⟨h0, h3⟩
                · exact .inl ⟨decide_eq_true h0, by rw [beq_iff_eq]; omega, by rw [beq_iff_eq]; omega, by rw [beq_iff_eq]; omega⟩
                · exact .inr ⟨decide_eq_false h0, by rw [beq_eq_false_iff_ne]; omega⟩
              clear hlen
              have HLL := Lib.hid hll
              clear hll
              generalize hmm : decide (m = 0) = ok at *
              clear hmm
              generalize hcx : cntT X = cx at *
              clear hcx HXS HCJ HCN
              rcases hm2 with ⟨rfl, g1, g2, g3⟩ | ⟨rfl, g1⟩
              all_goals
                rcases HLL.out with ⟨l1, l2, l3⟩ | ⟨l1, l2⟩
                · clear HEQ
                  go_wp2
                  go_ret
                  exact ⟨ret_bool (by simp), hb⟩
                · have HE := Lib.hid (HEQ.out l2)
                  clear l2 HEQ
                  go_wp2_with fail
                  refine (gaps_print_calls hvi (by omega)).stepB (w0 := w) (B := w.heap.size) hb hB ?_
                  clear hb hB
                  intro w7 hb hB hq
                  replace hvi := BoolsIn.kept hvi hq
                  replace hvw := BoolsIn.kept hvw hq
                  clear hq
                  go_wp2_with fail
                  refine (gaps_print_calls hvw (by omega)).stepB (w0 := w) (B := w.heap.size) hb hB ?_
                  clear hb hB
                  intro w8 hb hB hq
                  replace hvi := BoolsIn.kept hvi hq
                  replace hvw := BoolsIn.kept hvw hq
                  clear hq
                  obtain ⟨e, he1, he2⟩ : ∃ e, ((gapsT is).toList == (gapsT was).toList) = e ∧ decide (is = was) = e := ⟨_, HE.out, rfl⟩
                  have hs := same_bools hvi hvw (by omega) (by omega)
                  rw [he2] at hs
                  clear he2 HE
                  generalize gapsT is = t1 at *
                  generalize gapsT was = t2 at *
                  go_wp2_with fail
                  refine hs.step (w0 := w) (B := w.heap.size) hb hB ?_
                  clear hb hB hs
                  intro w9 hb hB
                  cases e
                  all_goals
                    go_wp2
                    go_ret
                    exact ⟨ret_bool (by simp), hb⟩

set_option maxHeartbeats 1000000 in
theorem gapsCount_calls {w : World} {vi vw : Value} {is was : List Bool} (hi : BoolsIn w vi is) (hw : BoolsIn w vw was) (q : Nat) (hq8 : q < 256) :
    GivesAt Try.prog 6 #[vi, vw, .int .u8 q] w (.bool true) := by
  by_cases hgo : is.length ≤ 300 ∧ was.length ≤ 300
  · exact gapsCount_in hi hw q hq8 hgo.1 hgo.2
  · obtain ⟨hb, hB⟩ := start w
    obtain ⟨A1, p1, rfl, _⟩ := one_at hi
    obtain ⟨A2, p2, rfl, _⟩ := one_at hw
    clear hi hw
    unfold GivesAt
    by_cases hl : is.length ≤ 300
    · have d1 : decide (300 < (is.length : Int)) = false := by rw [decide_eq_false_iff_not]; omega
      have d2 : decide (300 < (was.length : Int)) = true := by rw [decide_eq_true_eq]; omega
      clear hgo
      go_enter Try.func6, Try.ntmps6
      go_wp2_with (go_at_call 8; refine awake_calls.step (w0 := w) (B := w.heap.size) hb hB ?_; clear hb hB; intro w' hb hB)
      go_ret
      exact ⟨rfl, hb⟩
    · have d1 : decide (300 < (is.length : Int)) = true := by rw [decide_eq_true_eq]; omega
      clear hgo
      go_enter Try.func6, Try.ntmps6
      go_wp2_with (go_at_call 8; refine awake_calls.step (w0 := w) (B := w.heap.size) hb hB ?_; clear hb hB; intro w' hb hB)
      go_ret
      exact ⟨rfl, hb⟩
end Go.Proofs.Ytclkkffeaabloaa
