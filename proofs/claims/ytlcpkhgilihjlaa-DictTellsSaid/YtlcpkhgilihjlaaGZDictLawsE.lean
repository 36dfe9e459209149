/- The law DictBack. -/
import Derived.Test.YtlcpkhgilihjlaaGDictLaws
namespace Go.Proofs.Ytlcpkhgilihjlaa
open Go Go.RowKit

theorem rises_step {ws : List ByteArray} (h : Rises ws) {k : Nat} (hk : k + 1 < ws.length) : ltB ws[k] ws[k + 1] = true := List.pairwise_iff_getElem.1 h k (k + 1) (by omega) hk (by omega)

theorem dictB_short (l : List ByteArray) (hl : l.length ≤ 300) (hsz : ∀ c ∈ l, c.size ≤ 200) : (dictB l).size ≤ 1000000000 := by
  have hwl := wordsOf_length l
  have h1 := cells_size (wordsOf l) (fun c hc => by have := hsz c (((wordsOf_spec l).2 c).1 hc); omega)
  have h2 := shelfB_most (placesOf l) (places_range l (by omega))
  have h3 : (placesOf l).length = l.length := by unfold placesOf; rw [List.length_map]
  have h4 : (vp (wordsOf l).length).length ≤ 10 := vp_len_10 (by omega)
  rw [← dictB_parts, ByteArray.size_append, mkB_size, List.length_append]
  omega
def memB (c : ByteArray) (l : List ByteArray) : Bool := l.any fun x => decide (x = c)
theorem memB_iff (c : ByteArray) (l : List ByteArray) : memB c l = true ↔ c ∈ l := by
  unfold memB
  rw [List.any_eq_true]
  constructor
  · rintro ⟨x, hx, h⟩
    rw [decide_eq_true_eq] at h
    exact h ▸ hx
  · intro h
    exact ⟨c, h, decide_eq_true rfl⟩
theorem memB_snoc (c x : ByteArray) (l : List ByteArray) : memB c (l ++ [x]) = (memB c l || (x.toList == c.toList)) := by
  unfold memB
  rw [List.any_append]
  congr 1
  simp only [List.any_cons, List.any_nil, Bool.or_false]
  rw [Bool.eq_iff_iff, decide_eq_true_eq, beq_iff_eq]
  constructor
  · rintro rfl; rfl
  · intro h
    rw [ByteArray.toList_eq, ByteArray.toList_eq] at h
    exact ba_ext h

set_option maxHeartbeats 4000000 in
set_option maxRecDepth 100000 in
theorem dictBack_in {w : World} {v : Value} {l : List ByteArray} (h : StrsIn w v l) (more : ByteArray) (hsm : smallL l = true) (hm : more.size ≤ 100) : GivesAt Try.prog 5 #[v, .string more] w (.bool true) := by
  obtain ⟨hb, hB⟩ := start w
  have HS := Lib.hid (small_calls h)
  rw [hsm] at HS
  obtain ⟨hl, hsz⟩ := smallL_of hsm
  have hs1 := fun c hc => Nat.le_trans (hsz c hc) (by decide : 200 ≤ 1000000)
  have hwl := wordsOf_length l
  have d1 : decide (100 < (more.size : Int)) = false := by rw [decide_eq_false_iff_not]; omega
  have HW := Lib.hid (dict_words_calls h (by omega))
  have HSP := Lib.hid (wordsOf_spec l)
  have HL := Lib.hid h
  obtain ⟨A, cap, rfl, hat⟩ := one_at h
  have HAT := Lib.hid hat
  clear h hsm hat
  unfold GivesAt
  go_enter Try.func5, Try.ntmps5
  go_wp2_with (first | (go_at_call 7; refine HS.out.step ?_) | (go_at_call 11; refine HW.out.mono ?_))
  rintro e w1 ⟨v1, rfl, hO1, hk1⟩
  have HW1 : Hid (StrsIn w1 v1 (wordsOf l)) := hO1.slice
  have HB1 := Lib.hid hk1
  generalize hws : wordsOf l = ws at *
  obtain ⟨A1, c1, rfl, hat1⟩ := one_at HW1.out
  have HAT1 := Lib.hid hat1
  have HPI := Lib.hid (fun (k : Nat) (hk : k < l.length) => placeI_mem (ws := ws) (c := l[k]) ((HSP.out.2 _).2 (List.getElem_mem hk)))
  clear HW hO1 hk1 hat1 HS hb hB hws
  go_wp2
  go_loopw [6] (fun i wr => ∃ k : Nat, k ≤ l.length ∧ i = .int .i64 k ∧ Hid (∀ c ∈ l.take k, rightB c = true) ∧ Below w1.heap.size w1 wr) (fun i _ => l.length - (intOf i).toNat)
  case atStart => exact ⟨0, Nat.zero_le _, rfl, fun c hc => absurd hc (by simp), .refl _ _⟩
  case round =>
    obtain ⟨k, hk, rfl, HR, hbr⟩ := hrel
    have hBr := hbr.size
    by_cases hlt : k < l.length
    · obtain ⟨b, off, rfl, hbl, hc⟩ := HAT.out k hlt
      have hx := (hbr.cell (p := ⟨b, off + k, none⟩) (Nat.lt_of_lt_of_le hbl HB1.out.size)).trans ((HB1.out.cell (p := ⟨b, off + k, none⟩) hbl).trans (hc k hlt))
      obtain ⟨p, hpe, hpl, hpg⟩ := HPI.out k hlt
      have hwp : ws[p] = l[k] := by simpa [hpl] using hpg
      have hP := Lib.hid (dict_place_calls (StrsIn.kept HW1.out hbr) l[k])
      rw [hpe] at hP
      obtain ⟨b1, o1, rfl, hbl1, hc1⟩ := HAT1.out p hpl
      have hx1 := (hbr.cell (p := ⟨b1, o1 + p, none⟩) hbl1).trans (hc1 p hpl)
      rw [hwp] at hx1
      have HT := Lib.hid (take_add l k hlt)
      have HRI := Lib.hid (right_calls l[k])
      clear hc hc1 hpe hpg hwp
      generalize l[k] = c at *
      cases hrb : rightB c with
      | false =>
        rw [hrb] at HRI
        clear HT
        have HBW := Lib.hid (HB1.out.trans (hbr.mono HB1.out.size))
        go_wp2_with (first | (go_at_call 12; refine hP.out.step ?_) | (go_at_call 18; refine HRI.out.step (w0 := wr) (B := wr.heap.size) (.refl _ _) (Nat.le_refl _) ?_; intro w5 hb5 hB5) | (go_at_call 8; refine awake_calls.step (w0 := wr) (B := wr.heap.size) hb5 hB5 ?_; clear hb5 hB5; intro w6 hb6 hB6))
        go_ret
        exact ⟨rfl, HBW.out.trans (hb6.mono HBW.out.size)⟩
      | true =>
        rw [hrb] at HRI
        have HRN : Hid (∀ c ∈ l.take (k + 1), rightB c = true) := by
          intro d hd
          rw [HT.out] at hd
          rcases List.mem_append.1 hd with hd | hd
          · exact HR.out d hd
          · rw [List.mem_singleton.1 hd]; exact hrb
        have d2 : decide ((p : Int) < 0) = false := by rw [decide_eq_false_iff_not]; omega
        have d3 : decide ((ws.length : Int) ≤ (p : Int)) = false := by rw [decide_eq_false_iff_not]; omega
        have d4 : decide (ws.length ≤ p) = false := by rw [decide_eq_false_iff_not]; omega
        clear HT hrb
        have hb1l : b1 < wr.heap.size := by omega
        have hbl3 : b < wr.heap.size := by have := HB1.out.size; omega
        go_wp2_with (first | (go_at_call 12; refine hP.out.step ?_) | (go_at_call 18; refine HRI.out.step (w0 := wr) (B := wr.heap.size) (.refl _ _) (Nat.le_refl _) ?_; intro w5 hb5 hB5; have hy := (hb5.cell (p := ⟨b, off + k, none⟩) hbl3).trans hx; have hy1 := (hb5.cell (p := ⟨b1, o1 + p, none⟩) hb1l).trans hx1; clear hx hx1))
        go_quiet (fail)
        go_wp2
        go_roundw
        case rel => exact ⟨k + 1, by omega, by go_num, HRN.out, hbr.trans ((below_drewN hb5 _).mono hBr)⟩
        case measure => simp [intOf]; omega
    · obtain rfl : k = l.length := by omega
      rw [List.take_length] at HR
      go_wp2
      go_loopw [8] (fun i wr => ∃ k : Nat, k ≤ ws.length ∧ i = .int .i64 k ∧ Below w1.heap.size w1 wr) (fun i _ => ws.length - (intOf i).toNat)
      case atStart => exact ⟨0, Nat.zero_le _, rfl, hbr⟩
      case round =>
        clear hbr hBr hlt hk
        obtain ⟨k, hk, rfl, hbr⟩ := hrel
        have hBr := hbr.size
        by_cases hlt : k < ws.length
        · have hmem := Lib.hid ((HSP.out.2 _).1 (List.getElem_mem hlt))
          obtain ⟨b1, o1, rfl, hbl1, hc1⟩ := HAT1.out k hlt
          have HX1 := Lib.hid (hc1 k hlt)
          have HRS := Lib.hid (fun (h : 0 < k) => show ltB (ws[k - 1]'(by omega)) ws[k] = true by
            have := rises_step HSP.out.1 (k := k - 1) (by omega)
            simp only [show k - 1 + 1 = k by omega] at this
            exact this)
          have HXP := Lib.hid (fun (h : 0 < k) => hc1 (k - 1) (by omega))
          clear hc1
          generalize ws[k] = c at *
          go_wp2
          go_loopw [9, 10] (fun s i wr => ∃ j : Nat, j ≤ l.length ∧ i = .int .i64 j ∧ s = .bool (memB c (l.take j)) ∧ Below w1.heap.size w1 wr) (fun _ i _ => l.length - (intOf i).toNat)
          case atStart => exact ⟨0, Nat.zero_le _, rfl, rfl, hbr⟩
          case round =>
            clear hbr hBr
            obtain ⟨j, hj, rfl, rfl, hbr⟩ := hrel
            have hBr := hbr.size
            by_cases hjl : j < l.length
            · have HT := take_add l j hjl
              obtain ⟨b, off, rfl, hbl, hc⟩ := HAT.out j hjl
              have hx := (hbr.cell (p := ⟨b, off + j, none⟩) (Nat.lt_of_lt_of_le hbl HB1.out.size)).trans ((HB1.out.cell (p := ⟨b, off + j, none⟩) hbl).trans (hc j hjl))
              have hx1 := (hbr.cell (p := ⟨b1, o1 + k, none⟩) hbl1).trans HX1.out
              clear hc
              generalize l[j] = x at *
              cases hin : memB c (l.take j) with
              | true =>
                have HN : Hid (memB c (l.take (j + 1)) = true) := by
                  show _ = _
                  rw [HT, memB_snoc, hin]; rfl
                clear HT hin
                go_wp2
                go_quiet (fail)
                go_wp2
                go_roundw
                case rel => exact ⟨j + 1, by omega, by go_num, by rw [HN.out], below_drewN hbr _⟩
                case measure => simp [intOf]; omega
              | false =>
                have HN : Hid (memB c (l.take (j + 1)) = (x.toList == c.toList)) := by
                  show _ = _
                  rw [HT, memB_snoc, hin]; rfl
                clear HT hin
                go_wp2
                go_quiet (fail)
                go_wp2
                go_roundw
                case rel => exact ⟨j + 1, by omega, by go_num, by rw [HN.out], below_drewN hbr _⟩
                case measure => simp [intOf]; omega
            · obtain rfl : j = l.length := by omega
              rw [List.take_length, (memB_iff c l).2 hmem.out]
              have hx1 := (hbr.cell (p := ⟨b1, o1 + k, none⟩) hbl1).trans HX1.out
              by_cases h0 : 0 < k
              · have hxp := (hbr.cell (p := ⟨b1, o1 + (k - 1), none⟩) hbl1).trans (HXP.out h0)
                have hrs : Op.bytesLess (ws[k - 1]'(by omega)).toList c.toList = true := HRS.out h0
                have q3 : IntKind.i64.wrap ((k : Int) - 1) = (k : Int) - 1 := IntWalk.i64_in _ (by omega)
                have q4 : (0 : Int) ≤ (k : Int) - 1 := by omega
                have q5 : ((k : Int) - 1).toNat = k - 1 := by omega
                have q6 : (k : Int) - 1 < (ws.length : Int) := by omega
                have q7 : decide (0 < (k : Int)) = true := by rw [decide_eq_true_eq]; omega
                have q8 : decide (0 < k) = true := by rw [decide_eq_true_eq]; omega
                go_wp2
                go_quiet (fail)
                go_wp2
                go_roundw
                case rel => exact ⟨k + 1, by omega, by go_num, below_drewN hbr _⟩
                case measure => simp [intOf]; omega
              · have q7 : decide (0 < (k : Int)) = false := by rw [decide_eq_false_iff_not]; omega
                have q8 : decide (0 < k) = false := by rw [decide_eq_false_iff_not]; omega
                go_wp2
                go_quiet (fail)
                go_wp2
                go_roundw
                case rel => exact ⟨k + 1, by omega, by go_num, below_drewN hbr _⟩
                case measure => simp [intOf]; omega
        · have hb := HB1.out.trans (hbr.mono HB1.out.size)
          have hB := hb.size
          have hl1 := StrsIn.kept HL.out hb
          have HDB := dictB_short l hl hsz
          have TR := Lib.hid (fun b => dict_read_some b (dictB l ++ more) (by rw [ByteArray.size_append]; omega) (dict_at l (by omega) HR.out more))
          have t1 : ¬ 9223372036854775807 < (dictB l).size + more.size := by omega
          rw [mkB_of] at TR
          clear hbr hBr
          go_wp2_with (go_at_call 14; refine (dict_print_calls hl1 (by omega) hs1).stepB (w0 := w) (B := w.heap.size) hb hB ?_; clear hb hB; intro w6 hb hB hq; replace hl1 := StrsIn.kept hl1 hq; clear hq)
          refine (TR.out _).stepB (w0 := w) (B := w.heap.size) (box_tape w6 _ _ _) (below_alloc hb hB _).1 (below_alloc hb hB _).2 (by go_size) ?_
          clear hb hB
          intro v7 w7 hi7 _ hT7 hb hB hg
          have hq := boxed_below hg
          replace hl1 := StrsIn.kept hl1 hq
          clear hq hg
          obtain ⟨_, _, rfl, _⟩ := one_at hi7
          go_wp2_with (go_at_call 8; refine awake_calls.stepB (w0 := w) (B := w.heap.size) hb hB ?_; clear hb hB; intro w9 hb hB hq; replace hl1 := StrsIn.kept hl1 hq; replace hi7 := StrsIn.kept hi7 hq; replace hT7 := hT7.kept hq; clear hq)
          have hs := same_strs hi7 hl1 (by omega) (by omega)
          rw [decide_eq_true rfl] at hs
          refine hs.stepB (w0 := w) (B := w.heap.size) hb hB ?_
          clear hb hB
          intro w10 hb hB hq
          have t1 := (hT7.kept hq).c0
          have t2 := (hT7.kept hq).c1
          clear hq hT7 hi7 hl1 hs
          go_wp2
          go_ret
          exact ⟨ret_bool (by simp), hb⟩

set_option maxHeartbeats 1000000 in
theorem dictBack_calls {w : World} {v : Value} {l : List ByteArray} (h : StrsIn w v l) (more : ByteArray) : GivesAt Try.prog 5 #[v, .string more] w (.bool true) := by
  cases hs1 : smallL l with
  | false =>
    obtain ⟨hb, hB⟩ := start w
    have HS1 := Lib.hid (small_calls h)
    rw [hs1] at HS1
    obtain ⟨A1, c1, rfl, _⟩ := one_at h
    clear h
    unfold GivesAt
    go_enter Try.func5, Try.ntmps5
    go_wp2_with (first | (go_at_call 7; refine HS1.out.step ?_) | (go_at_call 8; refine awake_calls.step (w0 := w) (B := w.heap.size) hb hB ?_; clear hb hB; intro w' hb hB))
    go_ret
    exact ⟨rfl, hb⟩
  | true =>
    by_cases hm : more.size ≤ 100
    · exact dictBack_in h more hs1 hm
    · obtain ⟨hb, hB⟩ := start w
      have HS1 := Lib.hid (small_calls h)
      rw [hs1] at HS1
      have d1 : decide (100 < (more.size : Int)) = true := by rw [decide_eq_true_eq]; omega
      obtain ⟨A1, c1, rfl, _⟩ := one_at h
      clear h
      unfold GivesAt
      go_enter Try.func5, Try.ntmps5
      go_wp2_with (first | (go_at_call 7; refine HS1.out.step ?_) | (go_at_call 8; refine awake_calls.step (w0 := w) (B := w.heap.size) hb hB ?_; clear hb hB; intro w' hb hB))
      go_ret
      exact ⟨rfl, hb⟩
end Go.Proofs.Ytlcpkhgilihjlaa
