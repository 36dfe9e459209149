/- The contracts of the answer's Place, alike and Print of layer 5. -/
import Derived.Test.YtlcpkhgilihjlaaGDictPrint
import Derived.Test.YtlcpkhgilihjlaaGZShelfPrintRef
import Derived.Test.YtlcpkhgilihjlaaGZDictWordsRef
namespace Go.Proofs.Ytlcpkhgilihjlaa
open Go Go.RowKit

theorem placeI_at {ws : List ByteArray} {c : ByteArray} {k : Nat} (hk : k < ws.length) (h : ws[k] = c) (hl : ∀ (j : Nat) (hj : j < ws.length), j < k → ws[j] ≠ c) : placeI ws c = k := by
  obtain ⟨q, e, hq, hg⟩ := placeI_mem (ws := ws) (c := c) (h ▸ List.getElem_mem hk)
  have hp : placeN ws c = some q := by
    unfold placeI at e
    cases hp : placeN ws c with
    | none => rw [hp] at e; exact absurd e (by show ¬ (-1 : Int) = _; omega)
    | some x => rw [hp] at e; have e' : (x : Int) = q := e; exact congrArg some (by omega)
  have h2 := (placeN_some ws c q hp).2
  rw [e]
  rcases Nat.lt_trichotomy k q with hlt | rfl | hlt
  · exact absurd (by rw [List.getElem?_eq_getElem hk, h]) (h2 k hlt)
  · rfl
  · exact absurd (by rw [List.getElem?_eq_getElem hq] at hg; simpa using hg) (hl q hq hlt)
theorem placeI_no {ws : List ByteArray} {c : ByteArray} (hl : ∀ (j : Nat) (hj : j < ws.length), ws[j] ≠ c) : placeI ws c = -1 := by
  have : placeN ws c = none := (placeN_none ws c).2 fun hm => by
    obtain ⟨j, hj, e⟩ := List.mem_iff_getElem.1 hm
    exact hl j hj e
  unfold placeI; rw [this]

set_option maxHeartbeats 1000000 in
theorem ref_place_calls {w : World} {v : Value} {ws : List ByteArray} (h : StrsIn w v ws) (c : ByteArray) : Reads Try.prog 13 #[v, .string c] w (.int .i64 (placeI ws c)) := by
  have hm := h.len
  unfold maxLen at hm
  obtain ⟨A, cap, rfl, hat⟩ := one_at h
  have HAT := Lib.hid hat
  clear h hat
  unfold Reads
  go_enter Try.func13, Try.ntmps13
  go_wp2
  go_loop [5] (fun i => ∃ k : Nat, k ≤ ws.length ∧ i = .int .i64 k ∧ Hid (∀ (j : Nat) (hj : j < ws.length), j < k → ws[j] ≠ c)) (fun i => ws.length - (intOf i).toNat)
  case atStart => exact ⟨0, by omega, rfl, fun j hj h0 => absurd h0 (by omega)⟩
  case round =>
    obtain ⟨k, hk, rfl, HL⟩ := hrel
    by_cases hlt : k < ws.length
    · obtain ⟨b, off, rfl, hbl, hc⟩ := HAT.out k hlt
      have hx := hc k hlt
      clear hc
      rcases str_ne_cases ws[k] c with ⟨e, g1, g2⟩ | ⟨e, g1, g2⟩
      · have HP := Lib.hid (placeI_at hlt e HL.out)
        clear e
        go_wp2
        go_ret
        exact ⟨ret_int HP.out.symm, rfl⟩
      · have HN : Hid (∀ (j : Nat) (hj : j < ws.length), j < k + 1 → ws[j] ≠ c) := fun j hj h1 => by
          by_cases ejk : j = k
          · subst ejk; exact e
          · exact HL.out j hj (by omega)
        clear e
        go_wp2
        go_round
        case rel => exact ⟨k + 1, by omega, by go_num, HN.out⟩
        case measure => simp [intOf]; omega
    · have HP := Lib.hid (placeI_no (ws := ws) (c := c) fun j hj => HL.out j hj (by omega))
      go_wp2
      go_ret
      exact ⟨ret_int HP.out.symm, rfl⟩

theorem take_min_eq {a b : List ByteArray} {k : Nat} (he : a.take k = b.take k) (hk : ¬ (k < a.length ∧ k < b.length)) : (a = b) ↔ a.length = b.length := by
  constructor
  · rintro rfl; rfl
  · intro hl
    rw [List.take_of_length_le (by omega), List.take_of_length_le (by omega)] at he
    exact he

set_option maxHeartbeats 1000000 in
theorem ref_alike_calls {w : World} {va vb : Value} {a b : List ByteArray} (ha : StrsIn w va a) (hb : StrsIn w vb b) : GivesAt Try.prog 34 #[va, vb] w (.bool (decide (a = b))) := by
  have hg := (start w).1
  have hma := ha.len
  have hmb := hb.len
  unfold maxLen at hma hmb
  obtain ⟨A, ca, rfl, hata⟩ := one_at ha
  obtain ⟨B, cb, rfl, hatb⟩ := one_at hb
  have HA := Lib.hid hata
  have HB := Lib.hid hatb
  clear ha hb hata hatb
  unfold GivesAt
  go_enter Try.func34, Try.ntmps34
  go_wp2
  go_loopw [5] (fun i wr => ∃ k : Nat, k ≤ a.length ∧ k ≤ b.length ∧ i = .int .i64 k ∧ Hid (a.take k = b.take k) ∧ Below w.heap.size w wr) (fun i _ => a.length - (intOf i).toNat)
  case atStart => exact ⟨0, by omega, by omega, rfl, show a.take 0 = b.take 0 from rfl, hg⟩
  case round =>
    clear hg
    obtain ⟨k, hk, hk2, rfl, HE, hg⟩ := hrel
    by_cases hlt : k < a.length ∧ k < b.length
    · obtain ⟨hlt, hlt2⟩ := hlt
      obtain ⟨b1, o1, rfl, hl1, hc1⟩ := HA.out k hlt
      obtain ⟨b2, o2, rfl, hl2, hc2⟩ := HB.out k hlt2
      have hx1 := (hg.cell (p := ⟨b1, o1 + k, none⟩) hl1).trans (hc1 k hlt)
      have hx2 := (hg.cell (p := ⟨b2, o2 + k, none⟩) hl2).trans (hc2 k hlt2)
      have hT1 := take_add a k hlt
      have hT2 := take_add b k hlt2
      have hne : a[k] ≠ b[k] → ¬ a = b := by intro h e; subst e; exact h rfl
      have d1 : decide ((k : Int) < (a.length : Int)) = true := by rw [decide_eq_true_eq]; omega
      have d2 : decide ((k : Int) < (b.length : Int)) = true := by rw [decide_eq_true_eq]; omega
      generalize a[k] = x at *
      generalize b[k] = y at *
      rcases str_ne_cases x y with ⟨he, g1, g2⟩ | ⟨he, g1, g2⟩
      · have HN : Hid (a.take (k + 1) = b.take (k + 1)) := by show _ = _; rw [hT1, hT2, HE.out, he]
        clear hT1 hT2 hne he hc1 hc2
        go_wp2
        go_quiet (fail)
        go_wp2
        go_roundw
        case rel => exact ⟨k + 1, by omega, by omega, by go_num, HN, below_drewN hg _⟩
        case measure => simp [intOf]; omega
      · have HD := Lib.hid (show decide (a = b) = false by rw [decide_eq_false_iff_not]; exact hne he)
        clear hT1 hT2 hne he hc1 hc2
        go_wp2
        go_quiet (fail)
        go_wp2
        go_ret
        exact ⟨ret_bool HD.out.symm, below_drewN hg _⟩
    · have HD := Lib.hid (show ((a.length : Int) == (b.length : Int)) = decide (a = b) by
        rw [Bool.eq_iff_iff, beq_iff_eq, decide_eq_true_eq, take_min_eq HE.out hlt]; omega)
      by_cases h1 : k < a.length
      · have h2 : ¬ k < b.length := fun h => hlt ⟨h1, h⟩
        have d1 : decide ((k : Int) < (a.length : Int)) = true := by rw [decide_eq_true_eq]; omega
        have d2 : decide ((k : Int) < (b.length : Int)) = false := by rw [decide_eq_false_iff_not]; omega
        clear hlt
        go_wp2
        go_ret
        exact ⟨ret_bool HD.out, hg⟩
      · have d1 : decide ((k : Int) < (a.length : Int)) = false := by rw [decide_eq_false_iff_not]; omega
        clear hlt
        go_wp2
        go_ret
        exact ⟨ret_bool HD.out, hg⟩

theorem Try.infoJ3 : (Try.prog.info? 3).map (fun i => (i.zero, i.size, i.bytes)) = some (some (.int .i64 0), 1, 8) := by kernel_rfl
set_option maxHeartbeats 1000000 in
set_option maxRecDepth 100000 in
theorem ref_dict_print_calls {w : World} {v : Value} {l : List ByteArray} (h : StrsIn w v l) (hlen : l.length ≤ 4096) (hs : ∀ c ∈ l, c.size ≤ 1000000) : GivesAt Try.prog 15 #[v] w (.string (dictB l)) := by
  obtain ⟨i0, hi, hz0, hz1, hz2⟩ := info_parts Try.infoJ3
  have HW := Lib.hid (ref_words_calls h (by omega))
  have HS : Hid (∀ c ∈ wordsOf l, c.size ≤ 1000000) := fun c hc => hs c (((wordsOf_spec l).2 c).1 hc)
  have hwl := wordsOf_length l
  have HR := Lib.hid (places_range l (by omega))
  have HPL := Lib.hid (show (placesOf l).length = l.length by unfold placesOf; rw [List.length_map])
  have HB := Lib.hid (dictB_parts l)
  have hsb := shelfB_most (placesOf l) HR.out
  have HPG : Hid (∀ (k : Nat) (hk : k < l.length), ((placesOf l).map (Value.int .i64))[k]? = some (.int .i64 (placeI (wordsOf l) l[k]))) := by
    intro k hk; unfold placesOf; rw [List.getElem?_map, List.getElem?_map, List.getElem?_eq_getElem hk]; rfl
  have HV := Lib.hid h
  obtain ⟨A, cap, rfl, hatl⟩ := one_at h
  have HATL := Lib.hid hatl
  clear h hs hatl
  unfold GivesAt
  go_enter Try.func15, Try.ntmps15
  go_wp2_with fail
  refine HW.out.mono ?_
  rintro e w1 ⟨v1, rfl, hO1, hb⟩
  have HV1 := Lib.hid (StrsIn.kept HV.out hb)
  have HW1 : Hid (StrsIn w1 v1 (wordsOf l)) := hO1.slice
  have HB0 := Lib.hid hb
  clear HW hO1 HV
  generalize wordsOf l = ws at *
  obtain ⟨A1, cap1, rfl, hat⟩ := one_at HW1.out
  have HAT := Lib.hid hat
  have hw : IntKind.u64.wrap (ws.length : Int) = (ws.length : Int) := wrap_lt _ (by omega)
  have p1 := Lib.hid (ref_print_calls ws.length (by omega))
  have hz : (printB ws.length).size ≤ 10 := by rw [print_len]; exact vp_len_10 (by omega)
  clear hat hb
  go_wp2_with (go_at_call 27; refine p1.out.step (w0 := w1) (B := w1.heap.size) (.refl _ _) (Nat.le_refl _) ?_; intro w2 hq _)
  clear hw
  have HP0 : Hid (printB ws.length = mkB (vp ws.length ++ (ws.take 0).flatMap cellP)) := by show _ = _; simp; rfl
  go_loopw [4, 5] (fun v i wr => ∃ k : Nat, k ≤ ws.length ∧ i = .int .i64 k ∧ v = .string (mkB (vp ws.length ++ (ws.take k).flatMap cellP)) ∧ Below w1.heap.size w1 wr) (fun _ i _ => ws.length - (intOf i).toNat)
  case atStart => exact ⟨0, Nat.zero_le _, rfl, by rw [HP0.out], hq⟩
  case round =>
    clear hq
    obtain ⟨k, hk, rfl, rfl, hb1⟩ := hrel
    have hB := hb1.size
    have hcz := cells_size (ws.take k) (fun c hc => HS.out c (List.mem_of_mem_take hc))
    rw [List.length_take] at hcz
    have hcz2 : ((ws.take k).flatMap cellP).length ≤ 1000010 * 4096 := Nat.le_trans hcz (Nat.mul_le_mul_left _ (by omega))
    clear hcz
    have hlz : (mkB (vp ws.length ++ (ws.take k).flatMap cellP)).size ≤ 1000010 * 4097 := by rw [mkB_size, List.length_append]; rw [print_len] at hz; omega
    clear hcz2
    by_cases hlt : k < ws.length
    · obtain ⟨b, off, rfl, hbl, hc⟩ := HAT.out k hlt
      have hx := (hb1.cell (p := ⟨b, off + k, none⟩) hbl).trans (hc k hlt)
      have HT := Lib.hid (show mkB (vp ws.length ++ (ws.take k).flatMap cellP) ++ mkB (cellP ws[k]) = mkB (vp ws.length ++ (ws.take (k + 1)).flatMap cellP) by
        rw [mkB_append, cells_take ws k hlt, List.append_assoc]; rfl)
      have hr1 := HS.out _ (List.getElem_mem hlt)
      have p2 := Lib.hid (ref_runs_cell_calls ws[k] (by omega))
      have z1 : (mkB (cellP ws[k])).size ≤ 1000010 := by rw [mkB_size]; have := (cellP_length ws[k]).resolve_right (by omega); omega
      generalize mkB (cellP ws[k]) = X at *
      generalize mkB (vp ws.length ++ (ws.take k).flatMap cellP) = L at *
      have t1 : ¬ 9223372036854775807 < L.size + X.size := by omega
      clear hc
      go_wp2_with (go_at_call 28; refine p2.out.step (w0 := w1) (B := w1.heap.size) hb1 hB ?_; clear hb1 hB; intro w5 hb1 hB)
      go_roundw
      case rel => exact ⟨k + 1, by omega, by go_num, by rw [HT.out], hb1⟩
      case measure => simp [intOf]; omega
    · obtain rfl : k = ws.length := by omega
      rw [List.take_length] at hlz ⊢
      generalize hL : mkB (vp ws.length ++ ws.flatMap cellP) = L at *
      obtain ⟨w3, hw3⟩ : ∃ w3, w3 = wr := ⟨_, rfl⟩
      subst hw3
      have HB1 := Lib.hid hb1
      clear hL
      go_wp2
      go_loopw [6, 7] (fun v i wr => ∃ k : Nat, k ≤ l.length ∧ i = .int .i64 k ∧ Own wr w3.heap.size 1 v k (((placesOf l).map (Value.int .i64)).take k) ∧ Below w3.heap.size w3 wr) (fun _ i _ => l.length - (intOf i).toNat)
      case atStart => exact ⟨0, Nat.zero_le _, rfl, Own.nil_ _ _ _, .refl _ _⟩
      case round =>
        clear hb1
        obtain ⟨k, hk, rfl, hO, hb2⟩ := hrel
        have hB2 := hb2.size
        by_cases hlt2 : k < l.length
        · obtain ⟨b, off, rfl, hbl, hc⟩ := HATL.out k hlt2
          have hbw : b < w1.heap.size := Nat.lt_of_lt_of_le hbl HB0.out.size
          have hx1 := (HB0.out.cell (p := ⟨b, off + k, none⟩) hbl).trans (hc k hlt2)
          have hx2 := (HB1.out.cell (p := ⟨b, off + k, none⟩) hbw).trans hx1
          have hx := (hb2.cell (p := ⟨b, off + k, none⟩) (Nat.lt_of_lt_of_le hbw HB1.out.size)).trans hx2
          have H3 := Lib.hid (ref_place_calls (StrsIn.kept HW1.out (HB1.out.trans (hb2.mono HB1.out.size))) l[k])
          have HG := HPG.out k hlt2
          have HT2 := Lib.hid (show ((placesOf l).map (Value.int .i64)).take (k + 1) = ((placesOf l).map (Value.int .i64)).take k ++ [.int .i64 (placeI ws l[k])] by
            rw [List.take_add_one, HG]; rfl)
          generalize ((placesOf l).map (Value.int .i64)).take k = xs at *
          generalize l[k] = c at *
          generalize placeI ws c = pl at *
          obtain ⟨A3, c3, rfl⟩ := hO.len
          clear hc hx1 hx2 HG
          go_wp2_with (first | (go_at_call 13; refine H3.out.step ?_) | (at_builtin; refine wpList_append_Own rfl _ _ 45 rfl 3 i0 (.int .i64 0) 1 8 Try.underlying45 hi hz0 hz1 hz2 rfl (by decide) _ _ _ rfl (Own.alloc hO _) ⟨wr.heap.size, 0, none⟩ 1 1 [_] rfl rfl (one_new _ _ _) (one_int _ _) ?c1 ?c2 (Nat.le_trans hB2 (by simp)) ?_))
          case c1 => unfold maxLen; omega
          case c2 => omega
          intro v4 w4 hO4 hg4
          have hb4 := (hb2.alloc hB2 (.cells #[Value.int .i64 pl] 3)).grown hg4 (Nat.le_trans hB2 (by simp)) (fun j hj => (hO.lt j hj).1)
          clear hO hg4 hb2 hB2 hx
          go_wp2
          go_roundw
          case rel => exact ⟨k + 1, by omega, by go_num, by rw [HT2.out]; exact hO4, hb4⟩
          case measure => simp [intOf]; omega
        · obtain rfl : k = l.length := by omega
          rw [List.take_of_length_le (by rw [List.length_map, HPL.out]; exact Nat.le_refl _)] at hO
          have hO' := Lib.hid hO
          obtain ⟨A3, c3, rfl⟩ := hO.len
          have hii : IntsIn wr (.slice A3 l.length c3) (placesOf l) := by unfold IntsIn; rw [HPL.out]; exact hO'.out.slice
          have H4 := Lib.hid (ref_shelf_print_calls hii HR.out (by rw [HPL.out]; exact hlen))
          have t2 : ¬ 9223372036854775807 < L.size + (shelfB (placesOf l)).size := by have := HPL.out; omega
          have hbb := Lib.hid (HB0.out.trans ((HB1.out.trans (hb2.mono HB1.out.size)).mono HB0.out.size))
          have HB' := Lib.hid HB.out
          generalize shelfB (placesOf l) = SB at *
          clear hO hii hsb
          go_wp2_with (go_at_call 29; refine H4.out.step (w0 := wr) (B := wr.heap.size) (.refl _ _) (Nat.le_refl _) ?_; intro w6 hq6 _)
          go_ret
          exact ⟨ret_str HB'.out, hbb.out.trans (hq6.mono hbb.out.size)⟩
end Go.Proofs.Ytlcpkhgilihjlaa
