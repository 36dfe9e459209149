/- The walk of the law ShelfFew. -/
import Derived.Test.YtcoodplomnjkcaaShelfLawsC
namespace Go.Proofs.Ytcoodplomnjkcaa
open Go Go.RowKit

theorem greatI_step (l : List Int) (k : Nat) (h : k < l.length) (h0 : 0 < k) : greatI (l.take (k + 1)) = max (greatI (l.take k)) l[k] := by
  rw [take_add l k h]; exact greatI_snoc _ _ (by intro hz; have := congrArg List.length hz; rw [List.length_take, List.length_nil] at this; omega)
theorem both_first (l : List Int) (h : 0 < l.length) : leastI (l.take 1) = l[0] ∧ greatI (l.take 1) = l[0] := by rw [take_add l 0 h]; exact ⟨rfl, rfl⟩
theorem shelfB_len (l : List Int) : (shelfB l).size = (printB (foldI (leastI l)).toNat).size + 1 + bytesL l * l.length := by
  have h8 : bytesL l ≤ 8 := bytesFrom_le_8 _ _
  have h3 := rowsP_length (leastI l) (bytesL l) l
  have h1 : (vp (bytesL l)).length = 1 := by rw [vp_small (by omega)]; rfl
  rw [← data_size, shelfB_data, print_len]
  unfold shelfP
  rw [List.length_append, List.length_append, h3, h1]
  omega

theorem shr_none8' (a k : Nat) (h : a < 256 ^ k) : ((a : Int) / 2 ^ (8 * k) == 0) = true := by
  have e7 : (256 : Nat) ^ k = 2 ^ (8 * k) := by rw [Nat.pow_mul]
  rw [e7] at h
  have h1 : a / 2 ^ (8 * k) = 0 := Nat.div_eq_of_lt h
  have h2 : ((a / 2 ^ (8 * k) : Nat) : Int) = 0 := by rw [h1]; rfl
  rw [Int.natCast_ediv] at h2
  rw [beq_iff_eq]
  simpa using h2

set_option maxHeartbeats 4000000 in
set_option maxRecDepth 100000 in
theorem shelfFew_short {w : World} {v : Value} {l : List Int} (h : IntsIn w v l) (hr : InR l) (hl : l.length ≤ 500) (h0 : 0 < l.length) :
    GivesAt Try.prog 6 #[v] w (.bool true) := by
  obtain ⟨hb, hB⟩ := start w
  have H := Lib.hid h
  rcases h.parts with ⟨rfl, _⟩ | ⟨_, b, off, cap, rfl, hbl, hc⟩
  · simp at h0
  have HC := Lib.hid hc
  have hc0 : w.cell? ⟨b, off, none⟩ = some (.int .i64 l[0]) := hc 0 h0
  have HF1 := Lib.hid (both_first l h0)
  have hl4 : l.length ≤ 4096 := by omega
  have d1 : decide (500 < (l.length : Int)) = false := by rw [decide_eq_false_iff_not]; omega
  have d2 : ((l.length : Int) == 0) = false := by rw [beq_eq_false_iff_ne]; omega
  have d3 : (0 : Int) < (l.length : Int) := by omega
  clear h hc
  unfold GivesAt
  go_enter Try.func6, Try.ntmps6
  go_wp2
  go_quiet (fail)
  go_wp2
  go_loopw [3, 4, 5] (fun x y i wr => ∃ (k : Nat), k ≤ l.length ∧ i = .int .i64 k ∧ x = .int .i64 (leastI (l.take (max k 1))) ∧ y = .int .i64 (greatI (l.take (max k 1))) ∧ Below w.heap.size w wr ∧ w.heap.size ≤ wr.heap.size) (fun _ _ i _ => l.length - (intOf i).toNat)
  case atStart => exact ⟨0, by omega, rfl, by rw [show max 0 1 = 1 from rfl, HF1.out.1], by rw [show max 0 1 = 1 from rfl, HF1.out.2], below_drewN hb _, hB⟩
  case round =>
    clear hb hB hc0
    obtain ⟨k, hk, rfl, rfl, rfl, hb, hB⟩ := hrel
    by_cases hlt : k < l.length
    · have hx := (hb.cell (p := ⟨b, off + k, none⟩) hbl).trans (HC.out k hlt)
      have HM : Hid (leastI (l.take (max (k + 1) 1)) = min (leastI (l.take (max k 1))) l[k] ∧ greatI (l.take (max (k + 1) 1)) = max (greatI (l.take (max k 1))) l[k]) := by
        show _ ∧ _
        rw [show max (k + 1) 1 = k + 1 by omega]
        by_cases hk0 : k = 0
        · subst hk0; rw [show max 0 1 = 1 from rfl, HF1.out.1, HF1.out.2]; constructor <;> omega
        · rw [show max k 1 = k by omega]; exact ⟨leastI_step l k hlt (by omega), greatI_step l k hlt (by omega)⟩
      generalize leastI (l.take (max k 1)) = x at HM
      generalize greatI (l.take (max k 1)) = y at HM
      have i0 : (0 : Int) ≤ (k : Int) := by omega
      have i1 : (k : Int) < (l.length : Int) := by omega
      go_wp2
      go_quiet (fail)
      go_wp2
      go_roundw
      case rel => exact ⟨k + 1, by omega, by go_num, by rw [HM.out.1]; congr 1; omega, by rw [HM.out.2]; congr 1; omega, below_drewN hb _, hB⟩
      case measure => simp [intOf]; omega
    · obtain rfl : k = l.length := by omega
      have HE : Hid (l.take (max l.length 1) = l) := by show _ = _; rw [show max l.length 1 = l.length by omega, List.take_length]
      have hne := ne_of_len h0
      have HN := bytesL_great l hr hne
      have HW := wrap_sub (greatI l) (leastI l)
      have hD := dist_lt (greatI l) (leastI l)
      have h8 : bytesL l ≤ 8 := bytesFrom_le_8 _ _
      have hrg := leastI_range l hr
      have hF := foldI_nat l hr
      have HLEN := shelfB_len l
      have p1 := Lib.hid (fold_nat (leastI l) hrg.1 hrg.2)
      have p2 := Lib.hid (print_calls (foldI (leastI l)).toNat hF)
      have hp1 : (printB (foldI (leastI l)).toNat).size ≤ 10 := by rw [print_len]; exact vp_len_10 hF
      generalize hD' : dist (greatI l) (leastI l) = D at HN HW hD
      clear hD'
      have hN1 := (nb_spec D (bytesL l)).1 (by omega)
      have hN2 : 0 < bytesL l → 256 ^ (bytesL l - 1) ≤ D := fun hp => Nat.le_of_not_lt fun hx => by have := (nb_spec D (bytesL l - 1)).2 hx; omega
      generalize (foldI (leastI l)).toNat = F at p1 p2 hp1 HLEN
      have HBY := Lib.hid (fun (w' : World) (hb' : Below w.heap.size w w') => bytes_calls (H.out.at_ hb') hr)
      generalize hn : bytesL l = n at *
      clear hn HN hF hrg hne
      rw [HE.out]
      have HN1 := Lib.hid hN1
      have HN2 := Lib.hid hN2
      have HLN := Lib.hid HLEN
      have HDD := Lib.hid hD
      clear hN1 hN2 HLEN hD
      have hcases : n = 0 ∨ n = 1 ∨ n = 2 ∨ n = 3 ∨ n = 4 ∨ n = 5 ∨ n = 6 ∨ n = 7 ∨ n = 8 := by omega
      clear h8
      rcases hcases with rfl | rfl | rfl | rfl | rfl | rfl | rfl | rfl | rfl
      · have HL : ((shelfB l).size : Int) = ((printB F).size : Int) + 1 + 0 * (l.length : Int) := by have := HLN.out; omega
        have hx : (D : Int) / 1 = 0 := by have := HN1.out; omega
        go_wp2_with (first
          | (go_at_call 11; refine (HBY.out _ hb).step ?_)
          | (go_at_call 18; refine (p1.out _).mono ?_; rintro e w' ⟨rfl, rfl⟩)
          | (go_at_call 17; refine p2.out.step (w0 := w) (B := w.heap.size) hb hB ?_; clear hb hB; intro w1 hb hB)
          | (go_at_call 8; refine awake_calls.step (w0 := w) (B := w.heap.size) hb hB ?_; clear hb hB; intro w1 hb hB)
          | (go_at_call 9; refine (shelf_print_calls (H.out.at_ hb) hr hl4).step (w0 := w) (B := w.heap.size) hb hB ?_; clear hb hB; intro w1 hb hB))
        go_ret
        exact ⟨rfl, hb⟩
      · have HL : ((shelfB l).size : Int) = ((printB F).size : Int) + 1 + 1 * (l.length : Int) := by have := HLN.out; omega
        have hx : (D : Int) / 256 = 0 := by have := HN1.out; omega
        have hy : decide ((0 : Int) < (D : Int)) = true := by rw [decide_eq_true_eq]; have := HN2.out (by decide); omega
        have hy2 : decide (0 < D) = true := by rw [decide_eq_true_eq]; have := HN2.out (by decide); omega
        have hy3 : 0 < D := by have := HN2.out (by decide); omega
        go_wp2_with (first
          | (go_at_call 11; refine (HBY.out _ hb).step ?_)
          | (go_at_call 18; refine (p1.out _).mono ?_; rintro e w' ⟨rfl, rfl⟩)
          | (go_at_call 17; refine p2.out.step (w0 := w) (B := w.heap.size) hb hB ?_; clear hb hB; intro w1 hb hB)
          | (go_at_call 8; refine awake_calls.step (w0 := w) (B := w.heap.size) hb hB ?_; clear hb hB; intro w1 hb hB)
          | (go_at_call 9; refine (shelf_print_calls (H.out.at_ hb) hr hl4).step (w0 := w) (B := w.heap.size) hb hB ?_; clear hb hB; intro w1 hb hB))
        go_ret
        exact ⟨rfl, hb⟩
      · have HL : ((shelfB l).size : Int) = ((printB F).size : Int) + 1 + 2 * (l.length : Int) := by have := HLN.out; omega
        have hx : (D : Int) / 65536 = 0 := by have := HN1.out; omega
        have hy : decide ((0 : Int) < (D : Int) / 256) = true := by rw [decide_eq_true_eq]; have := HN2.out (by decide); omega
        go_wp2_with (first
          | (go_at_call 11; refine (HBY.out _ hb).step ?_)
          | (go_at_call 18; refine (p1.out _).mono ?_; rintro e w' ⟨rfl, rfl⟩)
          | (go_at_call 17; refine p2.out.step (w0 := w) (B := w.heap.size) hb hB ?_; clear hb hB; intro w1 hb hB)
          | (go_at_call 8; refine awake_calls.step (w0 := w) (B := w.heap.size) hb hB ?_; clear hb hB; intro w1 hb hB)
          | (go_at_call 9; refine (shelf_print_calls (H.out.at_ hb) hr hl4).step (w0 := w) (B := w.heap.size) hb hB ?_; clear hb hB; intro w1 hb hB))
        go_ret
        exact ⟨rfl, hb⟩
      · have HL : ((shelfB l).size : Int) = ((printB F).size : Int) + 1 + 3 * (l.length : Int) := by have := HLN.out; omega
        have hx : (D : Int) / 16777216 = 0 := by have := HN1.out; omega
        have hy : decide ((0 : Int) < (D : Int) / 65536) = true := by rw [decide_eq_true_eq]; have := HN2.out (by decide); omega
        go_wp2_with (first
          | (go_at_call 11; refine (HBY.out _ hb).step ?_)
          | (go_at_call 18; refine (p1.out _).mono ?_; rintro e w' ⟨rfl, rfl⟩)
          | (go_at_call 17; refine p2.out.step (w0 := w) (B := w.heap.size) hb hB ?_; clear hb hB; intro w1 hb hB)
          | (go_at_call 8; refine awake_calls.step (w0 := w) (B := w.heap.size) hb hB ?_; clear hb hB; intro w1 hb hB)
          | (go_at_call 9; refine (shelf_print_calls (H.out.at_ hb) hr hl4).step (w0 := w) (B := w.heap.size) hb hB ?_; clear hb hB; intro w1 hb hB))
        go_ret
        exact ⟨rfl, hb⟩
      · have HL : ((shelfB l).size : Int) = ((printB F).size : Int) + 1 + 4 * (l.length : Int) := by have := HLN.out; omega
        have hx : (D : Int) / 4294967296 = 0 := by have := HN1.out; omega
        have hy : decide ((0 : Int) < (D : Int) / 16777216) = true := by rw [decide_eq_true_eq]; have := HN2.out (by decide); omega
        go_wp2_with (first
          | (go_at_call 11; refine (HBY.out _ hb).step ?_)
          | (go_at_call 18; refine (p1.out _).mono ?_; rintro e w' ⟨rfl, rfl⟩)
          | (go_at_call 17; refine p2.out.step (w0 := w) (B := w.heap.size) hb hB ?_; clear hb hB; intro w1 hb hB)
          | (go_at_call 8; refine awake_calls.step (w0 := w) (B := w.heap.size) hb hB ?_; clear hb hB; intro w1 hb hB)
          | (go_at_call 9; refine (shelf_print_calls (H.out.at_ hb) hr hl4).step (w0 := w) (B := w.heap.size) hb hB ?_; clear hb hB; intro w1 hb hB))
        go_ret
        exact ⟨rfl, hb⟩
      · have HL : ((shelfB l).size : Int) = ((printB F).size : Int) + 1 + 5 * (l.length : Int) := by have := HLN.out; omega
        have hx : (D : Int) / 1099511627776 = 0 := by have := HN1.out; omega
        have hy : decide ((0 : Int) < (D : Int) / 4294967296) = true := by rw [decide_eq_true_eq]; have := HN2.out (by decide); omega
        go_wp2_with (first
          | (go_at_call 11; refine (HBY.out _ hb).step ?_)
          | (go_at_call 18; refine (p1.out _).mono ?_; rintro e w' ⟨rfl, rfl⟩)
          | (go_at_call 17; refine p2.out.step (w0 := w) (B := w.heap.size) hb hB ?_; clear hb hB; intro w1 hb hB)
          | (go_at_call 8; refine awake_calls.step (w0 := w) (B := w.heap.size) hb hB ?_; clear hb hB; intro w1 hb hB)
          | (go_at_call 9; refine (shelf_print_calls (H.out.at_ hb) hr hl4).step (w0 := w) (B := w.heap.size) hb hB ?_; clear hb hB; intro w1 hb hB))
        go_ret
        exact ⟨rfl, hb⟩
      · have HL : ((shelfB l).size : Int) = ((printB F).size : Int) + 1 + 6 * (l.length : Int) := by have := HLN.out; omega
        have hx : (D : Int) / 281474976710656 = 0 := by have := HN1.out; omega
        have hy : decide ((0 : Int) < (D : Int) / 1099511627776) = true := by rw [decide_eq_true_eq]; have := HN2.out (by decide); omega
        go_wp2_with (first
          | (go_at_call 11; refine (HBY.out _ hb).step ?_)
          | (go_at_call 18; refine (p1.out _).mono ?_; rintro e w' ⟨rfl, rfl⟩)
          | (go_at_call 17; refine p2.out.step (w0 := w) (B := w.heap.size) hb hB ?_; clear hb hB; intro w1 hb hB)
          | (go_at_call 8; refine awake_calls.step (w0 := w) (B := w.heap.size) hb hB ?_; clear hb hB; intro w1 hb hB)
          | (go_at_call 9; refine (shelf_print_calls (H.out.at_ hb) hr hl4).step (w0 := w) (B := w.heap.size) hb hB ?_; clear hb hB; intro w1 hb hB))
        go_ret
        exact ⟨rfl, hb⟩
      · have HL : ((shelfB l).size : Int) = ((printB F).size : Int) + 1 + 7 * (l.length : Int) := by have := HLN.out; omega
        have hx : (D : Int) / 72057594037927936 = 0 := by have := HN1.out; omega
        have hy : decide ((0 : Int) < (D : Int) / 281474976710656) = true := by rw [decide_eq_true_eq]; have := HN2.out (by decide); omega
        go_wp2_with (first
          | (go_at_call 11; refine (HBY.out _ hb).step ?_)
          | (go_at_call 18; refine (p1.out _).mono ?_; rintro e w' ⟨rfl, rfl⟩)
          | (go_at_call 17; refine p2.out.step (w0 := w) (B := w.heap.size) hb hB ?_; clear hb hB; intro w1 hb hB)
          | (go_at_call 8; refine awake_calls.step (w0 := w) (B := w.heap.size) hb hB ?_; clear hb hB; intro w1 hb hB)
          | (go_at_call 9; refine (shelf_print_calls (H.out.at_ hb) hr hl4).step (w0 := w) (B := w.heap.size) hb hB ?_; clear hb hB; intro w1 hb hB))
        go_ret
        exact ⟨rfl, hb⟩
      · have HL : ((shelfB l).size : Int) = ((printB F).size : Int) + 1 + 8 * (l.length : Int) := by have := HLN.out; omega
        have hy : decide ((0 : Int) < (D : Int) / 72057594037927936) = true := by rw [decide_eq_true_eq]; have := HN2.out (by decide); omega
        go_wp2_with (first
          | (go_at_call 11; refine (HBY.out _ hb).step ?_)
          | (go_at_call 18; refine (p1.out _).mono ?_; rintro e w' ⟨rfl, rfl⟩)
          | (go_at_call 17; refine p2.out.step (w0 := w) (B := w.heap.size) hb hB ?_; clear hb hB; intro w1 hb hB)
          | (go_at_call 8; refine awake_calls.step (w0 := w) (B := w.heap.size) hb hB ?_; clear hb hB; intro w1 hb hB)
          | (go_at_call 9; refine (shelf_print_calls (H.out.at_ hb) hr hl4).step (w0 := w) (B := w.heap.size) hb hB ?_; clear hb hB; intro w1 hb hB))
        go_ret
        exact ⟨rfl, hb⟩

theorem shelfFew_calls {w : World} {v : Value} {l : List Int} (h : IntsIn w v l) (hr : InR l) : GivesAt Try.prog 6 #[v] w (.bool true) := by
  by_cases hc : l.length ≤ 500 ∧ 0 < l.length
  · exact shelfFew_short h hr hc.1 hc.2
  · obtain ⟨hb, hB⟩ := start w
    have hm := h.len
    unfold maxLen at hm
    obtain ⟨A, cap, rfl, _⟩ := one_at h
    clear h
    have hd : 500 < l.length ∨ l.length = 0 := by omega
    clear hc
    unfold GivesAt
    rcases hd with hd | hd
    · have d1 : decide (500 < (l.length : Int)) = true := by rw [decide_eq_true_eq]; omega
      go_enter Try.func6, Try.ntmps6
      go_wp2_with (go_at_call 8; refine awake_calls.step (w0 := w) (B := w.heap.size) hb hB ?_; clear hb hB; intro w1 hb hB)
      go_ret
      exact ⟨rfl, hb⟩
    · rw [hd]
      clear hd
      go_enter Try.func6, Try.ntmps6
      go_wp2_with (go_at_call 8; refine awake_calls.step (w0 := w) (B := w.heap.size) hb hB ?_; clear hb hB; intro w1 hb hB)
      go_ret
      exact ⟨rfl, hb⟩

theorem shelfBack_calls {w : World} {v : Value} {l : List Int} (h : IntsIn w v l) (hr : InR l) (more : ByteArray) (q : Int) : GivesAt Try.prog 5 #[v, .string more, .int .i64 q] w (.bool true) := by
  by_cases hc : l.length ≤ 500 ∧ more.size ≤ 100
  · exact shelfBack_short h hr more q hc.1 hc.2
  · obtain ⟨hb, hB⟩ := start w
    have hm := h.len
    unfold maxLen at hm
    obtain ⟨A, cap, rfl, _⟩ := one_at h
    clear h
    unfold GivesAt
    by_cases hd : 500 < l.length
    · have d1 : decide (500 < (l.length : Int)) = true := by rw [decide_eq_true_eq]; omega
      clear hc
      go_enter Try.func5, Try.ntmps5
      go_wp2_with (go_at_call 8; refine awake_calls.step (w0 := w) (B := w.heap.size) hb hB ?_; clear hb hB; intro w1 hb hB)
      go_ret
      exact ⟨rfl, hb⟩
    · have d1 : decide (500 < (l.length : Int)) = false := by rw [decide_eq_false_iff_not]; omega
      have d2 : decide (100 < (more.size : Int)) = true := by rw [decide_eq_true_eq]; omega
      clear hc
      go_enter Try.func5, Try.ntmps5
      go_wp2_with (go_at_call 8; refine awake_calls.step (w0 := w) (B := w.heap.size) hb hB ?_; clear hb hB; intro w1 hb hB)
      go_ret
      exact ⟨rfl, hb⟩
end Go.Proofs.Ytcoodplomnjkcaa
