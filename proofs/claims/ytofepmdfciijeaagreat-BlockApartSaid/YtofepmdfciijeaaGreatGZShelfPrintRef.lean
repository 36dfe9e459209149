/- The contract of the answer's Print of layer 3. -/
import Derived.Test.YtofepmdfciijeaaGreatGShelf
namespace Go.Proofs.YtofepmdfciijeaaGreat
open Go Go.RowKit

theorem ref_fold_nat (n : Int) (h0 : -9223372036854775808 ≤ n) (h1 : n ≤ 9223372036854775807) (w : World) :
    Calls Tryz.prog 50 #[.int .i64 n] w fun e w' => e = .returned (.int .u64 ((foldI n).toNat : Nat)) ∧ w = w' := by
  have k := ref_fold_calls n h0 h1 w
  have e : ((foldI n).toNat : Int) = foldI n := by have := (foldI_range n h0 h1).1; omega
  rw [e]; exact k
theorem low_byte (D j : Nat) : ((D : Int) / 2 ^ (8 * j) % 256) = ((D / 256 ^ j % 256 : Nat) : Int) := by
  have e7 : (256 : Nat) ^ j = 2 ^ (8 * j) := by rw [Nat.pow_mul]
  rw [e7]
  simp

set_option maxHeartbeats 1000000 in
theorem ref_shelf_print_calls {w : World} {v : Value} {l : List Int} (h : IntsIn w v l) (hr : InR l) (hlen : l.length ≤ 4096) : GivesAt Tryz.prog 22 #[v] w (.string (shelfB l)) := by
  obtain ⟨hb, hB⟩ := start w
  have hL := leastI_range l hr
  have hF := Lib.hid (foldI_nat l hr)
  have hN := bytesFrom_le_8 (leastI l) l
  have HL := Lib.hid (shelfP_take l)
  have p1 := Lib.hid (ref_fold_nat (leastI l) hL.1 hL.2)
  have H1 := Lib.hid (ref_least_calls h)
  have H2 := Lib.hid (ref_bytes_calls h)
  have hN' : bytesL l ≤ 8 := hN
  obtain ⟨A, cap, rfl, hat⟩ := one_at h
  have HAT := Lib.hid hat
  clear h hr hN hat
  have HW := fun x => Lib.hid (wrap_sub x (leastI l))
  generalize hm : leastI l = m at *
  generalize hn : bytesL l = n at *
  clear hm hn
  have p2 := Lib.hid (ref_print_calls (foldI m).toNat hF.out)
  have p3 := Lib.hid (ref_print_calls n (by omega))
  have hp1 : (printB (foldI m).toNat).size ≤ 10 := by rw [print_len]; exact vp_len_10 hF.out
  have hp2 : (printB n).size ≤ 10 := by rw [print_len]; exact vp_len_10 (by omega)
  generalize (foldI m).toNat = F at *
  unfold GivesAt
  go_enter Tryz.func22, Tryz.ntmps22
  go_wp2_with (first | (go_at_call 48; refine H1.out.step ?_) | (go_at_call 49; refine H2.out.step ?_) | (go_at_call 50; refine (p1.out _).mono ?_; rintro e w' ⟨rfl, rfl⟩) | (go_at_call_of 47 (Value.int .u64 (F : Int)); refine p2.out.step (w0 := w) (B := w.heap.size) hb hB ?_; clear hb hB; intro wb hb hB) | (go_at_call_of 47 (Value.int .u64 (n : Int)); refine p3.out.step (w0 := w) (B := w.heap.size) hb hB ?_; clear hb hB; intro wb hb hB))
  have hsz : (printB F ++ printB n).data.toList.length = (printB F).size + (printB n).size := by rw [data_append, List.length_append, data_size, data_size]
  have HP0 := Lib.hid (show printB F ++ printB n = mkB (printB F ++ printB n).data.toList by rw [mkB_of])
  generalize (printB F ++ printB n).data.toList = P0 at HL hsz HP0
  have HZ := Lib.hid (show P0.length ≤ 20 by omega)
  clear hsz hp1 hp2 p1 p2 p3
  go_loopw [5, 6] (fun s i wr => ∃ (k : Nat), k ≤ l.length ∧ i = .int .i64 k ∧ s = .string (mkB (P0 ++ rowsP m n (l.take k))) ∧ Below w.heap.size w wr ∧ w.heap.size ≤ wr.heap.size) (fun _ i _ => l.length - (intOf i).toNat)
  case atStart => exact ⟨0, by omega, rfl, by rw [show rowsP m n (l.take 0) = [] from rfl, List.append_nil, ← HP0.out], hb, hB⟩
  case round =>
    clear hb hB
    obtain ⟨k, hk, rfl, rfl, hb, hB⟩ := hrel
    by_cases hlt : k < l.length
    · obtain ⟨b, off, rfl, hbl, hc⟩ := HAT.out k hlt
      have hx := (hb.cell (p := ⟨b, off + k, none⟩) hbl).trans (hc k hlt)
      have HS := Lib.hid (show P0 ++ rowsP m n (l.take (k + 1)) = P0 ++ rowsP m n (l.take k) ++ le n (dist l[k] m) by rw [rowsP_step m n l k hlt, List.append_assoc])
      have hW := (HW l[k]).out
      have hd := dist_lt l[k] m
      have HR := Lib.hid (rowsP_length m n (l.take k))
      have HM : n * (l.take k).length ≤ 8 * 4096 := Nat.mul_le_mul hN' (by rw [List.length_take]; omega)
      have HQ := Lib.hid (show (P0 ++ rowsP m n (l.take k)).length ≤ 100000 by rw [List.length_append, HR.out]; have := HZ.out; omega)
      generalize dist l[k] m = D at hW hd HS
      generalize P0 ++ rowsP m n (l.take k) = P1 at HQ HS
      clear hc HM
      obtain ⟨wo, rfl⟩ : ∃ wo : World, wo = wr := ⟨_, rfl⟩
      go_wp2
      clear hx hW
      go_loopw [5, 8] (fun s j wr => ∃ (J : Nat), J ≤ n ∧ j = .int .i64 J ∧ s = .string (mkB (P1 ++ le J D)) ∧ Below w.heap.size w wr ∧ w.heap.size ≤ wr.heap.size) (fun _ j _ => n - (intOf j).toNat)
      case atStart => exact ⟨0, by omega, rfl, by simp [le], hb, hB⟩
      case round =>
        clear hb hB
        obtain ⟨J, hJ, rfl, rfl, hb, hB⟩ := hrel
        by_cases hJn : J < n
        · have hcv := fun X => vconv1 wr 5 X wr.heap.size rfl
          have HY := Lib.hid (low_byte D J)
          have HU := Lib.hid (le_snoc J D)
          have hq : (mkB (P1 ++ le J D)).size ≤ 100008 := by rw [mkB_size, List.length_append, le_length]; have := HQ.out; omega
          have hq2 : ∀ X, (strOfNums [X]).size = 1 := fun X => strOfNums_size [X]
          generalize hT : P1 ++ le J D = T at hq
          have HT := Lib.hid hT
          clear hT
          go_wp2
          go_roundw
          case rel => exact ⟨J + 1, by omega, by go_num, by rw [mkB_snoc, HY.out, ← HT.out, HU.out, ← List.append_assoc]; rfl, (below_alloc hb hB _).1, (below_alloc hb hB _).2⟩
          case measure => simp [intOf]; omega
        · obtain rfl : J = n := by omega
          go_wp2
          go_roundw
          case rel => exact ⟨k + 1, by omega, by go_num, by rw [HS.out], hb, hB⟩
          case measure => simp [intOf]; omega
    · obtain rfl : k = l.length := by omega
      have HT := Lib.hid (show mkB (P0 ++ rowsP m n (l.take l.length)) = shelfB l by rw [List.take_length]; unfold shelfB; rw [HL.out]; rfl)
      go_wp2
      go_ret
      exact ⟨ret_str (by rw [← HT.out, List.take_length]), hb⟩
end Go.Proofs.YtofepmdfciijeaaGreat
