/- The walk of the law ShelfBack. -/
import Derived.Test.YtcoodplomnjkcaaShelfLawsB
namespace Go.Proofs.Ytcoodplomnjkcaa
open Go Go.RowKit

theorem same_at {w : World} {v v' : Value} {l : List Int} (h : IntsIn w v l) (h' : IntsIn w v' l) : GivesAt Try.prog 15 #[v, v'] w (.bool true) :=
  Calls.mono (same_calls h h' 0) fun _ _ ⟨he, m, hw⟩ => ⟨he, hw ▸ below_drewN (.refl _ w) m⟩
theorem shelfB_size (l : List Int) (hr : InR l) : (shelfB l).size ≤ 20 + 8 * l.length := by
  have h1 := vp_len_10 (foldI_nat l hr)
  have h8 : bytesL l ≤ 8 := bytesFrom_le_8 _ _
  have h2 := vp_len_10 (n := bytesL l) (by omega)
  have h3 := rowsP_length (leastI l) (bytesL l) l
  have h4 := Nat.mul_le_mul_right l.length h8
  rw [← data_size, shelfB_data]
  unfold shelfP
  rw [List.length_append, List.length_append, h3]
  omega
theorem shelf_at (l : List Int) (hr : InR l) (h4 : l.length ≤ 4096) (more : ByteArray) : ShelfAt (shelfB l ++ more).data.toList l.length l more.data.toList :=
  ⟨by omega, by omega, rfl, hr, by rw [data_append]; rfl⟩
theorem wrap_shift (x q : Int) : wrap64 (IntKind.u64.wrap (IntKind.u64.wrap x + IntKind.u64.wrap q)) = wrap64 (x + q) := by
  simp only [IntKind.wrap_u64]; unfold wrap64; omega
def shifted (q : Int) (l : List Int) : List Int := l.map fun x => wrap64 (x + q)
theorem shifted_step (q : Int) (l : List Int) (k : Nat) (h : k < l.length) : (shifted q (l.take (k + 1))).map (Value.int .i64) = (shifted q (l.take k)).map (Value.int .i64) ++ [.int .i64 (wrap64 (l[k] + q))] := by
  unfold shifted
  rw [take_add l k h, List.map_append, List.map_append]; rfl
theorem shifted_range (q : Int) (l : List Int) : InR (shifted q l) := by
  intro x hx
  obtain ⟨y, _, rfl⟩ := List.mem_map.1 hx
  unfold wrap64; omega
theorem shifted_length (q : Int) (l : List Int) : (shifted q l).length = l.length := List.length_map _

set_option maxHeartbeats 4000000 in
set_option maxRecDepth 100000 in
theorem shelfBack_short {w : World} {v : Value} {l : List Int} (h : IntsIn w v l) (hr : InR l) (more : ByteArray) (q : Int) (hl : l.length ≤ 500) (hm : more.size ≤ 100) :
    GivesAt Try.prog 5 #[v, .string more, .int .i64 q] w (.bool true) := by
  obtain ⟨i0, hi, hz0, hz1, hz2⟩ := info_parts Try.info3
  obtain ⟨hb, hB⟩ := start w
  have H := Lib.hid h
  obtain ⟨A, cap, rfl, hat⟩ := one_at h
  have HAT := Lib.hid hat
  have HS := shelfB_size l hr
  have hsz : (shelfB l).size ≤ 5000 := by omega
  have hl4 : l.length ≤ 4096 := by omega
  have T1 := fun b => shelf_read_some b (shelfB l ++ more) (by rw [ByteArray.size_append]; omega) (shelf_at l hr hl4 more)
  rw [mkB_of] at T1
  have HT1 := Lib.hid T1
  have hms := shifted_range q l
  have hml := shifted_length q l
  have HS2 := shelfB_size (shifted q l) hms
  have T2 := fun b => shelf_read_some b (shelfB (shifted q l)) (by omega) (r := []) (many := (l.length : Int)) ⟨by omega, by omega, by rw [hml], hms, by rw [List.append_nil]; rfl⟩
  have HT2 := Lib.hid T2
  have HML := Lib.hid hml
  have e0 : (mkB []).toList = [] := by rw [ByteArray.toList_eq]; rfl
  clear h hat T1 T2 HS HS2 hml
  unfold GivesAt
  go_enter Try.func5, Try.ntmps5
  go_wp2_with (go_at_call 9; refine (shelf_print_calls (H.out.at_ hb) hr hl4).step (w0 := w) (B := w.heap.size) hb hB ?_; clear hb hB; intro w1 hb hB)
  go_wp2_with (go_at_call 13; refine (HT1.out _).stepB (w0 := w) (B := w.heap.size) (box_tape w1 _ _ _) (below_alloc hb hB _).1 (below_alloc hb hB _).2 hB ?_)
  clear hb hB
  intro v1 w2 hi1 _ hT1 hb hB _
  have c0 := hT1.c0
  have c1 := hT1.c1
  go_wp2_with (go_at_call 15; refine (same_at hi1 (H.out.at_ hb)).step hb hB ?_)
  clear hb hB hi1 hT1 c0 c1
  intro w3 hb hB
  go_wp2
  go_loopw [10, 11] (fun v i wr => ∃ (k : Nat), k ≤ l.length ∧ i = .int .i64 k ∧ Own wr w.heap.size 1 v k ((shifted q (l.take k)).map (Value.int .i64)) ∧ Below w.heap.size w wr ∧ w.heap.size ≤ wr.heap.size) (fun _ i _ => l.length - (intOf i).toNat)
  case atStart => exact ⟨0, by omega, rfl, Own.nil_ _ _ _, hb, hB⟩
  case round =>
    clear hb hB
    obtain ⟨k, hk, rfl, hO, hb, hB⟩ := hrel
    by_cases hlt : k < l.length
    · obtain ⟨b, off, rfl, hbl, hc⟩ := HAT.out k hlt
      have hx := (hb.cell (p := ⟨b, off + k, none⟩) hbl).trans (hc k hlt)
      have HSt := Lib.hid (shifted_step q l k hlt)
      have HW := wrap_shift l[k] q
      clear hc
      go_wp2_with (at_builtin; refine wpList_append_Own rfl _ _ 22 rfl 3 i0 (.int .i64 0) 1 8 Try.underlying22 hi hz0 hz1 hz2 rfl (by decide) _ _ _ rfl (Own.alloc hO _) ⟨wr.heap.size, 0, none⟩ 1 1 [_] rfl rfl (one_new _ _ _) (one_int _ _) ?c1 ?c2 (below_alloc hb hB _).2 ?_)
      case c1 => unfold maxLen; omega
      case c2 => omega
      intro v' w4 hO4 hg4
      have hb4 := (Own.alloc hO (.cells #[.int .i64 (wrap64 (l[k] + q))] 3)).grown (below_alloc hb hB _).1 (below_alloc hb hB _).2 hg4
      have hB4 : w.heap.size ≤ w4.heap.size := hb4.size
      clear hO hb hB hg4
      go_wp2
      go_roundw
      case rel => exact ⟨k + 1, by omega, by go_num, by rw [HSt.out]; exact hO4, hb4, hB4⟩
      case measure => simp [intOf]; omega
    · obtain rfl : k = l.length := by omega
      obtain ⟨A2, cap2, rfl⟩ := hO.len
      have hsl := hO.slice
      rw [List.take_length] at hsl
      have hi2 : IntsIn wr (.slice A2 l.length cap2) (shifted q l) := by unfold IntsIn; rw [HML.out]; exact hsl
      clear hsl hO
      go_wp2_with (go_at_call 9; refine (shelf_print_calls hi2 hms (by rw [HML.out]; exact hl4)).stepB (w0 := w) (B := w.heap.size) hb hB ?_)
      clear hb hB
      intro w5 hb hB hk5
      have hi3 := IntsIn.kept hi2 hk5
      clear hi2 hk5
      go_wp2_with (go_at_call 13; refine (HT2.out _).stepB (w0 := w) (B := w.heap.size) (box_tape w5 _ _ _) (below_alloc hb hB _).1 (below_alloc hb hB _).2 hB ?_)
      clear hb hB
      intro v2 w6 hi4 _ hT6 hb hB hg6
      have hi5 := IntsIn.kept hi3 (boxed_below hg6)
      clear hi3 hg6
      go_wp2_with (go_at_call 8; refine awake_calls.stepB (w0 := w) (B := w.heap.size) hb hB ?_)
      clear hb hB
      intro w7 hb hB hk7
      have hi6 := IntsIn.kept hi4 hk7
      have hi7 := IntsIn.kept hi5 hk7
      have hT7 := hT6.kept hk7
      clear hi4 hi5 hT6 hk7
      go_wp2_with (go_at_call 15; refine (same_at hi6 hi7).stepB (w0 := w) (B := w.heap.size) hb hB ?_)
      clear hb hB
      intro w8 hb hB hk8
      have hT8 := hT7.kept hk8
      clear hT7 hk8 hi6 hi7
      go_wp2_with (go_at_call 16; refine (tdone_calls _ _ _ _ hT8).mono ?_; rintro e w' ⟨rfl, rfl⟩)
      go_ret
      exact ⟨rfl, hb⟩
end Go.Proofs.Ytcoodplomnjkcaa
