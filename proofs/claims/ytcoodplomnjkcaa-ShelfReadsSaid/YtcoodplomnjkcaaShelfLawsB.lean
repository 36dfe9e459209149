/- The walks of the laws ShelfTells and ShelfReads. -/
import Derived.Test.YtcoodplomnjkcaaShelfLaws
import Derived.Test.YtcoodplomnjkcaaShelfReadRef3
import Derived.Lib.QuietBelow
namespace Go.Proofs.Ytcoodplomnjkcaa
open Go Go.RowKit

theorem IntsIn.at_ {w w' : World} {v : Value} {l : List Int} (h : IntsIn w v l) (hb : Below w.heap.size w w') : IntsIn w' v l := SliceOf.later h hb

set_option maxHeartbeats 1000000 in
set_option maxRecDepth 100000 in
theorem shelfTells_calls {w : World} {v : Value} {l : List Int} (h : IntsIn w v l) (hr : InR l) : GivesAt Try.prog 3 #[v] w (.bool true) := by
  obtain ⟨hb, hB⟩ := start w
  have H := Lib.hid h
  have hm := h.len
  unfold maxLen at hm
  obtain ⟨A, cap, rfl, _⟩ := one_at h
  clear h
  unfold GivesAt
  by_cases hl : 1000 < l.length
  · go_enter Try.func3, Try.ntmps3
    go_wp2_with (go_at_call 8; refine awake_calls.step (w0 := w) (B := w.heap.size) hb hB ?_; clear hb hB; intro w' hb hB)
    go_ret
    exact ⟨rfl, hb⟩
  · have hl4 : l.length ≤ 4096 := by omega
    go_enter Try.func3, Try.ntmps3
    go_wp2_with (first
      | (go_at_call 8; refine awake_calls.step (w0 := w) (B := w.heap.size) hb hB ?_; clear hb hB; intro w' hb hB)
      | (go_at_call 9; refine (shelf_print_calls (H.out.at_ hb) hr hl4).step hb hB ?_; clear hb hB; intro w' hb hB)
      | (go_at_call 10; refine (ref_shelf_print_calls (H.out.at_ hb) hr hl4).step hb hB ?_; clear hb hB; intro w' hb hB)
      | (go_at_call 11; refine (bytes_calls (H.out.at_ hb) hr).step ?_)
      | (go_at_call 12; refine (ref_bytes_calls (H.out.at_ hb)).step ?_))
    go_ret
    exact ⟨rfl, hb⟩

/-- The answer's comparison of two lists. -/
theorem same_calls {w : World} {v v' : Value} {l : List Int} (h : IntsIn w v l) (h' : IntsIn w v' l) (n : Nat) :
    Calls Try.prog 15 #[v, v'] (w.drewN n) fun e w' => e = .returned (.bool true) ∧ ∃ m, w' = w.drewN m := by
  have hm := h.len
  unfold maxLen at hm
  rcases h.parts with ⟨rfl, A, cap, rfl⟩ | ⟨h0, b, off, cap, rfl, hlt, hc⟩
  · obtain ⟨A', cap', rfl, _⟩ := one_at h'
    clear h h' hm
    go_enter Try.func15, Try.ntmps15
    go_wp2
    refine wp_loop_rounds 1 ?_
    rw [rounds_succ]
    go_wp2
    go_ret
    exact ⟨rfl, n, rfl⟩
  · rcases h'.parts with ⟨rfl, _⟩ | ⟨_, b', off', cap', rfl, hlt', hc'⟩
    · simp at h0
    have HC := Lib.hid hc
    have HC' := Lib.hid hc'
    clear h h' hc hc'
    go_enter Try.func15, Try.ntmps15
    go_wp2
    go_loopw [5] (fun i wr => ∃ k q : Nat, k ≤ l.length ∧ i = .int .i64 k ∧ wr = w.drewN q) (fun i _ => l.length - (intOf i).toNat)
    case atStart => exact ⟨0, n, by omega, rfl, rfl⟩
    case round =>
      obtain ⟨k, q, hk, rfl, rfl⟩ := hrel
      by_cases hlt : k < l.length
      · have hx : w.cell? ⟨b, off + k, none⟩ = some (.int .i64 l[k]) := HC.out k hlt
        have hy : w.cell? ⟨b', off' + k, none⟩ = some (.int .i64 l[k]) := HC'.out k hlt
        have i0 : (0 : Int) ≤ (k : Int) := by omega
        have i1 : (k : Int) < (l.length : Int) := by omega
        go_wp2
        go_quiet (fail)
        go_wp2
        go_roundw
        case rel => exact ⟨k + 1, q + nq, by omega, by go_num, rfl⟩
        case measure => simp [intOf]; omega
      · obtain rfl : k = l.length := by omega
        go_wp2
        go_ret
        exact ⟨rfl, q, rfl⟩

theorem same_nil (w : World) : Reads Try.prog 15 #[.slice none 0 0, .slice none 0 0] w (.bool true) := by
  unfold Reads
  go_enter Try.func15, Try.ntmps15
  go_wp2
  refine wp_loop_rounds 1 ?_
  rw [rounds_succ]
  go_wp2
  go_ret
  exact ⟨rfl, rfl⟩

set_option maxHeartbeats 4000000 in
set_option maxRecDepth 100000 in
theorem shelfReads_some {s : ByteArray} {many : Int} (hs : s.size ≤ 1000) {l : List Int} {r : List UInt8} (h : ShelfAt s.data.toList many l r) (w : World) :
    GivesAt Try.prog 4 #[.string s, .int .i64 many] w (.bool true) := by
  obtain ⟨hb, hB⟩ := start w
  have T1 := fun b => shelf_read_some b s (by omega) h
  have T2 := fun b => ref_shelf_read_some b s (by omega) h
  have H1 := Lib.hid T1
  have H2 := Lib.hid T2
  clear T1 T2 h
  generalize mkB r = rr at *
  unfold GivesAt
  go_enter Try.func4, Try.ntmps4
  go_wp2_with fail
  refine (H1.out _).stepB (w0 := w) (B := w.heap.size) ((box_tape w _ _ _).alloc _) (by go_grown) (by go_size) (Nat.le_refl _) ?_
  clear hb hB
  intro v1 w1 hi1 hf1 hT1 hb hB hg1
  have hT2 := ((box_tape (w.alloc (.cells #[.string s, .bool false] 29)) s false 31)).other hg1 (by simp)
  have hT2' : TapeIn 31 w1 (w.heap.size + 1) s false := by simpa using hT2
  have hf1' : Fresh (w.heap.size + 1 + 1) v1 := by simpa using hf1
  clear hT2 hf1 hg1
  go_wp2_with fail
  refine (H2.out _).stepB (w0 := w) (B := w.heap.size) hT2' hb hB (by omega) ?_
  clear hb hB
  intro v2 w2 hi2 hf2 hT2 hb hB hg2
  have hi1' : IntsIn w2 v1 l := SliceOf.fresh hi1 hf1' hg2 (by omega)
  have hT1' := hT1.other hg2 (by omega)
  clear hi1 hf1' hf2 hT1 hT2' hg2
  have HK : ∀ w', Below w2.heap.size w2 w' → w'.cell? ⟨w.heap.size, 0, none⟩ = some (.string rr) ∧ w'.cell? ⟨w.heap.size, 1, none⟩ = some (.bool false) ∧ w'.cell? ⟨w.heap.size + 1, 0, none⟩ = some (.string rr) ∧
      w'.cell? ⟨w.heap.size + 1, 1, none⟩ = some (.bool false) ∧ Hid (Below w2.heap.size w2 w') := fun w' h => ⟨(hT1'.kept h).c0, (hT1'.kept h).c1, (hT2.kept h).c0, (hT2.kept h).c1, h⟩
  have HKH := Lib.hid HK
  have HB := Lib.hid hb
  have HI1 := Lib.hid hi1'
  have HI2 := Lib.hid hi2
  clear HK hb hi1' hi2 hT1' hT2
  have hb := Below.refl w2.heap.size w2
  go_wp2_with fail
  go_region_held3 (fun w' => w'.cell? ⟨w.heap.size, 0, none⟩ = some (.string rr) ∧ w'.cell? ⟨w.heap.size, 1, none⟩ = some (.bool false) ∧ w'.cell? ⟨w.heap.size + 1, 0, none⟩ = some (.string rr) ∧
      w'.cell? ⟨w.heap.size + 1, 1, none⟩ = some (.bool false) ∧ Hid (Below w2.heap.size w2 w')) (first | exact HKH.out _ hb | exact HKH.out _ hb.drew | exact HKH.out _ (below_drewN hb _))
    (first
    | (go_at_call 8; (first | refine awake_calls.step hb hb.size ?_ | refine awake_calls.step hb.drew hb.size ?_); clear hb; intro w' hb _)
    | (go_at_call 15; refine (same_calls (IntsIn.at_ HI1.out hb) (IntsIn.at_ HI2.out hb) 0).mono ?_; rintro e w' ⟨rfl, m, rfl⟩))
  go_wp2
  go_ret
  exact ⟨rfl, HB.out.trans ((below_drewN hb m).mono hB)⟩

set_option maxHeartbeats 4000000 in
set_option maxRecDepth 100000 in
theorem shelfReads_none {s : ByteArray} {many : Int} (hs : s.size ≤ 1000) (h : ¬ ∃ l r, ShelfAt s.data.toList many l r) (w : World) :
    GivesAt Try.prog 4 #[.string s, .int .i64 many] w (.bool true) := by
  obtain ⟨hb, hB⟩ := start w
  have T1 := fun b => shelf_read_none b s (by omega) many h
  have T2 := fun b => ref_shelf_read_none b s (by omega) many h
  have H1 := Lib.hid T1
  have H2 := Lib.hid T2
  clear T1 T2 h
  unfold GivesAt
  go_enter Try.func4, Try.ntmps4
  go_wp2_with fail
  refine (H1.out _).stepB (w0 := w) (B := w.heap.size) ((box_tape w _ _ _).alloc _) (by go_grown) (by go_size) (Nat.le_refl _) ?_
  clear hb hB
  intro w1 hT1 hb hB hg1
  have hT2 := ((box_tape (w.alloc (.cells #[.string s, .bool false] 29)) s false 31)).other hg1 (by simp)
  have hT2' : TapeIn 31 w1 (w.heap.size + 1) s false := by simpa using hT2
  clear hT2 hg1
  go_wp2_with fail
  refine (H2.out _ _ hT2').mono ?_
  rintro e w2 ⟨r', rfl, hT2, hg2⟩
  have hb2 := hb.grown hg2 hB (fun k hk => by cases hk; omega)
  have hB2 := Nat.le_trans hB hg2.size
  have hT1' := hT1.other hg2 (by omega)
  clear hT1 hT2' hg2 hb hB
  have a1 := fun d os => cell_regrown hT1'.c1 d os
  have b1 := fun d os => cell_regrown hT2.c1 d os
  have HB := Lib.hid hb2
  clear hb2 hT1' hT2
  go_wp2_with fail
  refine wp_region_quiet_below (by kernel_rfl) (by kernel_rfl) ?_
  repeat (first | go_big_quiet_skip | (go_big_quiet_want; go_big_quiet_op; first | go_big_quiet_on | (apply Exists.intro; refine ⟨fun _ => ?_, ?_⟩; (first | (go_at_call 8; exact Calls.regrown_of (awake_calls _)) | (go_at_call 15; exact Calls.regrown_of (same_nil _).gives)); go_big_quiet_on)))
  refine wpQuiet_nil ?_
  rintro w3 ⟨p, hw3⟩
  have hb : Below w2.heap.size w2 w3 := hw3 ▸ below_regrown w2 p.d p.os
  clear hw3
  go_wp2
  go_ret
  exact ⟨rfl, HB.out.trans (hb.mono hB2)⟩

theorem shelfReads_calls (s : ByteArray) (many : Int) : Gives Try.prog 4 #[.string s, .int .i64 many] (.bool true) := by
  intro w
  by_cases hs : s.size ≤ 1000
  · by_cases h : ∃ l r, ShelfAt s.data.toList many l r
    · obtain ⟨l, r, h⟩ := h
      exact shelfReads_some hs h w
    · exact shelfReads_none hs h w
  · obtain ⟨hb, hB⟩ := start w
    have d : decide (1000 < (s.size : Int)) = true := by rw [decide_eq_true_eq]; omega
    go_enter Try.func4, Try.ntmps4
    go_wp2_with (go_at_call 8; refine awake_calls.step (w0 := w) (B := w.heap.size) hb hB ?_; clear hb hB; intro w' hb hB)
    go_ret
    exact ⟨rfl, hb⟩
end Go.Proofs.Ytcoodplomnjkcaa
