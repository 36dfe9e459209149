/- The law RunsTells. -/
import Derived.Test.YtkmmjdjckedghaaRunsLaws
namespace Go.Proofs.Ytkmmjdjckedghaa
open Go Go.RowKit

theorem OwnRuns.strs {w : World} {B : Nat} {c n : Value} {rs : List (ByteArray × Nat)} (h : OwnRuns w B c n rs) : StrsIn w c (rs.map (·.1)) := by
  unfold StrsIn
  rw [List.length_map, List.map_map]
  exact h.1.slice
theorem OwnRuns.ints {w : World} {B : Nat} {c n : Value} {rs : List (ByteArray × Nat)} (h : OwnRuns w B c n rs) : IntsIn w n (rs.map fun x => (x.2 : Int)) := by
  unfold IntsIn
  rw [List.length_map, List.map_map]
  exact h.2.1.slice

set_option maxHeartbeats 4000000 in
set_option maxRecDepth 100000 in
theorem runsTells_calls {w : World} {v : Value} {l : List ByteArray} (h : StrsIn w v l) : GivesAt Try.prog 3 #[v] w (.bool true) := by
  obtain ⟨hb, hB⟩ := start w
  have HS := Lib.hid (small_calls h)
  unfold GivesAt
  cases hsm : smallL l with
  | false =>
    rw [hsm] at HS
    obtain ⟨_, _, rfl, _⟩ := one_at h
    clear h
    go_enter Try.func3, Try.ntmps3
    go_wp2_with (first | (go_at_call 7; refine HS.out.step ?_) | (go_at_call 8; refine awake_calls.step (w0 := w) (B := w.heap.size) hb hB ?_; clear hb hB; intro w' hb hB))
    go_ret
    exact ⟨rfl, hb⟩
  | true =>
    rw [hsm] at HS
    obtain ⟨hl, hsz⟩ := smallL_of hsm
    have HL := Lib.hid h
    have hs1 := fun c hc => Nat.le_trans (hsz c hc) (by decide : 200 ≤ 1000000)
    have hrl := runs_le l
    have hrm := runsOf_mem l
    obtain ⟨A, cap, rfl, _⟩ := one_at h
    clear h hsm
    generalize hrs : runsOf l = rs at *
    have HRS := Lib.hid hrs
    clear hrs
    go_enter Try.func3, Try.ntmps3
    go_wp2_with (go_at_call 7; refine HS.out.step ?_)
    refine (runs_calls HL.out (by omega)).mono ?_
    rintro e w1 ⟨c1, n1, rfl, hr1, hk1⟩
    rw [HRS.out] at hr1
    have hs1' := hr1.strs
    have hc1' := hr1.1.slice
    have hn1' := hr1.2.1.slice
    replace hb := hb.trans (hk1.mono hB)
    replace hB := hb.size
    have hl1 := StrsIn.kept HL.out hk1
    clear hr1 hk1 HL
    go_wp2_with fail
    refine (ref_runs_calls hl1 (by omega)).mono ?_
    rintro e w2 ⟨c2, n2, rfl, hr2, hk2⟩
    rw [HRS.out] at hr2
    have hs2' := hr2.strs
    have hn2' := hr2.2.1.slice
    replace hs1' := StrsIn.kept hs1' hk2
    replace hc1' := SliceOf.later hc1' hk2
    replace hn1' := SliceOf.later hn1' hk2
    replace hb := hb.trans (hk2.mono hB)
    replace hB := hb.size
    replace hl1 := StrsIn.kept hl1 hk2
    clear hr2 hk2
    have hsame := same_strs hs1' hs2' (by rw [List.length_map]; omega) (by rw [List.length_map]; omega)
    rw [decide_eq_true rfl] at hsame
    obtain ⟨a1, d1, rfl, hat1⟩ := one_at (f := fun x : ByteArray × Nat => Value.string x.1) (l := rs) hc1'
    obtain ⟨a2, d2, rfl, _⟩ := one_at hs2'
    obtain ⟨a3, d3, rfl, hat3⟩ := one_at (f := fun x : ByteArray × Nat => Value.int .i64 x.2) (l := rs) hn1'
    obtain ⟨a4, d4, rfl, hat4⟩ := one_at (f := fun x : ByteArray × Nat => Value.int .i64 x.2) (l := rs) hn2'
    have e1 : (rs.map (fun x => x.1)).length = rs.length := List.length_map _
    rw [e1] at hsame ⊢
    clear hc1'
    clear hs1' hs2' hn1' hn2'
    go_wp2_with (go_at_call 11; refine hsame.stepB (w0 := w) (B := w.heap.size) hb hB ?_)
    clear hb hB
    intro w3 hb hB hk3
    replace hl1 := StrsIn.kept hl1 hk3
    go_wp2
    go_loopw [7] (fun i wr => ∃ k : Nat, k ≤ rs.length ∧ i = .int .i64 k ∧ Below w3.heap.size w3 wr) (fun i _ => rs.length - (intOf i).toNat)
    case atStart => exact ⟨0, Nat.zero_le _, rfl, .refl _ _⟩
    case round =>
      obtain ⟨k, hk, rfl, hbr⟩ := hrel
      have hBr := hbr.size
      by_cases hlt : k < rs.length
      · obtain ⟨b1, o1, rfl, hbl1, hc1⟩ := hat1 k hlt
        obtain ⟨b3, o3, rfl, hbl3, hc3⟩ := hat3 k hlt
        obtain ⟨b4, o4, rfl, hbl4, hc4⟩ := hat4 k hlt
        have h23 : Below w2.heap.size w2 wr := hk3.trans (hbr.mono hk3.size)
        have hx1 := (h23.cell (p := ⟨b1, o1 + k, none⟩) hbl1).trans (hc1 k hlt)
        have hx3 := (h23.cell (p := ⟨b3, o3 + k, none⟩) hbl3).trans (hc3 k hlt)
        have hx4 := (h23.cell (p := ⟨b4, o4 + k, none⟩) hbl4).trans (hc4 k hlt)
        have k1 := fun d os => cell_regrown hx1 d os
        have k3 := fun d os => cell_regrown hx3 d os
        have k4 := fun d os => cell_regrown hx4 d os
        have hz : rs[k].1.size ≤ 140737488351232 := by have := hsz _ (hrm _ (List.getElem_mem hlt)).1; omega
        have p1 := Lib.hid (runs_cell_calls rs[k].1 hz)
        have p2 := Lib.hid (ref_runs_cell_calls rs[k].1 hz)
        clear hc1 hc3 hc4 hx1 hx3 hx4 hat1 hat3 hat4
        go_wp2_with fail
        refine wp_region_quiet_below (by kernel_rfl) (by kernel_rfl) ?_
        repeat (first | go_big_quiet_skip | (go_big_quiet_want; go_big_quiet_op; first | go_big_quiet_on | (apply Exists.intro; refine ⟨fun _ => ?_, ?_⟩; (first | (go_at_call 12; exact Calls.regrown_of (p1.out _)) | (go_at_call 13; exact Calls.regrown_of (p2.out _))); go_big_quiet_on)))
        refine wpQuiet_nil ?_
        rintro w4 ⟨p, hw4⟩
        have hbq : Below wr.heap.size wr w4 := hw4 ▸ below_regrown wr p.d p.os
        clear hw4 k1 k3 k4
        go_wp2
        go_roundw
        case rel => exact ⟨k + 1, by omega, by go_num, hbr.trans (hbq.mono hBr)⟩
        case measure => simp [intOf]; omega
      · obtain rfl : k = rs.length := by omega
        replace hl1 := StrsIn.kept hl1 hbr
        replace hb := hb.trans (hbr.mono hB)
        replace hB := Nat.le_trans hB hBr
        clear hat1 hat3 hat4 hsame
        go_wp2_with (first | (go_at_call 8; refine awake_calls.stepB (w0 := w) (B := w.heap.size) hb hB ?_; clear hb hB; intro w5 hb hB hq; replace hl1 := StrsIn.kept hl1 hq; clear hq) | (go_at_call 14; refine (runs_print_calls hl1 (by omega) hs1).stepB (w0 := w) (B := w.heap.size) hb hB ?_; clear hb hB; intro w6 hb hB hq; replace hl1 := StrsIn.kept hl1 hq; clear hq) | (go_at_call 15; refine (ref_runs_print_calls hl1 (by omega) hs1).step (w0 := w) (B := w.heap.size) hb hB ?_; clear hb hB; intro w7 hb hB))
        go_ret
        exact ⟨ret_bool (by simp), hb⟩
end Go.Proofs.Ytkmmjdjckedghaa
