/- The law ColumnBack. -/
import Derived.Test.YtbegkiffpcedbaaGColLaws
namespace Go.Proofs.Ytbegkiffpcedbaa
open Go Go.RowKit

theorem small_sizes {l : List ByteArray} (h : smallL l = true) : ∀ c ∈ l, c.size ≤ 1000000 := fun c hc => by have := (smallL_of h).2 c hc; omega

set_option maxHeartbeats 4000000 in
set_option maxRecDepth 100000 in
theorem columnBack_in {w : World} {v : Value} {l : List ByteArray} (h : StrsIn w v l) (s : ByteArray) (m : Nat) (hm : m < 256) (hsm : smallL l = true) (hs : s.size ≤ 500) :
    GivesAt Try.prog 3 #[v, .string s, .int .u8 m] w (.bool true) := by
  have HSM := Lib.hid (small_calls h)
  rw [hsm] at HSM
  obtain ⟨hl, _⟩ := smallL_of hsm
  have HSZ := Lib.hid (small_sizes hsm)
  have d : decide (500 < (s.size : Int)) = false := by rw [decide_eq_false_iff_not]; omega
  have q1 : IntKind.i64.wrap (m : Int) = (m : Int) := wrap_i64_nat _ (by omega)
  have HSS := Lib.hid (show s.size ≤ 9223372036854775807 by omega)
  obtain ⟨hb, hB⟩ := start w
  have HV := Lib.hid h
  obtain ⟨A, cap, rfl, hat⟩ := one_at h
  have HAT := Lib.hid hat
  clear h hsm hs hat
  unfold GivesAt
  go_enter Try.func3, Try.ntmps3
  go_wp2_with (go_at_call 6; refine HSM.out.step ?_)
  have hs := parse_calls w s m HSS.out
  refine hs.mono ?_
  clear hs
  rintro e w1 ⟨hq, ⟨vx, lx, rfl, hx, hC⟩ | ⟨rfl, _⟩⟩
  · replace hb := hb.trans (hq.mono hB)
    replace hB := hb.size
    clear hq
    have hlx : lx.length = m := by have := hC.2.2.1; omega
    have HP := Lib.hid (col_print_calls hx (by omega) (right_size hC.2.2.2.1))
    rw [← hC.2.2.2.2] at HP
    obtain ⟨Ax, px, rfl, _⟩ := one_at hx
    have d3 : ((lx.length : Int) != (m : Int)) = false := by rw [bne_eq_false_iff_eq]; omega
    clear hx hC hlx
    go_wp2_with (go_at_call 9; refine HP.out.step (w0 := w) (B := w.heap.size) hb hB ?_; clear hb hB; intro w2 hb hB)
    clear d3 HP
    go_loopw [9] (fun i wr => ∃ k : Nat, k ≤ l.length ∧ i = .int .i64 k ∧ Hid (∀ c ∈ l.take k, rightB c = true) ∧ Below w.heap.size w wr) (fun i _ => l.length - (intOf i).toNat)
    case atStart => exact ⟨0, Nat.zero_le _, rfl, fun c hc => absurd hc (by simp), hb⟩
    case round =>
      clear hb hB
      obtain ⟨k, hk, rfl, HS, hb⟩ := hrel
      have hB := hb.size
      by_cases hlt : k < l.length
      · obtain ⟨b, off, rfl, hbl, hc⟩ := HAT.out k hlt
        have hxc := (hb.cell (p := ⟨b, off + k, none⟩) hbl).trans (hc k hlt)
        have HT := Lib.hid (take_add l k hlt)
        clear hc
        generalize l[k] = c at *
        have HN := Lib.hid (right_calls c)
        cases hi : rightB c with
        | true =>
          rw [hi] at HN
          have HI := Lib.hid hi
          clear hi
          go_wp2_with (go_at_call 10; refine HN.out.step (w0 := w) (B := w.heap.size) hb hB ?_; clear hb hB hxc; intro w' hb hB)
          go_roundw
          case rel => exact ⟨k + 1, by omega, by go_num, fun d hd => by
            rw [HT.out] at hd
            rcases List.mem_append.1 hd with hd | hd
            · exact HS.out d hd
            · rw [List.mem_singleton.1 hd]; exact HI.out, hb⟩
          case measure => simp [intOf]; omega
        | false =>
          rw [hi] at HN
          clear hi
          go_wp2_with (first | (go_at_call 10; refine HN.out.step (w0 := w) (B := w.heap.size) hb hB ?_; clear hb hB hxc; intro w' hb hB) | (go_at_call 7; refine awake_calls.step (w0 := w) (B := w.heap.size) hb hB ?_; clear hb hB; intro w'' hb hB))
          go_ret
          exact ⟨rfl, hb⟩
      · obtain rfl : k = l.length := by omega
        rw [List.take_length] at HS
        have hv := StrsIn.kept HV.out hb
        have HP2 := Lib.hid (col_print_calls hv (by omega) HSZ.out)
        have HCA := Lib.hid (col_at l (by omega) HS.out)
        have HCS := Lib.hid (colB_small (l := l) (by omega) HSZ.out)
        generalize colB l = s2 at *
        go_wp2_with fail
        refine HP2.out.stepB (w0 := w) (B := w.heap.size) hb hB ?_
        clear hb hB
        intro w3 hb hB hq
        replace hv := StrsIn.kept hv hq
        clear hq
        go_wp2_with fail
        refine (parse_calls w3 s2 l.length HCS.out).mono ?_
        intro e w4 hp
        obtain ⟨vy, rfl, hy, hq⟩ := hp.yes HCA.out
        replace hb := hb.trans (hq.mono hB)
        replace hB := hb.size
        replace hv := StrsIn.kept hv hq
        clear hq hp
        go_wp2_with fail
        refine awake_calls.stepB (w0 := w) (B := w.heap.size) hb hB ?_
        clear hb hB
        intro w5 hb hB hq
        replace hv := StrsIn.kept hv hq
        replace hy := StrsIn.kept hy hq
        clear hq
        go_wp2_with fail
        have hs := same_strs hy hv (by omega) (by omega)
        rw [decide_eq_true rfl] at hs
        refine hs.step (w0 := w) (B := w.heap.size) hb hB ?_
        clear hb hB hs hy hv
        intro w6 hb hB
        go_wp2
        go_ret
        exact ⟨rfl, hb⟩
  · replace hb := hb.trans (hq.mono hB)
    replace hB := hb.size
    clear hq
    go_wp2
    go_loopw [9] (fun i wr => ∃ k : Nat, k ≤ l.length ∧ i = .int .i64 k ∧ Hid (∀ c ∈ l.take k, rightB c = true) ∧ Below w.heap.size w wr) (fun i _ => l.length - (intOf i).toNat)
    case atStart => exact ⟨0, Nat.zero_le _, rfl, fun c hc => absurd hc (by simp), hb⟩
    case round =>
      clear hb hB
      obtain ⟨k, hk, rfl, HS, hb⟩ := hrel
      have hB := hb.size
      by_cases hlt : k < l.length
      · obtain ⟨b, off, rfl, hbl, hc⟩ := HAT.out k hlt
        have hxc := (hb.cell (p := ⟨b, off + k, none⟩) hbl).trans (hc k hlt)
        have HT := Lib.hid (take_add l k hlt)
        clear hc
        generalize l[k] = c at *
        have HN := Lib.hid (right_calls c)
        cases hi : rightB c with
        | true =>
          rw [hi] at HN
          have HI := Lib.hid hi
          clear hi
          go_wp2_with (go_at_call 10; refine HN.out.step (w0 := w) (B := w.heap.size) hb hB ?_; clear hb hB hxc; intro w' hb hB)
          go_roundw
          case rel => exact ⟨k + 1, by omega, by go_num, fun d hd => by
            rw [HT.out] at hd
            rcases List.mem_append.1 hd with hd | hd
            · exact HS.out d hd
            · rw [List.mem_singleton.1 hd]; exact HI.out, hb⟩
          case measure => simp [intOf]; omega
        | false =>
          rw [hi] at HN
          clear hi
          go_wp2_with (first | (go_at_call 10; refine HN.out.step (w0 := w) (B := w.heap.size) hb hB ?_; clear hb hB hxc; intro w' hb hB) | (go_at_call 7; refine awake_calls.step (w0 := w) (B := w.heap.size) hb hB ?_; clear hb hB; intro w'' hb hB))
          go_ret
          exact ⟨rfl, hb⟩
      · obtain rfl : k = l.length := by omega
        rw [List.take_length] at HS
        have hv := StrsIn.kept HV.out hb
        have HP2 := Lib.hid (col_print_calls hv (by omega) HSZ.out)
        have HCA := Lib.hid (col_at l (by omega) HS.out)
        have HCS := Lib.hid (colB_small (l := l) (by omega) HSZ.out)
        generalize colB l = s2 at *
        go_wp2_with fail
        refine HP2.out.stepB (w0 := w) (B := w.heap.size) hb hB ?_
        clear hb hB
        intro w3 hb hB hq
        replace hv := StrsIn.kept hv hq
        clear hq
        go_wp2_with fail
        refine (parse_calls w3 s2 l.length HCS.out).mono ?_
        intro e w4 hp
        obtain ⟨vy, rfl, hy, hq⟩ := hp.yes HCA.out
        replace hb := hb.trans (hq.mono hB)
        replace hB := hb.size
        replace hv := StrsIn.kept hv hq
        clear hq hp
        go_wp2_with fail
        refine awake_calls.stepB (w0 := w) (B := w.heap.size) hb hB ?_
        clear hb hB
        intro w5 hb hB hq
        replace hv := StrsIn.kept hv hq
        replace hy := StrsIn.kept hy hq
        clear hq
        go_wp2_with fail
        have hs := same_strs hy hv (by omega) (by omega)
        rw [decide_eq_true rfl] at hs
        refine hs.step (w0 := w) (B := w.heap.size) hb hB ?_
        clear hb hB hs hy hv
        intro w6 hb hB
        go_wp2
        go_ret
        exact ⟨rfl, hb⟩

set_option maxHeartbeats 1000000 in
theorem columnBack_calls {w : World} {v : Value} {l : List ByteArray} (h : StrsIn w v l) (s : ByteArray) (m : Nat) (hm : m < 256) :
    GivesAt Try.prog 3 #[v, .string s, .int .u8 m] w (.bool true) := by
  by_cases hgo : smallL l = true ∧ s.size ≤ 500
  · exact columnBack_in h s m hm hgo.1 hgo.2
  · obtain ⟨hb, hB⟩ := start w
    have HS := Lib.hid (small_calls h)
    obtain ⟨A, cap, rfl, _⟩ := one_at h
    clear h
    unfold GivesAt
    cases hsm : smallL l with
    | false =>
      rw [hsm] at HS
      clear hgo
      go_enter Try.func3, Try.ntmps3
      go_wp2_with (first | (go_at_call 6; refine HS.out.step ?_) | (go_at_call 7; refine awake_calls.step (w0 := w) (B := w.heap.size) hb hB ?_; clear hb hB; intro w' hb hB))
      go_ret
      exact ⟨rfl, hb⟩
    | true =>
      rw [hsm] at HS
      have d1 : decide (500 < (s.size : Int)) = true := by rw [decide_eq_true_eq]; have : ¬ s.size ≤ 500 := fun h => hgo ⟨hsm, h⟩; omega
      clear hgo hsm
      go_enter Try.func3, Try.ntmps3
      go_wp2_with (first | (go_at_call 6; refine HS.out.step ?_) | (go_at_call 7; refine awake_calls.step (w0 := w) (B := w.heap.size) hb hB ?_; clear hb hB; intro w' hb hB))
      go_ret
      exact ⟨rfl, hb⟩
end Go.Proofs.Ytbegkiffpcedbaa
