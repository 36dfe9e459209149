/- The law ColumnApart. -/
import Derived.Test.YtbegkiffpcedbaaGZColLawsB
namespace Go.Proofs.Ytbegkiffpcedbaa
open Go Go.RowKit

theorem colB_eq {l m : List ByteArray} (hl : l.length ≤ 4096) (h1 : ∀ c ∈ l, rightB c = true) (h2 : ∀ c ∈ m, rightB c = true) (e : l.length = m.length) : ((colB l).toList == (colB m).toList) = decide (l = m) := by
  rw [ba_beq, decide_eq_decide]
  constructor
  · intro h
    have k1 := col_at l hl h1
    have k2 := col_at m (by omega) h2
    rw [← h, ← e] at k2
    exact k1.same k2
  · intro h; rw [h]

set_option maxHeartbeats 4000000 in
set_option maxRecDepth 100000 in
theorem columnApart_in {w : World} {va vb : Value} {l m : List ByteArray} (ha : StrsIn w va l) (hb' : StrsIn w vb m) (hsl : smallL l = true) (hsm : smallL m = true) (h0 : 0 < l.length) :
    GivesAt Try.prog 5 #[va, vb] w (.bool true) := by
  have HSL := Lib.hid (small_calls ha)
  have HSM := Lib.hid (small_calls hb')
  rw [hsl] at HSL
  rw [hsm] at HSM
  obtain ⟨hl, _⟩ := smallL_of hsl
  obtain ⟨hm, _⟩ := smallL_of hsm
  have HZ1 := Lib.hid (small_sizes hsl)
  have HZ2 := Lib.hid (small_sizes hsm)
  have d0 : ((l.length : Int) == 0) = false := by rw [beq_eq_false_iff_ne]; omega
  obtain ⟨hb, hB⟩ := start w
  have HV := Lib.hid ha
  have HU := Lib.hid hb'
  obtain ⟨A, cap, rfl, hat⟩ := one_at ha
  obtain ⟨A2, cap2, rfl, hat2⟩ := one_at hb'
  have HAT := Lib.hid hat
  have HAT2 := Lib.hid hat2
  clear ha hb' hsl hsm hat hat2
  unfold GivesAt
  go_enter Try.func5, Try.ntmps5
  go_wp2_with fail
  refine HSL.out.step ?_
  go_wp2_with fail
  refine HSM.out.step ?_
  go_wp2
  clear d0
  go_loopw [5] (fun i wr => ∃ k : Nat, k ≤ l.length ∧ i = .int .i64 k ∧ Hid (∀ c ∈ l.take k, rightB c = true) ∧ Below w.heap.size w wr) (fun i _ => l.length - (intOf i).toNat)
  case atStart => exact ⟨0, Nat.zero_le _, rfl, fun c hc => absurd hc (by simp), hb⟩
  case round =>
    clear hb hB
    obtain ⟨k, hk, rfl, HS, hb⟩ := hrel
    have hB := hb.size
    by_cases hlt : k < l.length
    · obtain ⟨b, off, rfl, hbl, hc⟩ := HAT.out k hlt
      have hxc := (hb.cell (p := ⟨b, off + k, none⟩) hbl).trans (hc k hlt)
      have HT := Lib.hid (take_add l k hlt)
      clear hc
      generalize l[k] = c at *
      have HN := Lib.hid (right_calls c)
      cases hi : rightB c with
      | true =>
        rw [hi] at HN
        have HI := Lib.hid hi
        clear hi
        go_wp2_with (go_at_call 10; refine HN.out.step (w0 := w) (B := w.heap.size) hb hB ?_; clear hb hB hxc; intro w' hb hB)
        go_roundw
        case rel => exact ⟨k + 1, by omega, by go_num, fun d hd => by
          rw [HT.out] at hd
          rcases List.mem_append.1 hd with hd | hd
          · exact HS.out d hd
          · rw [List.mem_singleton.1 hd]; exact HI.out, hb⟩
        case measure => simp [intOf]; omega
      | false =>
        rw [hi] at HN
        clear hi
        go_wp2_with (first | (go_at_call 10; refine HN.out.step (w0 := w) (B := w.heap.size) hb hB ?_; clear hb hB hxc; intro w' hb hB) | (go_at_call 7; refine awake_calls.step (w0 := w) (B := w.heap.size) hb hB ?_; clear hb hB; intro w'' hb hB))
        go_ret
        exact ⟨rfl, hb⟩
    · obtain rfl : k = l.length := by omega
      rw [List.take_length] at HS
      obtain ⟨w3, hw3⟩ : ∃ w3, w3 = wr := ⟨_, rfl⟩
      subst hw3
      go_wp2
      go_loopw [6] (fun i wr => ∃ k : Nat, k ≤ m.length ∧ i = .int .i64 k ∧ Hid (∀ c ∈ m.take k, rightB c = true) ∧ Below w.heap.size w wr) (fun i _ => m.length - (intOf i).toNat)
      case atStart => exact ⟨0, Nat.zero_le _, rfl, fun c hc => absurd hc (by simp), hb⟩
      case round =>
        clear hb hB
        obtain ⟨k, hk, rfl, HS2, hb⟩ := hrel
        have hB := hb.size
        by_cases hlt : k < m.length
        · obtain ⟨b, off, rfl, hbl, hc⟩ := HAT2.out k hlt
          have hxc := (hb.cell (p := ⟨b, off + k, none⟩) hbl).trans (hc k hlt)
          have HT := Lib.hid (take_add m k hlt)
          clear hc
          generalize m[k] = c at *
          have HN := Lib.hid (right_calls c)
          cases hi : rightB c with
          | true =>
            rw [hi] at HN
            have HI := Lib.hid hi
            clear hi
            go_wp2_with (go_at_call 10; refine HN.out.step (w0 := w) (B := w.heap.size) hb hB ?_; clear hb hB hxc; intro w' hb hB)
            go_roundw
            case rel => exact ⟨k + 1, by omega, by go_num, fun d hd => by
              rw [HT.out] at hd
              rcases List.mem_append.1 hd with hd | hd
              · exact HS2.out d hd
              · rw [List.mem_singleton.1 hd]; exact HI.out, hb⟩
            case measure => simp [intOf]; omega
          | false =>
            rw [hi] at HN
            clear hi
            go_wp2_with (first | (go_at_call 10; refine HN.out.step (w0 := w) (B := w.heap.size) hb hB ?_; clear hb hB hxc; intro w' hb hB) | (go_at_call 7; refine awake_calls.step (w0 := w) (B := w.heap.size) hb hB ?_; clear hb hB; intro w'' hb hB))
            go_ret
            exact ⟨rfl, hb⟩
        · obtain rfl : k = m.length := by omega
          rw [List.take_length] at HS2
          have hv := StrsIn.kept HV.out hb
          have hu := StrsIn.kept HU.out hb
          have HEQ := Lib.hid (colB_eq (l := l) (m := m) (by omega) HS.out HS2.out)
          go_wp2_with fail
          refine awake_calls.stepB (w0 := w) (B := w.heap.size) hb hB ?_
          clear hb hB
          intro w5 hb hB hq
          replace hv := StrsIn.kept hv hq
          replace hu := StrsIn.kept hu hq
          clear hq
          by_cases hll : l.length = m.length
          · have d1 : ((l.length : Int) != (m.length : Int)) = false := by rw [bne_eq_false_iff_eq]; omega
            have HE := Lib.hid (HEQ.out hll)
            clear hll HEQ
            go_wp2_with fail
            refine (col_print_calls hv (by omega) HZ1.out).stepB (w0 := w) (B := w.heap.size) hb hB ?_
            clear hb hB
            intro w6 hb hB hq
            replace hv := StrsIn.kept hv hq
            replace hu := StrsIn.kept hu hq
            clear hq
            go_wp2_with fail
            refine (col_print_calls hu (by omega) HZ2.out).stepB (w0 := w) (B := w.heap.size) hb hB ?_
            clear hb hB
            intro w7 hb hB hq
            replace hv := StrsIn.kept hv hq
            replace hu := StrsIn.kept hu hq
            clear hq
            obtain ⟨e, he1, he2⟩ : ∃ e, ((colB l).toList == (colB m).toList) = e ∧ decide (l = m) = e := ⟨_, HE.out, rfl⟩
            have hs := same_strs hv hu (by omega) (by omega)
            rw [he2] at hs
            clear he2 HE
            generalize colB l = t1 at *
            generalize colB m = t2 at *
            go_wp2_with fail
            refine hs.step (w0 := w) (B := w.heap.size) hb hB ?_
            clear hb hB hs hv hu
            intro w8 hb hB
            cases e
            all_goals
              go_wp2
              go_ret
              exact ⟨ret_bool (by simp), hb⟩
          · have d1 : ((l.length : Int) != (m.length : Int)) = true := by rw [bne_iff_ne]; omega
            clear hll HEQ
            go_wp2
            go_ret
            exact ⟨ret_bool (by simp), hb⟩

set_option maxHeartbeats 1000000 in
theorem columnApart_calls {w : World} {va vb : Value} {l m : List ByteArray} (ha : StrsIn w va l) (hb' : StrsIn w vb m) :
    GivesAt Try.prog 5 #[va, vb] w (.bool true) := by
  by_cases hgo : (smallL l = true ∧ smallL m = true) ∧ 0 < l.length
  · exact columnApart_in ha hb' hgo.1.1 hgo.1.2 hgo.2
  · obtain ⟨hb, hB⟩ := start w
    have HSL := Lib.hid (small_calls ha)
    have HSM := Lib.hid (small_calls hb')
    obtain ⟨A, cap, rfl, _⟩ := one_at ha
    obtain ⟨A2, cap2, rfl, _⟩ := one_at hb'
    clear ha hb'
    unfold GivesAt
    cases hsl : smallL l with
    | false =>
      rw [hsl] at HSL
      clear hgo hsl
      go_enter Try.func5, Try.ntmps5
      go_wp2_with fail
      refine HSL.out.step ?_
      go_wp2_with fail
      refine awake_calls.step (w0 := w) (B := w.heap.size) hb hB ?_
      clear hb hB; intro w' hb hB
      go_wp2
      go_ret
      exact ⟨rfl, hb⟩
    | true =>
      rw [hsl] at HSL
      cases hsm : smallL m with
      | false =>
        rw [hsm] at HSM
        clear hgo hsl hsm
        go_enter Try.func5, Try.ntmps5
        go_wp2_with fail
        refine HSL.out.step ?_
        go_wp2_with fail
        refine HSM.out.step ?_
        go_wp2_with fail
        refine awake_calls.step (w0 := w) (B := w.heap.size) hb hB ?_
        clear hb hB; intro w' hb hB
        go_wp2
        go_ret
        exact ⟨rfl, hb⟩
      | true =>
        rw [hsm] at HSM
        have hz : l.length = 0 := by
          rcases Nat.eq_zero_or_pos l.length with h | h
          · exact h
          · exact absurd ⟨⟨hsl, hsm⟩, h⟩ hgo
        clear hgo hsl hsm
        obtain rfl : l = [] := List.eq_nil_of_length_eq_zero hz
        go_enter Try.func5, Try.ntmps5
        go_wp2_with fail
        refine HSL.out.step ?_
        go_wp2_with fail
        refine HSM.out.step ?_
        go_wp2_with fail
        refine awake_calls.step (w0 := w) (B := w.heap.size) hb hB ?_
        clear hb hB; intro w' hb hB
        go_wp2
        go_ret
        exact ⟨rfl, hb⟩
end Go.Proofs.Ytbegkiffpcedbaa
