/- The law ColumnBest. -/
import Derived.Test.YtbegkiffpcedbaaGZColLawsB
namespace Go.Proofs.Ytbegkiffpcedbaa
open Go Go.RowKit

def AllOf (sv : Bool) (l : List ByteArray) (c : ByteArray) : Prop := sv = true ↔ ∀ x ∈ l, x = c

set_option maxHeartbeats 4000000 in
set_option maxRecDepth 100000 in
theorem columnBest_in {w : World} {v : Value} {l : List ByteArray} (h : StrsIn w v l) (hsm : smallL l = true) (h0 : 0 < l.length) :
    GivesAt Try.prog 4 #[v] w (.bool true) := by
  have HSM := Lib.hid (small_calls h)
  rw [hsm] at HSM
  obtain ⟨hl, _⟩ := smallL_of hsm
  have HSZ := Lib.hid (small_sizes hsm)
  have d0 : ((l.length : Int) == 0) = false := by rw [beq_eq_false_iff_ne]; omega
  obtain ⟨hb, hB⟩ := start w
  have HV := Lib.hid h
  have HBB := Lib.hid (bestBig_calls h (by omega) HSZ.out)
  obtain ⟨s1, s2, s3, s4⟩ := bestP_spec l
  obtain ⟨A, cap, rfl, hat⟩ := one_at h
  obtain ⟨b, off, rfl, hbl, hc⟩ := hat 0 h0
  have hc0 : w.cell? ⟨b, off, none⟩ = some (.string l[0]) := hc 0 h0
  have HAT := Lib.hid hc
  have HBS : Hid (isInt l[0] = false → (∀ c ∈ l, c = l[0]) → bestN l = 0) := fun hi ha => best_same (c := l[0]) ha (by omega) (by omega) hi
  have HS4 := Lib.hid s4
  have HS2 := Lib.hid s2
  clear h hsm hat hc s1 s2 s4
  generalize l[0] = c0 at *
  unfold GivesAt
  go_enter Try.func4, Try.ntmps4
  go_wp2_with fail
  refine HSM.out.step ?_
  go_wp2_with fail
  refine HBB.out.step (w0 := w) (B := w.heap.size) hb hB ?_
  clear hb hB d0 HBB
  intro w1 hb hB
  have HA : Hid (∀ (w' : World), Below w.heap.size w w' → ∀ way : Nat, way ≤ 2 → GivesAt Try.prog 13 #[.slice (some ⟨b, off, none⟩) l.length cap, .int .i64 way] w' (.tuple #[.string (asB l way), .bool (asOk l way)])) :=
    fun w' hq way hw => as_calls (StrsIn.kept HV.out hq) (by omega) HSZ.out way hw
  generalize bestN l = n at *
  have e1 : decide ((n : Int) < 0) = false := by rw [decide_eq_false_iff_not]; omega
  have e2 : decide (2 < (n : Int)) = false := by rw [decide_eq_false_iff_not]; omega
  have HF := Lib.hid (HA.out w1 hb n s3)
  rw [HS2.out] at HF
  generalize hbs : asB l n = bs at *
  go_wp2_with fail
  refine HF.out.step (w0 := w) (B := w.heap.size) hb hB ?_
  clear hb hB HF
  intro w2 hb hB
  go_wp2
  clear e1 e2
  go_loopw [6, 7] (fun y i wr => ∃ (k : Nat) (sv : Bool), k ≤ l.length ∧ i = .int .i64 k ∧ y = .bool sv ∧ Hid (AllOf sv (l.take k) c0) ∧ Below w.heap.size w wr) (fun _ i _ => l.length - (intOf i).toNat)
  case atStart => exact ⟨0, true, Nat.zero_le _, rfl, rfl, ⟨fun _ c hc => absurd hc (by simp), fun _ => rfl⟩, hb⟩
  case round =>
    clear hb hB
    obtain ⟨k, sv, hk, rfl, rfl, HS, hb⟩ := hrel
    have hB := hb.size
    have hx0 := (hb.cell (p := ⟨b, off, none⟩) hbl).trans hc0
    by_cases hlt : k < l.length
    · have hx := (hb.cell (p := ⟨b, off + k, none⟩) hbl).trans (HAT.out k hlt)
      have HT := Lib.hid (take_add l k hlt)
      generalize l[k] = c at *
      cases sv with
      | false =>
        have HN : Hid (AllOf false (l.take (k + 1)) c0) := ⟨fun h => absurd h (by decide), fun h => HS.out.2 fun d hd => h d (by rw [HT.out]; exact List.mem_append_left _ hd)⟩
        go_wp2
        go_quiet (fail)
        go_wp2
        go_roundw
        case rel => exact ⟨k + 1, false, by omega, by go_num, rfl, HN.out, below_drewN hb _⟩
        case measure => simp [intOf]; omega
      | true =>
        have HE := Lib.hid (ba_beq c c0)
        by_cases hcc : c = c0
        · have HN : Hid (AllOf true (l.take (k + 1)) c0) := ⟨fun _ d hd => by
            rw [HT.out] at hd
            rcases List.mem_append.1 hd with hd | hd
            · exact HS.out.1 rfl d hd
            · rw [List.mem_singleton.1 hd]; exact hcc, fun _ => rfl⟩
          have g1 : (c.toList == c0.toList) = true := by rw [HE.out, decide_eq_true_eq]; exact hcc
          clear hcc
          go_wp2
          go_quiet (fail)
          go_wp2
          go_roundw
          case rel => exact ⟨k + 1, true, by omega, by go_num, rfl, HN.out, below_drewN hb _⟩
          case measure => simp [intOf]; omega
        · have HN : Hid (AllOf false (l.take (k + 1)) c0) := ⟨fun h => absurd h (by decide), fun h => absurd (h c (by rw [HT.out]; exact List.mem_append_right _ (List.mem_singleton.2 rfl))) hcc⟩
          have g1 : (c.toList == c0.toList) = false := by rw [HE.out, decide_eq_false_iff_not]; exact hcc
          clear hcc
          go_wp2
          go_quiet (fail)
          go_wp2
          go_roundw
          case rel => exact ⟨k + 1, false, by omega, by go_num, rfl, HN.out, below_drewN hb _⟩
          case measure => simp [intOf]; omega
    · obtain rfl : k = l.length := by omega
      rw [List.take_length] at HS
      obtain ⟨w3, hw3⟩ : ∃ w3, w3 = wr := ⟨_, rfl⟩
      subst hw3
      clear hx0
      go_wp2
      go_loopw [8] (fun i wr => ∃ t : Nat, t ≤ 3 ∧ i = .int .i64 t ∧ Below w.heap.size w wr) (fun i _ => 3 - (intOf i).toNat)
      case atStart => exact ⟨0, by omega, rfl, hb⟩
      case round =>
        clear hb hB
        obtain ⟨t, ht, rfl, hb⟩ := hrel
        have hB := hb.size
        have hx0 := (hb.cell (p := ⟨b, off, none⟩) hbl).trans hc0
        by_cases hlt : t < 3
        · have HC := Lib.hid (HA.out _ hb t (by omega))
          have HW := Lib.hid (HS4.out t (by omega))
          generalize asB l t = ts at *
          generalize asOk l t = ok at *
          cases ok with
          | false =>
            go_wp2_with (go_at_call 13; refine HC.out.step (w0 := w) (B := w.heap.size) hb hB ?_; clear hb hB hx0; intro w4 hb hB)
            go_roundw
            case rel => exact ⟨t + 1, by omega, by go_num, hb⟩
            case measure => simp [intOf]; omega
          | true =>
            obtain ⟨m1, m2⟩ := HW.out rfl
            have g0 : bs.size ≤ ts.size := by omega
            have g1 : decide ((ts.size : Int) < (bs.size : Int)) = false := by rw [decide_eq_false_iff_not]; omega
            by_cases htn : t < n
            · have g2 : decide ((t : Int) < (n : Int)) = true := by rw [decide_eq_true_eq]; omega
              have g3 : ((ts.size : Int) == (bs.size : Int)) = false := by rw [beq_eq_false_iff_ne]; intro h; exact m2 ⟨htn, by omega⟩
              have g4 : ¬ ts.size = bs.size := fun h => m2 ⟨htn, h⟩
              clear m1 m2
              go_wp2_with (go_at_call 13; refine HC.out.step (w0 := w) (B := w.heap.size) hb hB ?_; clear hb hB hx0; intro w4 hb hB)
              go_roundw
              case rel => exact ⟨t + 1, by omega, by go_num, hb⟩
              case measure => simp [intOf]; omega
            · have g2 : decide ((t : Int) < (n : Int)) = false := by rw [decide_eq_false_iff_not]; omega
              clear m1 m2
              go_wp2_with (go_at_call 13; refine HC.out.step (w0 := w) (B := w.heap.size) hb hB ?_; clear hb hB hx0; intro w4 hb hB)
              go_roundw
              case rel => exact ⟨t + 1, by omega, by go_num, hb⟩
              case measure => simp [intOf]; omega
        · obtain rfl : t = 3 := by omega
          have HN := Lib.hid (num_both c0)
          go_wp2_with fail
          refine HN.out.step (w0 := w) (B := w.heap.size) hb hB ?_
          clear hb hB hx0
          intro w5 hb hB
          generalize (if isInt c0 then numOf c0 else 0) = nv at *
          generalize hii : isInt c0 = ii at *
          have HII := Lib.hid hii
          clear hii
          go_wp2_with fail
          refine awake_calls.step (w0 := w) (B := w.heap.size) hb hB ?_
          clear hb hB
          intro w6 hb hB
          cases sv with
          | false =>
            go_wp2
            go_ret
            exact ⟨ret_bool (by simp), hb⟩
          | true =>
            cases ii with
            | true =>
              go_wp2
              go_ret
              exact ⟨ret_bool (by simp), hb⟩
            | false =>
              obtain rfl : n = 0 := HBS.out rfl (HS.out.1 rfl)
              go_wp2
              go_ret
              exact ⟨ret_bool (by simp), hb⟩

set_option maxHeartbeats 1000000 in
theorem columnBest_calls {w : World} {v : Value} {l : List ByteArray} (h : StrsIn w v l) : GivesAt Try.prog 4 #[v] w (.bool true) := by
  by_cases hgo : smallL l = true ∧ 0 < l.length
  · exact columnBest_in h hgo.1 hgo.2
  · obtain ⟨hb, hB⟩ := start w
    have HS := Lib.hid (small_calls h)
    obtain ⟨A, cap, rfl, _⟩ := one_at h
    clear h
    unfold GivesAt
    cases hsm : smallL l with
    | false =>
      rw [hsm] at HS
      clear hgo
      go_enter Try.func4, Try.ntmps4
      go_wp2_with (first | (go_at_call 6; refine HS.out.step ?_) | (go_at_call 7; refine awake_calls.step (w0 := w) (B := w.heap.size) hb hB ?_; clear hb hB; intro w' hb hB))
      go_ret
      exact ⟨rfl, hb⟩
    | true =>
      rw [hsm] at HS
      have hz : l.length = 0 := by
        rcases Nat.eq_zero_or_pos l.length with h | h
        · exact h
        · exact absurd ⟨hsm, h⟩ hgo
      clear hgo hsm
      obtain rfl : l = [] := List.eq_nil_of_length_eq_zero hz
      go_enter Try.func4, Try.ntmps4
      go_wp2_with (first | (go_at_call 6; refine HS.out.step ?_) | (go_at_call 7; refine awake_calls.step (w0 := w) (B := w.heap.size) hb hB ?_; clear hb hB; intro w' hb hB))
      go_ret
      exact ⟨rfl, hb⟩
end Go.Proofs.Ytbegkiffpcedbaa
