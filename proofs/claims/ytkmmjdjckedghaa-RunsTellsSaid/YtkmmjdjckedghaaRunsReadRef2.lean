/- The contract of the answer's Read of layer 4, said by what stands at the tape's beginning; 'Same'. -/
import Derived.Test.YtkmmjdjckedghaaRunsReadRef
namespace Go.Proofs.Ytkmmjdjckedghaa
open Go Go.RowKit

set_option maxHeartbeats 1000000 in
set_option maxRecDepth 100000 in
theorem ref_runsRead_over (b : Nat) (s : ByteArray) (bad : Bool) (many : Int) (h : many < 0 ∨ 4096 < many) (w : World) (hT : TapeIn 35 w b s bad) :
    Calls Try.prog 17 #[.pointer (some ⟨b, 0, none⟩), .int .i64 many] w fun e w' => e = .returned (.slice none 0 0) ∧ TapeIn 35 w' b s true ∧ w.grownBy w' (some b) := by
  have hg := grown_refl w (some b)
  have c1 := hT.c1
  have f1 := hT.f0 1
  have hgd : (decide (many < 0) = true ∧ decide (0 < many) = false) ∨ (decide (many < 0) = false ∧ decide (4096 < many) = true ∧ decide (0 < many) = true) := by
    simp only [decide_eq_true_eq, decide_eq_false_iff_not]; omega
  rcases hgd with ⟨d1, d2⟩ | ⟨d1, d2, d3⟩
  all_goals
    go_enter Try.func17, Try.ntmps17
    go_wp2
    go_loopw [5, 6, 7] (fun v la fi wr => v = .slice none 0 0 ∧ TapeIn 35 wr b s true ∧ w.grownBy wr (some b)) (fun _ _ _ _ => 0)
    case atStart => exact ⟨rfl, hT.set1 _, grown_set hg _ _⟩
    case round =>
      clear hT hg c1 f1
      obtain ⟨rfl, hT, hg⟩ := hrel
      have c1 := hT.c1
      go_wp2
      go_ret
      exact ⟨rfl, hT, hg⟩
set_option maxHeartbeats 1000000 in
set_option maxRecDepth 100000 in
theorem ref_runs_read_badin (b : Nat) (s : ByteArray) (M : Nat) (hM : M ≤ 4096) (w : World) (hT : TapeIn 35 w b s true) :
    Calls Try.prog 17 #[.pointer (some ⟨b, 0, none⟩), .int .i64 M] w fun e w' => e = .returned (.slice none 0 0) ∧ TapeIn 35 w' b s true ∧ w.grownBy w' (some b) := by
  have hg := grown_refl w (some b)
  have c1 := hT.c1
  have hgd : decide (0 < (M : Int)) = true ∨ decide (0 < (M : Int)) = false := by cases decide (0 < (M : Int)) <;> simp
  rcases hgd with d1 | d1
  all_goals
    go_enter Try.func17, Try.ntmps17
    go_wp2
    go_loopw [5, 6, 7] (fun v la fi wr => v = .slice none 0 0 ∧ TapeIn 35 wr b s true ∧ w.grownBy wr (some b)) (fun _ _ _ _ => 0)
    case atStart => exact ⟨rfl, hT, hg⟩
    case round =>
      clear hT hg c1
      obtain ⟨rfl, hT, hg⟩ := hrel
      have c1 := hT.c1
      go_wp2
      all_goals
        go_ret
        exact ⟨rfl, hT, hg⟩
theorem ref_runs_read_some (b : Nat) (s : ByteArray) (hs : s.size ≤ 9223372036854775807) {many : Int} {l : List ByteArray} {r : List UInt8} (h : RunsAt s.data.toList many l r) :
    TakesStrs Try.prog 35 17 [.int .i64 many] b s l (mkB r) := by
  obtain ⟨M, rfl⟩ : ∃ M : Nat, many = (M : Int) := ⟨many.toNat, by have := h.1; omega⟩
  intro w hT
  refine (ref_runsRead_in b s M (by have := h.2.1; omega) hs w hT).mono ?_
  rintro e w' ⟨v, l', s', bad', he, hi, hf, hT', hg, _, hend⟩
  rcases hend with ⟨rfl, hR⟩ | ⟨_, _, _, hn⟩
  · obtain ⟨rfl, rfl⟩ := h.same hR
    rw [mkB_of]
    exact ⟨v, he, hi, hf, hT', hg⟩
  · exact absurd ⟨l, r, h⟩ hn
theorem ref_runs_read_none (b : Nat) (s : ByteArray) (bad : Bool) (hs : s.size ≤ 9223372036854775807) (many : Int) (h : bad = true ∨ ¬ ∃ l r, RunsAt s.data.toList many l r) :
    TakesNone Try.prog 35 17 [.int .i64 many] b s bad (.slice none 0 0) := by
  intro w hT
  by_cases hm : many < 0 ∨ 4096 < many
  · exact (ref_runsRead_over b s bad many hm w hT).mono fun _ _ ⟨h1, h2, h3⟩ => ⟨s, h1, h2, h3⟩
  · obtain ⟨M, rfl⟩ : ∃ M : Nat, many = (M : Int) := ⟨many.toNat, by omega⟩
    cases bad with
    | true => exact (ref_runs_read_badin b s M (by omega) w hT).mono fun _ _ ⟨h1, h2, h3⟩ => ⟨s, h1, h2, h3⟩
    | false =>
      refine (ref_runsRead_in b s M (by omega) hs w hT).mono ?_
      rintro e w' ⟨v, l', s', bad', he, hi, hf, hT', hg, _, hend⟩
      rcases hend with ⟨rfl, hR⟩ | ⟨rfl, _, rfl, _⟩
      · exact absurd ⟨l', _, hR⟩ (h.resolve_left (by decide))
      · exact ⟨s', he, hT', hg⟩

set_option maxHeartbeats 1000000 in
theorem same_strs {w : World} {va vb : Value} {a b : List ByteArray} (ha : StrsIn w va a) (hb : StrsIn w vb b) (hla : a.length ≤ 1000000) (hlb : b.length ≤ 1000000) :
    GivesAt Try.prog 11 #[va, vb] w (.bool (decide (a = b))) := by
  have hg := (start w).1
  obtain ⟨A, ca, rfl, hata⟩ := one_at ha
  obtain ⟨B, cb, rfl, hatb⟩ := one_at hb
  have HA := Lib.hid hata
  have HB := Lib.hid hatb
  clear ha hb hata hatb
  unfold GivesAt
  by_cases hl : a.length = b.length
  · have d1 : ((a.length : Int) == (b.length : Int)) = true := by rw [beq_iff_eq]; omega
    have hle : b.length = a.length := hl.symm
    have HL := Lib.hid hl
    clear hl
    go_enter Try.func11, Try.ntmps11
    rw [hle] at d1 ⊢
    clear hle
    go_wp2
    go_loopw [5] (fun i wr => ∃ k : Nat, k ≤ a.length ∧ i = .int .i64 k ∧ Hid (a.take k = b.take k) ∧ Below w.heap.size w wr) (fun i _ => a.length - (intOf i).toNat)
    case atStart => exact ⟨0, by omega, rfl, show a.take 0 = b.take 0 from rfl, hg⟩
    case round =>
      clear hg
      obtain ⟨k, hk, rfl, HE, hg⟩ := hrel
      by_cases hlt : k < a.length
      · obtain ⟨b1, o1, rfl, hl1, hc1⟩ := HA.out k hlt
        obtain ⟨b2, o2, rfl, hl2, hc2⟩ := HB.out k (by have := HL.out; omega)
        have hx1 := (hg.cell (p := ⟨b1, o1 + k, none⟩) hl1).trans (hc1 k hlt)
        have hx2 := (hg.cell (p := ⟨b2, o2 + k, none⟩) hl2).trans (hc2 k (by have := HL.out; omega))
        have hT1 := take_add a k hlt
        have hT2 := take_add b k (by have := HL.out; omega)
        have hne : a[k] ≠ b[k]'(by have := HL.out; omega) → ¬ a = b := by intro h e; subst e; exact h rfl
        generalize a[k] = x at *
        generalize b[k]'(by have := HL.out; omega) = y at *
        rcases str_ne_cases x y with ⟨he, g1, g2⟩ | ⟨he, g1, g2⟩
        · have HN : Hid (a.take (k + 1) = b.take (k + 1)) := by show _ = _; rw [hT1, hT2, HE.out, he]
          clear hT1 hT2 hne he hc1 hc2
          go_wp2
          go_quiet (fail)
          go_wp2
          go_roundw
          case rel => exact ⟨k + 1, by omega, by go_num, HN, below_drewN hg _⟩
          case measure => simp [intOf]; omega
        · have HD := Lib.hid (show decide (a = b) = false by rw [decide_eq_false_iff_not]; exact hne he)
          clear hT1 hT2 hne he hc1 hc2
          go_wp2
          go_quiet (fail)
          go_wp2
          go_ret
          exact ⟨ret_bool HD.out.symm, below_drewN hg _⟩
      · obtain rfl : k = a.length := by omega
        have HD : Hid (decide (a = b) = true) := by
          show _ = _
          rw [decide_eq_true_eq]
          have := HE.out
          rwa [List.take_length, List.take_of_length_le (by have := HL.out; omega)] at this
        go_wp2
        go_ret
        exact ⟨ret_bool HD.out.symm, hg⟩
  · have d1 : ((a.length : Int) == (b.length : Int)) = false := by rw [beq_eq_false_iff_ne]; omega
    have HD := Lib.hid (show decide (a = b) = false by rw [decide_eq_false_iff_not]; intro e; exact hl (by rw [e]))
    go_enter Try.func11, Try.ntmps11
    go_wp2
    go_ret
    exact ⟨ret_bool HD.out.symm, hg⟩
end Go.Proofs.Ytkmmjdjckedghaa
