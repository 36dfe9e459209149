/- The contracts of layer 9's Kind, Right, Fits and Row. -/
import Derived.Test.YtilnioloeijfhaaCellWalks
import Derived.Test.YtilnioloeijfhaaCols
import Derived.Lib.QuietBelow
namespace Go.Proofs.Ytilnioloeijfhaa
open Go Go.RowKit

def kindB (k : Int) : Bool := k == 98 || k == 105 || k == 116
/-- May there be such columns? -/
def rightC (l : List (Int × Bool)) : Bool := decide (0 < l.length) && decide (l.length ≤ 6) && l.all fun c => kindB c.1
/-- Does a cell fit in a column? -/
def fitsC (c : Int × Bool) (s : ByteArray) : Bool := if s.toList.isEmpty then c.2 else rightB s && (kindI s == c.1)
def fitsL (l : List (Int × Bool)) (r : List ByteArray) : Bool := (l.zip r).all fun p => fitsC p.1 p.2
/-- May a row stand under columns? 1: it has another number of cells; 5: one doesn't fit. -/
def rowN (l : List (Int × Bool)) (r : List ByteArray) : Int := if r.length = l.length then (if fitsL l r then 0 else 5) else 1

set_option maxHeartbeats 400000 in
theorem shape_kind_calls (k : Int) (w : World) : Reads Try.prog 17 #[.int .u8 k] w (.bool (kindB k)) := by
  unfold Reads
  by_cases h1 : k = 98
  · have HR := Lib.hid (show kindB k = true by unfold kindB; rw [h1]; rfl)
    subst h1
    go_enter Try.func17, Try.ntmps17
    go_wp2
    go_ret
    exact ⟨ret_bool HR.out.symm, rfl⟩
  by_cases h2 : k = 105
  · have HR := Lib.hid (show kindB k = true by unfold kindB; rw [h2]; rfl)
    subst h2
    go_enter Try.func17, Try.ntmps17
    go_wp2
    go_ret
    exact ⟨ret_bool HR.out.symm, rfl⟩
  by_cases h3 : k = 116
  · have HR := Lib.hid (show kindB k = true by unfold kindB; rw [h3]; rfl)
    subst h3
    go_enter Try.func17, Try.ntmps17
    go_wp2
    go_ret
    exact ⟨ret_bool HR.out.symm, rfl⟩
  have d1 : (k == 98) = false := by rw [beq_eq_false_iff_ne]; exact h1
  have d2 : (k == 105) = false := by rw [beq_eq_false_iff_ne]; exact h2
  have d3 : (k == 116) = false := by rw [beq_eq_false_iff_ne]; exact h3
  have HR := Lib.hid (show kindB k = false by unfold kindB; rw [d1, d2, d3]; rfl)
  go_enter Try.func17, Try.ntmps17
  go_wp2
  go_ret
  exact ⟨ret_bool HR.out.symm, rfl⟩

theorem rightC_no {l : List (Int × Bool)} {c : Int × Bool} (hc : c ∈ l) (h : kindB c.1 = false) : rightC l = false := by
  have : (l.all fun c => kindB c.1) = false := by
    cases ha : l.all fun c => kindB c.1 with
    | false => rfl
    | true => rw [List.all_eq_true] at ha; rw [ha c hc] at h; exact absurd h (by decide)
  unfold rightC
  rw [this, Bool.and_false]
theorem rightC_yes {l : List (Int × Bool)} (h0 : 0 < l.length) (h1 : l.length ≤ 6) (h : ∀ c ∈ l, kindB c.1 = true) : rightC l = true := by
  unfold rightC
  rw [decide_eq_true h0, decide_eq_true h1, List.all_eq_true.2 h]; rfl

set_option maxHeartbeats 1000000 in
theorem shape_right_calls {w : World} {v : Value} {l : List (Int × Bool)} (h : ColsIn w v l) : GivesAt Try.prog 13 #[v] w (.bool (rightC l)) := by
  have hm := h.len
  unfold maxLen at hm
  obtain ⟨hb, hB⟩ := start w
  obtain ⟨A, cap, rfl, hat⟩ := cols_at h
  have HAT := Lib.hid hat
  clear h hat
  unfold GivesAt
  by_cases h0 : 0 < l.length
  · have d1 : ((l.length : Int) == 0) = false := by rw [beq_eq_false_iff_ne]; omega
    by_cases h6 : l.length ≤ 6
    · have d2 : decide (6 < (l.length : Int)) = false := by rw [decide_eq_false_iff_not]; omega
      go_enter Try.func13, Try.ntmps13
      go_wp2
      go_loopw [15] (fun i wr => ∃ k : Nat, k ≤ l.length ∧ i = .int .i64 k ∧ Hid (∀ c ∈ l.take k, kindB c.1 = true) ∧ Below w.heap.size w wr) (fun i _ => l.length - (intOf i).toNat)
      case atStart => exact ⟨0, Nat.zero_le _, rfl, fun c hc => absurd hc (by simp), hb⟩
      case round =>
        clear hb hB
        obtain ⟨k, hk, rfl, HS, hb⟩ := hrel
        have hB := hb.size
        by_cases hlt : k < l.length
        · obtain ⟨b, off, rfl, hbl, hc⟩ := HAT.out k hlt
          have hx1 := (hb.cell (p := ⟨b, off + k * 2, none⟩) hbl).trans (hc k hlt).1
          have hx2 := (hb.cell (p := ⟨b, off + k * 2 + 1, none⟩) hbl).trans (hc k hlt).2
          have HT := Lib.hid (take_add l k hlt)
          have HM := Lib.hid (List.getElem_mem hlt)
          clear hc
          generalize l[k] = c at *
          obtain ⟨kd, nl⟩ := c
          have HN := Lib.hid (shape_kind_calls kd)
          cases hi : kindB kd with
          | true =>
            rw [hi] at HN
            have HI := Lib.hid hi
            clear hi
            go_wp2_with (go_at_call 17; refine (HN.out _).step ?_)
            go_roundw
            case rel => exact ⟨k + 1, by omega, by go_num, fun d hd => by
              rw [HT.out] at hd
              rcases List.mem_append.1 hd with hd | hd
              · exact HS.out d hd
              · rw [List.mem_singleton.1 hd]; exact HI.out, by go_grown⟩
            case measure => simp [intOf]; omega
          | false =>
            rw [hi] at HN
            have HD := Lib.hid (rightC_no HM.out hi)
            clear hi
            go_wp2_with (go_at_call 17; refine (HN.out _).step ?_)
            go_ret
            exact ⟨ret_bool HD.out.symm, by go_grown⟩
        · obtain rfl : k = l.length := by omega
          rw [List.take_length] at HS
          have HD := Lib.hid (rightC_yes h0 h6 HS.out)
          go_wp2
          go_ret
          exact ⟨ret_bool HD.out.symm, hb⟩
    · have d2 : decide (6 < (l.length : Int)) = true := by rw [decide_eq_true_eq]; omega
      have HD := Lib.hid (show rightC l = false by unfold rightC; rw [decide_eq_false h6, Bool.and_false]; rfl)
      go_enter Try.func13, Try.ntmps13
      go_wp2
      go_ret
      exact ⟨ret_bool HD.out.symm, hb⟩
  · have d1 : ((l.length : Int) == 0) = true := by rw [beq_iff_eq]; omega
    have HD := Lib.hid (show rightC l = false by unfold rightC; rw [decide_eq_false h0]; rfl)
    go_enter Try.func13, Try.ntmps13
    go_wp2
    go_ret
    exact ⟨ret_bool HD.out.symm, hb⟩
end Go.Proofs.Ytilnioloeijfhaa
