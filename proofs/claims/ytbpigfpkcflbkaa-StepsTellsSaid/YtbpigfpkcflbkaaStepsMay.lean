/- The contracts of May, of layer 6 and of its answer. -/
import Derived.Test.YtbpigfpkcflbkaaCellNum
import Derived.Test.YtbpigfpkcflbkaaStrs
import Derived.Test.YtbpigfpkcflbkaaStepsPure
namespace Go.Proofs.Ytbpigfpkcflbkaa
open Go Go.RowKit

/-- Are all cells numbers'? -/
def mayL (l : List ByteArray) : Bool := l.all isInt
/-- Cells' numbers. -/
def numsL (l : List ByteArray) : List Int := l.map numOf
theorem mayL_of {l : List ByteArray} (h : mayL l = true) : ∀ c ∈ l, isInt c = true := by unfold mayL at h; rwa [List.all_eq_true] at h
theorem mayL_all {l : List ByteArray} (h : ∀ c ∈ l, isInt c = true) : mayL l = true := by unfold mayL; rwa [List.all_eq_true]
theorem mayL_no {l : List ByteArray} {c : ByteArray} (h : c ∈ l) (hc : isInt c = false) : mayL l = false := by
  cases hm : mayL l with
  | false => rfl
  | true => rw [mayL_of hm c h] at hc; exact absurd hc (by decide)
theorem byteI_range (s : ByteArray) (i : Nat) : 0 ≤ byteI s i ∧ byteI s i < 256 := byte_range _
theorem numOf_range (s : ByteArray) : -9223372036854775808 ≤ numOf s ∧ numOf s ≤ 9223372036854775807 := by
  have h1 := byteI_range s 1; have h2 := byteI_range s 2; have h3 := byteI_range s 3; have h4 := byteI_range s 4
  have h5 := byteI_range s 5; have h6 := byteI_range s 6; have h7 := byteI_range s 7; have h8 := byteI_range s 8
  unfold numOf offs
  omega
theorem numsL_range (l : List ByteArray) : InR (numsL l) := by
  intro x hx
  obtain ⟨c, _, rfl⟩ := List.mem_map.1 hx
  exact numOf_range c
theorem numsL_length (l : List ByteArray) : (numsL l).length = l.length := List.length_map _
theorem num_both (s : ByteArray) : Gives Try.prog 20 #[.string s] (.tuple #[.int .i64 (if isInt s then numOf s else 0), .bool (isInt s)]) := by
  cases h : isInt s with
  | true => exact num_yes s h
  | false => exact num_no s h
theorem ref_num_both (s : ByteArray) : Gives Try.prog 21 #[.string s] (.tuple #[.int .i64 (if isInt s then numOf s else 0), .bool (isInt s)]) := by
  cases h : isInt s with
  | true => exact ref_num_yes s h
  | false => exact ref_num_no s h

set_option maxHeartbeats 400000 in
theorem may_calls {w : World} {v : Value} {l : List ByteArray} (h : StrsIn w v l) : GivesAt Try.prog 10 #[v] w (.bool (mayL l)) := by
  have hm := h.len
  unfold maxLen at hm
  obtain ⟨hb, hB⟩ := start w
  obtain ⟨A, cap, rfl, hat⟩ := one_at h
  have HAT := Lib.hid hat
  clear h hat
  unfold GivesAt
  go_enter Try.func10, Try.ntmps10
  go_wp2
  go_loopw [9] (fun i wr => ∃ k : Nat, k ≤ l.length ∧ i = .int .i64 k ∧ Hid (∀ c ∈ l.take k, isInt c = true) ∧ Below w.heap.size w wr) (fun i _ => l.length - (intOf i).toNat)
  case atStart => exact ⟨0, Nat.zero_le _, rfl, fun c hc => absurd hc (by simp), hb⟩
  case round =>
    clear hb hB
    obtain ⟨k, hk, rfl, HS, hb⟩ := hrel
    have hB := hb.size
    by_cases hlt : k < l.length
    · obtain ⟨b, off, rfl, hbl, hc⟩ := HAT.out k hlt
      have hx := (hb.cell (p := ⟨b, off + k, none⟩) hbl).trans (hc k hlt)
      have HT := Lib.hid (take_add l k hlt)
      have HM := Lib.hid (List.getElem_mem hlt)
      clear hc
      generalize l[k] = c at *
      have HN := Lib.hid (num_both c)
      cases hi : isInt c with
      | true =>
        rw [hi] at HN
        have HI := Lib.hid hi
        clear hi
        go_wp2_with (go_at_call 20; refine HN.out.step (w0 := w) (B := w.heap.size) hb hB ?_; clear hb hB hx; intro w' hb hB)
        go_roundw
        case rel => exact ⟨k + 1, by omega, by go_num, fun d hd => by
          rw [HT.out] at hd
          rcases List.mem_append.1 hd with hd | hd
          · exact HS.out d hd
          · rw [List.mem_singleton.1 hd]; exact HI.out, hb⟩
        case measure => simp [intOf]; omega
      | false =>
        rw [hi] at HN
        have HD := Lib.hid (mayL_no HM.out hi)
        clear hi
        go_wp2_with (go_at_call 20; refine HN.out.step (w0 := w) (B := w.heap.size) hb hB ?_; clear hb hB hx; intro w' hb hB)
        go_ret
        exact ⟨ret_bool HD.out.symm, hb⟩
    · obtain rfl : k = l.length := by omega
      rw [List.take_length] at HS
      have HD := Lib.hid (mayL_all HS.out)
      go_wp2
      go_ret
      exact ⟨ret_bool HD.out.symm, hb⟩

set_option maxHeartbeats 400000 in
theorem ref_may_calls {w : World} {v : Value} {l : List ByteArray} (h : StrsIn w v l) : GivesAt Try.prog 11 #[v] w (.bool (mayL l)) := by
  have hm := h.len
  unfold maxLen at hm
  obtain ⟨hb, hB⟩ := start w
  obtain ⟨A, cap, rfl, hat⟩ := one_at h
  have HAT := Lib.hid hat
  clear h hat
  unfold GivesAt
  go_enter Try.func11, Try.ntmps11
  go_wp2
  go_loopw [3] (fun i wr => ∃ k : Nat, k ≤ l.length ∧ i = .int .i64 k ∧ Hid (∀ c ∈ l.take k, isInt c = true) ∧ Below w.heap.size w wr) (fun i _ => l.length - (intOf i).toNat)
  case atStart => exact ⟨0, Nat.zero_le _, rfl, fun c hc => absurd hc (by simp), hb⟩
  case round =>
    clear hb hB
    obtain ⟨k, hk, rfl, HS, hb⟩ := hrel
    have hB := hb.size
    by_cases hlt : k < l.length
    · obtain ⟨b, off, rfl, hbl, hc⟩ := HAT.out k hlt
      have hx := (hb.cell (p := ⟨b, off + k, none⟩) hbl).trans (hc k hlt)
      have HT := Lib.hid (take_add l k hlt)
      have HM := Lib.hid (List.getElem_mem hlt)
      clear hc
      generalize l[k] = c at *
      have HN := Lib.hid (ref_num_both c)
      cases hi : isInt c with
      | true =>
        rw [hi] at HN
        have HI := Lib.hid hi
        clear hi
        go_wp2_with (go_at_call 21; refine HN.out.step (w0 := w) (B := w.heap.size) hb hB ?_; clear hb hB hx; intro w' hb hB)
        go_roundw
        case rel => exact ⟨k + 1, by omega, by go_num, fun d hd => by
          rw [HT.out] at hd
          rcases List.mem_append.1 hd with hd | hd
          · exact HS.out d hd
          · rw [List.mem_singleton.1 hd]; exact HI.out, hb⟩
        case measure => simp [intOf]; omega
      | false =>
        rw [hi] at HN
        have HD := Lib.hid (mayL_no HM.out hi)
        clear hi
        go_wp2_with (go_at_call 21; refine HN.out.step (w0 := w) (B := w.heap.size) hb hB ?_; clear hb hB hx; intro w' hb hB)
        go_ret
        exact ⟨ret_bool HD.out.symm, hb⟩
    · obtain rfl : k = l.length := by omega
      rw [List.take_length] at HS
      have HD := Lib.hid (mayL_all HS.out)
      go_wp2
      go_ret
      exact ⟨ret_bool HD.out.symm, hb⟩
end Go.Proofs.Ytbpigfpkcflbkaa
