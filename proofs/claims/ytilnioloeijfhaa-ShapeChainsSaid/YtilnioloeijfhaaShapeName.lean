/- The contract of layer 9's Name: a range over a text. -/
import Derived.Test.YtilnioloeijfhaaStrs
import Derived.Laws.RangeString
import Derived.Laws.RangeAny
namespace Go.Proofs.Ytilnioloeijfhaa
open Go Go.RowKit

def letterB (b : UInt8) : Bool := decide (97 ≤ b.toNat) && decide (b.toNat ≤ 122)
/-- Is a text 1 to 12 letters? -/
def nameB (s : ByteArray) : Bool := !s.toList.isEmpty && decide (s.size ≤ 12) && s.data.toList.all letterB
theorem byte_mem (s : ByteArray) (k : Nat) (h : k < s.size) : s[k] ∈ s.data.toList := by
  show s.data[k] ∈ s.data.toList
  exact Array.getElem_mem_toList h
theorem nameB_no {s : ByteArray} (k : Nat) (h : k < s.size) (hl : letterB s[k] = false) : nameB s = false := by
  have : s.data.toList.all letterB = false := by
    cases ha : s.data.toList.all letterB with
    | false => rfl
    | true => rw [List.all_eq_true] at ha; rw [ha _ (byte_mem s k h)] at hl; exact absurd hl (by decide)
  unfold nameB; rw [this, Bool.and_false]
theorem bytes_take (s : ByteArray) (k : Nat) (h : k < s.size) : s.data.toList.take (k + 1) = s.data.toList.take k ++ [s[k]] := by
  rw [List.take_succ_eq_append_getElem (by simpa using h)]; rfl
theorem letterB_not {b : UInt8} (h : ¬ (97 ≤ b.toNat ∧ b.toNat ≤ 122)) : letterB b = false := by
  unfold letterB
  rw [Bool.and_eq_false_iff, decide_eq_false_iff_not, decide_eq_false_iff_not]; omega
/-- What a step of a range gives of a byte that is no letter: no letter. -/
theorem rune_not (s : ByteArray) (k : Nat) (h : k < s.size) (hl : letterB s[k] = false) : ¬ (97 ≤ (Utf8.decode s k).1 ∧ (Utf8.decode s k).1 ≤ 122) := by
  by_cases ha : s[k].toNat < 128
  · rw [decode_ascii s k h ha]
    intro h2
    unfold letterB at hl
    rw [decide_eq_true h2.1, decide_eq_true h2.2] at hl
    exact absurd hl (by decide)
  · have := (decode_high s k h (by omega)).1; omega

set_option maxHeartbeats 1000000 in
set_option maxRecDepth 100000 in
theorem shape_name_calls (s : ByteArray) : Gives Try.prog 14 #[.string s] (.bool (nameB s)) := by
  intro w
  obtain ⟨hb, hB⟩ := start w
  cases he : s.toList.isEmpty with
  | true =>
    have HR := Lib.hid (show nameB s = false by unfold nameB; rw [he]; rfl)
    have g1 : (s.toList == []) = true := by rw [beq_iff_eq]; exact List.isEmpty_iff.1 he
    go_enter Try.func14, Try.ntmps14
    go_wp2
    go_ret
    exact ⟨ret_bool HR.out.symm, hb⟩
  | false =>
    by_cases hl : s.size ≤ 12
    · have d1 : decide (12 < (s.size : Int)) = false := by rw [decide_eq_false_iff_not]; omega
      have HE := Lib.hid he
      go_enter Try.func14, Try.ntmps14
      go_wp2
      go_loopw [] (fun w' => ∃ pos : Nat, pos ≤ s.size ∧ w' = w.iter s pos ∧ Hid (∀ b ∈ s.data.toList.take pos, letterB b = true)) (fun w' => s.size - w'.iterPos w.heap.size)
      case atStart => exact ⟨0, Nat.zero_le _, rfl, fun c hc => absurd hc (by simp)⟩
      case round =>
        obtain ⟨pos, hpos, rfl, HS⟩ := hrel
        by_cases hp : pos < s.size
        · have HT := Lib.hid (bytes_take s pos hp)
          cases hlt : letterB s[pos] with
          | true =>
            have HI := Lib.hid hlt
            unfold letterB at hlt
            rw [Bool.and_eq_true, decide_eq_true_eq, decide_eq_true_eq] at hlt
            have hnx : ∀ ty, (Instr.next (.pointer (some ⟨w.heap.size, 0, none⟩)) true ty).run Try.prog (w.iter s pos) = _ := fun ty => run_next_ascii w s pos ty hp (by omega)
            have d2 : decide ((s[pos].toNat : Int) < 97) = false := by rw [decide_eq_false_iff_not]; omega
            have d3 : decide (122 < (s[pos].toNat : Int)) = false := by rw [decide_eq_false_iff_not]; omega
            go_wp2
            go_roundw
            case rel => exact ⟨pos + 1, by omega, rfl, fun d hd => by
              rw [HT.out] at hd
              rcases List.mem_append.1 hd with hd | hd
              · exact HS.out d hd
              · rw [List.mem_singleton.1 hd]; exact HI.out⟩
            case measure => simp; omega
          | false =>
            have hnx : ∀ ty, (Instr.next (.pointer (some ⟨w.heap.size, 0, none⟩)) true ty).run Try.prog (w.iter s pos) = _ := fun ty => run_next_any w s pos ty hp
            have HD := Lib.hid (nameB_no pos hp hlt)
            have hr := rune_not s pos hp hlt
            generalize (Utf8.decode s pos).1 = r at *
            generalize (Utf8.decode s pos).2 = wd at *
            by_cases h97 : r < 97
            · have d2 : decide ((r : Int) < 97) = true := by rw [decide_eq_true_eq]; omega
              go_wp2
              go_ret
              exact ⟨ret_bool HD.out.symm, hb.alloc (Nat.le_refl _) _⟩
            · have d2 : decide ((r : Int) < 97) = false := by rw [decide_eq_false_iff_not]; omega
              have d3 : decide (122 < (r : Int)) = true := by rw [decide_eq_true_eq]; omega
              go_wp2
              go_ret
              exact ⟨ret_bool HD.out.symm, hb.alloc (Nat.le_refl _) _⟩
        · have hnx : ∀ ty, (Instr.next (.pointer (some ⟨w.heap.size, 0, none⟩)) true ty).run Try.prog (w.iter s pos) = _ := fun ty => run_next_end w s pos ty hp
          have HD : Hid (nameB s = true) := by
            show _ = _
            have h1 := HS.out
            rw [List.take_of_length_le (by rw [Array.length_toList]; show s.size ≤ pos; omega)] at h1
            unfold nameB
            rw [HE.out, decide_eq_true hl, List.all_eq_true.2 h1]; rfl
          go_wp2
          go_ret
          exact ⟨ret_bool HD.out.symm, hb.alloc (Nat.le_refl _) _⟩
    · have d1 : decide (12 < (s.size : Int)) = true := by rw [decide_eq_true_eq]; omega
      have HR := Lib.hid (show nameB s = false by unfold nameB; rw [decide_eq_false hl, Bool.and_false]; rfl)
      go_enter Try.func14, Try.ntmps14
      go_wp2
      go_ret
      exact ⟨ret_bool HR.out.symm, hb⟩
end Go.Proofs.Ytilnioloeijfhaa
