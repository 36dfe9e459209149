/- The contracts of layer 4's Cell and ReadCell, and of its answer's. -/
import Derived.Test.YtkmmjdjckedghaaRunsRuns
import Derived.Test.YtkmmjdjckedghaaCellWalks
namespace Go.Proofs.Ytkmmjdjckedghaa
open Go Go.RowKit

theorem cellP_B (c : ByteArray) : printB c.size ++ c = mkB (cellP c) := bytes_ext (by rw [data_append, print_data]; rfl)
theorem cellP_length (c : ByteArray) : (cellP c).length ≤ 10 + c.size ∨ ¬ c.size < 18446744073709551616 := by
  by_cases h : c.size < 18446744073709551616
  · left
    unfold cellP
    rw [List.length_append, ba_len]
    have := vp_len_10 h
    omega
  · exact .inr h

theorem runs_cell_calls (c : ByteArray) (hc : c.size ≤ 140737488351232) : Gives Try.prog 12 #[.string c] (.string (mkB (cellP c))) := by
  intro w
  obtain ⟨hb, hB⟩ := start w
  have HP := Lib.hid (cellP_B c)
  have hw : IntKind.u64.wrap (c.size : Int) = (c.size : Int) := wrap_lt _ (by omega)
  have p1 := Lib.hid (print_calls c.size (by omega))
  have hz : (printB c.size).size ≤ 10 := by rw [print_len]; exact vp_len_10 (by omega)
  go_enter Try.func12, Try.ntmps12
  go_wp2_with (go_at_call 23; refine p1.out.step (w0 := w) (B := w.heap.size) hb hB ?_; clear hb hB; intro wb hb hB)
  go_ret
  exact ⟨ret_str HP.out, hb⟩
theorem ref_runs_cell_calls (c : ByteArray) (hc : c.size ≤ 140737488351232) : Gives Try.prog 13 #[.string c] (.string (mkB (cellP c))) := by
  intro w
  obtain ⟨hb, hB⟩ := start w
  have HP := Lib.hid (cellP_B c)
  have hw : IntKind.u64.wrap (c.size : Int) = (c.size : Int) := wrap_lt _ (by omega)
  have p1 := Lib.hid (ref_print_calls c.size (by omega))
  have hz : (printB c.size).size ≤ 10 := by rw [print_len]; exact vp_len_10 (by omega)
  go_enter Try.func13, Try.ntmps13
  go_wp2_with (go_at_call 24; refine p1.out.step (w0 := w) (B := w.heap.size) hb hB ?_; clear hb hB; intro wb hb hB)
  go_ret
  exact ⟨ret_str HP.out, hb⟩

/-- The next cell's text, what is left behind it, and whether the tape is bad then. -/
def cellT (s : ByteArray) (bad : Bool) : ByteArray × ByteArray × Bool := textT (numT s bad 1048576).2.1 (numT s bad 1048576).2.2 (numT s bad 1048576).1
/-- Is the next cell one? -/
def cellOk (s : ByteArray) (bad : Bool) : Bool := !(cellT s bad).2.2 && rightB (cellT s bad).1
theorem cellT_size (s : ByteArray) (bad : Bool) : (cellT s bad).2.1.size ≤ s.size := Nat.le_trans (textT_size _ _ _) (numT_size _ _ _)
theorem cellT_suf (s : ByteArray) (bad : Bool) : Suf (cellT s bad).2.1 s := (textT_suf _ _ _).trans (numT_suf _ _ _)
theorem cellT_good {s : ByteArray} {bad : Bool} (h : (cellT s bad).2.2 = false) : bad = false ∧ (cellT s bad).1.size ≤ 1048576 ∧ s.data.toList = cellP (cellT s bad).1 ++ (cellT s bad).2.1.data.toList := by
  obtain ⟨h1, h2, h3⟩ := textT_good' h
  obtain ⟨h4, h5⟩ := numT_good h1
  have h6 := numT_le s bad 1048576 (by decide)
  have h7 : (cellT s bad).1.size = (numT s bad 1048576).1 := h2
  refine ⟨h4, by omega, ?_⟩
  have e : s.data.toList = vp (cellT s bad).1.size ++ ((cellT s bad).1.data.toList ++ (cellT s bad).2.1.data.toList) := by
    rw [h7, ← data_append, ← print_data, ← data_append]
    exact congrArg (fun x => x.data.toList) (h5.trans (congrArg (printB _ ++ ·) h3))
  rw [e]; unfold cellP; rw [List.append_assoc]
theorem cellT_at (c : ByteArray) (hc : c.size ≤ 1048576) (s : ByteArray) (r : List UInt8) (h : s.data.toList = cellP c ++ r) : cellT s false = (c, mkB r, false) := by
  have es : s = printB c.size ++ (c ++ mkB r) := by
    apply bytes_ext
    rw [h, data_append, data_append, print_data, mkB_data]
    unfold cellP
    rw [List.append_assoc]
  have e1 := numT_print c.size (by omega) (c ++ mkB r) 1048576 (by omega)
  unfold cellT
  rw [es, e1]
  exact textT_append c (mkB r)
theorem rightB_size {c : ByteArray} (h : rightB c = true) : c.size ≤ 17 := by
  unfold rightB at h
  simp only [Bool.or_eq_true, Bool.and_eq_true, beq_iff_eq, decide_eq_true_eq] at h
  rcases h with ((h | h) | h) | h
  · rw [ByteArray.toList_eq, List.isEmpty_iff] at h
    have := congrArg List.length h
    rw [ba_len] at this
    rw [this]; simp
  · omega
  · omega
  · exact h.2

end Go.Proofs.Ytkmmjdjckedghaa
