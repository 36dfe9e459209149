/- The walks of the laws VaryTells, VaryBack, VaryForms and VaryLong. -/
import Derived.Test.YtfbcagadghlglaaVaryLaws
namespace Go.Proofs.Ytfbcagadghlglaa
open Go Go.RowKit

theorem print_len (n : Nat) : (printB n).size = (vp n).length := by
  show (vp n).toArray.size = _
  exact List.size_toArray
theorem print_data (n : Nat) : (printB n).data.toList = vp n := rfl
theorem bytes_ext {a b : ByteArray} (h : a.data.toList = b.data.toList) : a = b := by
  cases a with | mk x => cases b with | mk y => cases x; cases y; cases h; rfl
theorem data_append (a b : ByteArray) : (a ++ b).data.toList = a.data.toList ++ b.data.toList := by simp
theorem data_extract (s : ByteArray) (a b : Nat) : (s.extract a b).data.toList = (s.data.toList.drop a).take (b - a) := by
  have := Lib.extract_toList s a b
  rwa [ByteArray.toList_eq] at this
theorem data_size (s : ByteArray) : s.data.toList.length = s.size := Array.length_toList
theorem extract_front (a b : ByteArray) : (a ++ b).extract a.size (a ++ b).size = b := by
  apply bytes_ext
  rw [data_extract, data_append]
  have h1 := data_size a
  have h2 := data_size (a ++ b)
  rw [data_append, List.length_append] at h2
  rw [← h1, List.drop_left, List.take_of_length_le]
  rw [h1] at h2 ⊢
  omega

theorem numT_print (n : Nat) (h : n < 18446744073709551616) (r : ByteArray) (m : Int) (hm : (n : Int) ≤ m) : numT (printB n ++ r) false m = (n, r, false) := by
  have e : nextNum (printB n ++ r).data.toList = some (n, (vp n).length) := by rw [data_append]; exact nextNum_vp n h _
  rw [numT_ok _ m _ _ e hm, ← print_len, extract_front]

theorem fold_nat (n : Int) (h0 : -9223372036854775808 ≤ n) (h1 : n ≤ 9223372036854775807) (w : World) :
    Calls Try.prog 11 #[.int .i64 n] w fun e w' => e = .returned (.int .u64 ((foldI n).toNat : Nat)) ∧ w = w' := by
  have k := fold_calls n h0 h1 w
  have e : ((foldI n).toNat : Int) = foldI n := by have := (foldI_range n h0 h1).1; omega
  rw [e]; exact k

set_option maxHeartbeats 1000000 in
set_option maxRecDepth 100000 in
theorem varyTells_calls (u : Nat) (n : Int) (hu : u < 18446744073709551616) (h0 : -9223372036854775808 ≤ n) (h1 : n ≤ 9223372036854775807) :
    Gives Try.prog 3 #[.int .u64 u, .int .i64 n] (.bool true) := by
  intro w
  obtain ⟨hb, hB⟩ := start w
  have p1 := Lib.hid (print_calls u hu)
  have p2 := Lib.hid (ref_print_calls u hu)
  have p3 := Lib.hid (fold_calls n h0 h1)
  have p4 := Lib.hid (ref_fold_calls n h0 h1)
  have p5 := Lib.hid (open_calls u hu)
  have p6 := Lib.hid (ref_open_calls u hu)
  clear hu h0 h1
  go_enter Try.func3, Try.ntmps3
  go_wp2_with (first | (go_at_call 8; refine awake_calls.step (w0 := w) (B := w.heap.size) hb hB ?_; clear hb hB; intro w' hb hB) | (go_at_call 9; refine p1.out.step hb hB ?_; clear hb hB; intro w' hb hB) | (go_at_call 10; refine p2.out.step hb hB ?_; clear hb hB; intro w' hb hB) | (go_at_call 11; refine (p3.out _).mono ?_; rintro e w' ⟨rfl, rfl⟩) | (go_at_call 12; refine (p4.out _).mono ?_; rintro e w' ⟨rfl, rfl⟩) | (go_at_call 13; refine (p5.out _).mono ?_; rintro e w' ⟨rfl, rfl⟩) | (go_at_call 14; refine (p6.out _).mono ?_; rintro e w' ⟨rfl, rfl⟩))
  go_ret
  exact ⟨rfl, by go_grown⟩

set_option maxHeartbeats 1000000 in
set_option maxRecDepth 100000 in
theorem notUnder_calls (u : Nat) (hu : u < 18446744073709551616) (h0 : 0 < u) : Gives Try.prog 23 #[.string (printB u), .int .u64 u] (.bool true) := by
  intro w
  obtain ⟨hb, hB⟩ := start w
  have e : nextNum (printB u).data.toList = some (u, (vp u).length) := by
    have := nextNum_vp u hu []
    rw [List.append_nil] at this
    exact this
  have q : IntKind.u64.wrap ((u : Int) - 1) = (u : Int) - 1 := by rw [IntKind.wrap_u64]; omega
  have nm : ∀ b, Takes Try.prog 31 15 [.int .u64 ((u : Int) - 1)] b (printB u) false (.int .u64 0) (printB u) true := fun b => num_over b (printB u) ((u : Int) - 1) _ _ e (by omega)
  have NM := Lib.hid nm
  clear e nm hu
  go_enter Try.func23, Try.ntmps23
  go_wp2_with (go_at_call 15; refine (NM.out _).stepB (w0 := w) (B := w.heap.size) (box_tape w _ _ _) (by go_grown) (by go_size) (Nat.le_refl _) ?_; clear hb hB; intro w1 hT1 hb hB _; have c1 := hT1.c1)
  go_ret
  exact ⟨rfl, by go_grown⟩

set_option maxHeartbeats 1000000 in
set_option maxRecDepth 100000 in
theorem varyBack_long (u : Nat) (n : Int) (s : ByteArray) (hl : 100 < s.size) :
    Gives Try.prog 5 #[.int .u64 u, .int .i64 n, .string s] (.bool true) := by
  intro w
  obtain ⟨hb, hB⟩ := start w
  go_enter Try.func5, Try.ntmps5
  go_wp2_with (go_at_call 8; refine awake_calls.step (w0 := w) (B := w.heap.size) hb hB ?_; clear hb hB; intro w' hb hB)
  go_ret
  exact ⟨rfl, by go_grown⟩

theorem cut_none (u : Nat) (hu : u < 18446744073709551616) : nextNum ((printB u).extract 0 ((printB u).size - 1)).data.toList = none := by
  obtain ⟨a, b, e, h1, _, _⟩ := vp_form u
  have hl := vp_len_10 hu
  have hs : (printB u).size = a.length + 1 := by rw [print_len, e]; simp
  have ed : ((printB u).extract 0 ((printB u).size - 1)).data.toList = a := by
    rw [data_extract, print_data, hs, e]; simp
  rw [ed]
  rw [e, List.length_append] at hl
  simp only [List.length_cons, List.length_nil] at hl
  exact nextNum_end a a.length (by omega) (by rw [List.take_length]; exact h1)

set_option maxHeartbeats 2000000 in
set_option maxRecDepth 100000 in
theorem varyBack_short (u : Nat) (n : Int) (s : ByteArray) (hu : u < 18446744073709551616) (h0 : -9223372036854775808 ≤ n) (h1 : n ≤ 9223372036854775807) (hl : s.size ≤ 100) :
    Gives Try.prog 5 #[.int .u64 u, .int .i64 n, .string s] (.bool true) := by
  intro w
  obtain ⟨hb, hB⟩ := start w
  have hF : (foldI n).toNat < 18446744073709551616 := by have := foldI_range n h0 h1; omega
  have hO : openI (foldI n).toNat = n := open_fold n
  have p1 := Lib.hid (print_calls u hu)
  have p3 := Lib.hid (fold_nat n h0 h1)
  generalize (foldI n).toNat = F at hF hO p3
  have p2 := Lib.hid (print_calls F hF)
  have hF' := hF
  have t1 : ∀ b, Takes Try.prog 31 15 [.int .u64 u] b (printB u ++ printB F ++ s) false (.int .u64 u) (printB F ++ s) false := by
    intro b
    have k := num_calls b (printB u ++ printB F ++ s) false u
    rw [ByteArray.append_assoc, numT_print u hu _ u (Int.le_refl _)] at k
    rw [ByteArray.append_assoc]
    exact k
  have t2 : ∀ b, Takes Try.prog 31 17 [] b (printB F ++ s) false (.int .i64 n) s false := by
    intro b
    have k := int_calls b (printB F ++ s) false
    rw [numT_print F hF _ maxU (by unfold maxU; omega)] at k
    simp only [] at k
    rw [hO] at k
    exact k
  have t3 : ∀ b, Takes Try.prog 31 15 [.int .u64 18446744073709551615] b ((printB u).extract 0 ((printB u).size - 1)) false (.int .u64 0) ((printB u).extract 0 ((printB u).size - 1)) true :=
    fun b => num_none b _ _ (cut_none u hu)
  have T1 := Lib.hid t1
  have T2 := Lib.hid t2
  have T3 := Lib.hid t3
  have nu : 0 < u → Gives Try.prog 23 #[.string (printB u), .int .u64 u] (.bool true) := notUnder_calls u hu
  have NU := Lib.hid nu
  have hp := vp_pos u
  have hq := vp_len_10 hu
  rw [← print_len] at hp hq
  clear t1 t2 t3 nu hF hO hu h0 h1
  have hq2 := vp_len_10 hF'
  rw [← print_len] at hq2
  clear hF'
  have sz : (printB u ++ printB F).size = (printB u).size + (printB F).size := ByteArray.size_append
  have y1 : (((printB u).size : Int) == 0) = false := by rw [beq_eq_false_iff_ne]; omega
  have y2 : (((printB u).size : Int) - 1).toNat = (printB u).size - 1 := by omega
  have z0 : (((u : Int) == 0) = true ∨ ((u : Int) == 0) = false ∧ Hid (0 < u)) := by
    by_cases hz : u = 0
    · left; rw [hz]; rfl
    · right; exact ⟨by rw [beq_eq_false_iff_ne]; omega, by show 0 < u; omega⟩
  rcases z0 with z0 | ⟨z0, HZ⟩
  all_goals
    go_enter Try.func5, Try.ntmps5
    go_wp2_with (first | (go_at_call_of 9 (Value.int .u64 (u : Int)); refine p1.out.step (w0 := w) (B := w.heap.size) hb hB ?_; clear hb hB; intro wb hb hB) | (go_at_call 11; refine (p3.out _).mono ?_; rintro e w' ⟨rfl, rfl⟩) | (go_at_call_of 9 (Value.int .u64 (F : Int)); refine p2.out.step (w0 := w) (B := w.heap.size) hb hB ?_; clear hb hB; intro wb hb hB))
    clear sz
    go_wp2_with (go_at_call 15; refine (T1.out _).stepB (w0 := w) (B := w.heap.size) (box_tape wb _ _ _) (by go_grown) (by go_size) (by go_size) ?_; intro wc hT1 hb hB _)
    go_wp2_with (go_at_call 17; refine (T2.out _).stepB (w0 := w) (B := w.heap.size) hT1 hb hB (by go_size) ?_; clear hT1 hb hB; intro wd hT1 hb hB _; have c0 := hT1.c0; have c1 := hT1.c1)
    go_wp2_with (go_at_call_of 9 (Value.int .u64 (u : Int)); refine p1.out.step (w0 := w) (B := w.heap.size) hb hB ?_; clear hT1 c0 c1 hb hB; intro we hb hB)
    go_wp2_with (go_at_call 8; refine awake_calls.stepB (w0 := w) (B := w.heap.size) (by go_grown) (by go_size) ?_; intro wf hb hB hk)
    have hT1 := (box_tape we ((printB u).extract 0 ((printB u).size - 1)) false 31).kept hk
    clear hk
    go_wp2_with (go_at_call 15; refine (T3.out _).stepB (w0 := w) (B := w.heap.size) hT1 hb hB (by go_size) ?_; clear hT1 hb hB; intro wd hT1 hb hB _; have c1 := hT1.c1)
    try go_wp2_with (go_at_call 23; refine (NU.out HZ.out).step (w0 := w) (B := w.heap.size) hb hB ?_; clear hT1 c1 hb hB; intro wf hb hB)
    go_ret
    exact ⟨rfl, by go_grown⟩

theorem varyBack_calls (u : Nat) (n : Int) (s : ByteArray) (hu : u < 18446744073709551616) (h0 : -9223372036854775808 ≤ n) (h1 : n ≤ 9223372036854775807) :
    Gives Try.prog 5 #[.int .u64 u, .int .i64 n, .string s] (.bool true) := by
  by_cases hl : s.size ≤ 100
  · exact varyBack_short u n s hu h0 h1 hl
  · exact varyBack_long u n s (by omega)
end Go.Proofs.Ytfbcagadghlglaa
