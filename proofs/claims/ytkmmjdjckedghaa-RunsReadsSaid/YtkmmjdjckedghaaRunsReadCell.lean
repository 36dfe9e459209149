/- The contracts of layer 4's ReadCell, and of its answer's. -/
import Derived.Test.YtkmmjdjckedghaaRunsCells
namespace Go.Proofs.Ytkmmjdjckedghaa
open Go Go.RowKit

def readT (s : ByteArray) (bad : Bool) : ByteArray × ByteArray × Bool := if cellOk s bad then ((cellT s bad).1, (cellT s bad).2.1, false) else (⟨#[]⟩, s, true)
def readRT (s : ByteArray) (bad : Bool) : ByteArray × ByteArray × Bool := if cellOk s bad then ((cellT s bad).1, (cellT s bad).2.1, false) else (⟨#[]⟩, (cellT s bad).2.1, true)

set_option maxHeartbeats 1000000 in
set_option maxRecDepth 100000 in
theorem readCell_yes (b : Nat) (s r1 r2 c : ByteArray) (bad b1 : Bool) (n : Nat) (hr : rightB c = true)
    (T1 : ∀ b, Takes Try.prog 33 28 [.int .u64 1048576] b s bad (.int .u64 n) r1 b1) (T2 : ∀ b, Takes Try.prog 33 27 [.int .u64 n] b r1 b1 (.string c) r2 false) :
    Takes Try.prog 33 18 [] b s bad (.string c) r2 false := by
  intro w hT
  have hc0 := hT.c0
  have hc1 := hT.c1
  have hbw := hT.lt
  have H1 := Lib.hid (T1 w.heap.size)
  have H2 := Lib.hid (T2 w.heap.size)
  have HR := Lib.hid (right_calls c)
  rw [hr] at HR
  clear T1 T2
  go_enter Try.func18, Try.ntmps18
  go_wp2_with (first | (go_at_call 28; refine H1.out.step (box_tape w s bad _) (grown_refl _ _) ?_; intro w1 hA hg) | (go_at_call 27; refine H2.out.step hA hg ?_; clear hA hg hc0 hc1; intro w2 hA hg; have hb := boxed_below hg; replace hT := hT.kept hb; clear hg; have c0 := hT.c0; have c1 := hT.c1; have f0 := hT.f0 0; have f1 := hT.f0 1; have a0 := hA.c0; have a1 := hA.c1) | (go_at_call 20; refine HR.out.stepB (w0 := w) (B := w.heap.size) hb hb.size ?_; clear hb; intro w3 hb _ hk; clear c0 c1 f0 f1 a0 a1; replace hT := hT.kept hk; replace hA := hA.kept hk; have c0 := hT.c0; have c1 := hT.c1; have f0 := hT.f0 0; have f1 := hT.f0 1; have a0 := hA.c0; have a1 := hA.c1))
  go_ret
  exact ⟨rfl, (hT.set0 _).set1 _, grown_set (grown_set (grown_below hb _) _ _) _ _⟩

set_option maxHeartbeats 1000000 in
set_option maxRecDepth 100000 in
theorem readCell_no (b : Nat) (s r1 r2 c : ByteArray) (bad b1 : Bool) (n : Nat) (hr : rightB c = false)
    (T1 : ∀ b, Takes Try.prog 33 28 [.int .u64 1048576] b s bad (.int .u64 n) r1 b1) (T2 : ∀ b, Takes Try.prog 33 27 [.int .u64 n] b r1 b1 (.string c) r2 false) :
    Takes Try.prog 33 18 [] b s bad (.string ⟨#[]⟩) s true := by
  intro w hT
  have hc0 := hT.c0
  have hc1 := hT.c1
  have hbw := hT.lt
  have H1 := Lib.hid (T1 w.heap.size)
  have H2 := Lib.hid (T2 w.heap.size)
  have HR := Lib.hid (right_calls c)
  rw [hr] at HR
  clear T1 T2
  go_enter Try.func18, Try.ntmps18
  go_wp2_with (first | (go_at_call 28; refine H1.out.step (box_tape w s bad _) (grown_refl _ _) ?_; intro w1 hA hg) | (go_at_call 27; refine H2.out.step hA hg ?_; clear hA hg hc0 hc1; intro w2 hA hg; have hb := boxed_below hg; replace hT := hT.kept hb; clear hg; have c0 := hT.c0; have c1 := hT.c1; have f0 := hT.f0 0; have f1 := hT.f0 1; have a0 := hA.c0; have a1 := hA.c1) | (go_at_call 20; refine HR.out.stepB (w0 := w) (B := w.heap.size) hb hb.size ?_; clear hb; intro w3 hb _ hk; clear c0 c1 f0 f1 a0 a1; replace hT := hT.kept hk; replace hA := hA.kept hk; have c0 := hT.c0; have c1 := hT.c1; have f0 := hT.f0 0; have f1 := hT.f0 1; have a0 := hA.c0; have a1 := hA.c1))
  go_ret
  exact ⟨rfl, hT.set1 _, grown_set (grown_below hb _) _ _⟩

set_option maxHeartbeats 1000000 in
set_option maxRecDepth 100000 in
theorem readCell_bad (b : Nat) (s r1 r2 c : ByteArray) (bad b1 : Bool) (n : Nat)
    (T1 : ∀ b, Takes Try.prog 33 28 [.int .u64 1048576] b s bad (.int .u64 n) r1 b1) (T2 : ∀ b, Takes Try.prog 33 27 [.int .u64 n] b r1 b1 (.string c) r2 true) :
    Takes Try.prog 33 18 [] b s bad (.string ⟨#[]⟩) s true := by
  intro w hT
  have hc0 := hT.c0
  have hc1 := hT.c1
  have hbw := hT.lt
  have H1 := Lib.hid (T1 w.heap.size)
  have H2 := Lib.hid (T2 w.heap.size)
  clear T1 T2
  go_enter Try.func18, Try.ntmps18
  go_wp2_with (first | (go_at_call 28; refine H1.out.step (box_tape w s bad _) (grown_refl _ _) ?_; intro w1 hA hg) | (go_at_call 27; refine H2.out.step hA hg ?_; clear hA hg hc0 hc1; intro w2 hA hg; have hb := boxed_below hg; replace hT := hT.kept hb; clear hg; have c0 := hT.c0; have c1 := hT.c1; have f0 := hT.f0 0; have f1 := hT.f0 1; have a0 := hA.c0; have a1 := hA.c1))
  go_ret
  exact ⟨rfl, hT.set1 _, grown_set (grown_below hb _) _ _⟩

theorem readCell_calls (b : Nat) (s : ByteArray) (bad : Bool) (hs : s.size ≤ 9223372036854775807) :
    Takes Try.prog 33 18 [] b s bad (.string (readT s bad).1) (readT s bad).2.1 (readT s bad).2.2 := by
  have T1 := fun b => tnum_calls b s bad 1048576
  have T2 := fun b => ttext_calls b (numT s bad 1048576).2.1 (numT s bad 1048576).2.2 (numT s bad 1048576).1 (Nat.le_trans (numT_size s bad 1048576) hs)
  have hok : cellOk s bad = (!(cellT s bad).2.2 && rightB (cellT s bad).1) := rfl
  have T2' : ∀ b, Takes Try.prog 33 27 [.int .u64 (numT s bad 1048576).1] b (numT s bad 1048576).2.1 (numT s bad 1048576).2.2 (.string (cellT s bad).1) (cellT s bad).2.1 (cellT s bad).2.2 := T2
  clear T2
  unfold readT
  generalize cellT s bad = x at *
  obtain ⟨c, r, b2⟩ := x
  cases b2 with
  | true => rw [hok]; exact readCell_bad b s _ r c bad _ _ T1 T2'
  | false =>
    cases hr : rightB c with
    | true => rw [hok]; simp only [hr]; exact readCell_yes b s _ r c bad _ _ hr T1 T2'
    | false => rw [hok]; simp only [hr]; exact readCell_no b s _ r c bad _ _ hr T1 T2'

set_option maxHeartbeats 1000000 in
set_option maxRecDepth 100000 in
theorem ref_readCell_yes (b : Nat) (s r1 r2 c : ByteArray) (bad b1 : Bool) (n : Nat) (hr : rightB c = true)
    (T1 : Takes Try.prog 35 26 [.int .u64 1048576] b s bad (.int .u64 n) r1 b1) (T2 : Takes Try.prog 35 29 [.int .u64 n] b r1 b1 (.string c) r2 false) :
    Takes Try.prog 35 19 [] b s bad (.string c) r2 false := by
  intro w hT
  have hg := grown_refl w (some b)
  have H1 := Lib.hid T1
  have H2 := Lib.hid T2
  have HR := Lib.hid (ref_right_calls c)
  rw [hr] at HR
  clear T1 T2
  go_enter Try.func19, Try.ntmps19
  go_wp2_with (first | (go_at_call 26; refine H1.out.step hT hg ?_; clear hT hg; intro w1 hT hg) | (go_at_call 29; refine H2.out.step hT hg ?_; clear hT hg; intro w2 hT hg; have c0 := hT.c0; have c1 := hT.c1; have f0 := hT.f0 0; have f1 := hT.f0 1) | (go_at_call 30; refine HR.out.stepB (w0 := w2) (B := w2.heap.size) (.refl _ _) (Nat.le_refl _) ?_; intro w3 hk _ _; clear c0 c1 f0 f1; replace hT := hT.kept hk; replace hg := grown_trans hg (grown_below hk _); have c0 := hT.c0; have c1 := hT.c1; have f0 := hT.f0 0; have f1 := hT.f0 1))
  go_ret
  exact ⟨rfl, hT, hg⟩

set_option maxHeartbeats 1000000 in
set_option maxRecDepth 100000 in
theorem ref_readCell_no (b : Nat) (s r1 r2 c : ByteArray) (bad b1 : Bool) (n : Nat) (hr : rightB c = false)
    (T1 : Takes Try.prog 35 26 [.int .u64 1048576] b s bad (.int .u64 n) r1 b1) (T2 : Takes Try.prog 35 29 [.int .u64 n] b r1 b1 (.string c) r2 false) :
    Takes Try.prog 35 19 [] b s bad (.string ⟨#[]⟩) r2 true := by
  intro w hT
  have hg := grown_refl w (some b)
  have H1 := Lib.hid T1
  have H2 := Lib.hid T2
  have HR := Lib.hid (ref_right_calls c)
  rw [hr] at HR
  clear T1 T2
  go_enter Try.func19, Try.ntmps19
  go_wp2_with (first | (go_at_call 26; refine H1.out.step hT hg ?_; clear hT hg; intro w1 hT hg) | (go_at_call 29; refine H2.out.step hT hg ?_; clear hT hg; intro w2 hT hg; have c0 := hT.c0; have c1 := hT.c1; have f0 := hT.f0 0; have f1 := hT.f0 1) | (go_at_call 30; refine HR.out.stepB (w0 := w2) (B := w2.heap.size) (.refl _ _) (Nat.le_refl _) ?_; intro w3 hk _ _; clear c0 c1 f0 f1; replace hT := hT.kept hk; replace hg := grown_trans hg (grown_below hk _); have c0 := hT.c0; have c1 := hT.c1; have f0 := hT.f0 0; have f1 := hT.f0 1))
  go_ret
  exact ⟨rfl, hT.set1 _, grown_set hg _ _⟩

set_option maxHeartbeats 1000000 in
set_option maxRecDepth 100000 in
theorem ref_readCell_bad (b : Nat) (s r1 r2 c : ByteArray) (bad b1 : Bool) (n : Nat)
    (T1 : Takes Try.prog 35 26 [.int .u64 1048576] b s bad (.int .u64 n) r1 b1) (T2 : Takes Try.prog 35 29 [.int .u64 n] b r1 b1 (.string c) r2 true) :
    Takes Try.prog 35 19 [] b s bad (.string ⟨#[]⟩) r2 true := by
  intro w hT
  have hg := grown_refl w (some b)
  have H1 := Lib.hid T1
  have H2 := Lib.hid T2
  clear T1 T2
  go_enter Try.func19, Try.ntmps19
  go_wp2_with (first | (go_at_call 26; refine H1.out.step hT hg ?_; clear hT hg; intro w1 hT hg) | (go_at_call 29; refine H2.out.step hT hg ?_; clear hT hg; intro w2 hT hg; have c0 := hT.c0; have c1 := hT.c1; have f0 := hT.f0 0; have f1 := hT.f0 1))
  go_ret
  exact ⟨rfl, hT.set1 _, grown_set hg _ _⟩

theorem ref_readCell_calls (b : Nat) (s : ByteArray) (bad : Bool) (hs : s.size ≤ 9223372036854775807) :
    Takes Try.prog 35 19 [] b s bad (.string (readRT s bad).1) (readRT s bad).2.1 (readRT s bad).2.2 := by
  have T1 := ref_tnum_calls b s bad 1048576
  have T2 := ref_ttext_calls b (numT s bad 1048576).2.1 (numT s bad 1048576).2.2 (numT s bad 1048576).1 (Nat.le_trans (numT_size s bad 1048576) hs)
  have hok : cellOk s bad = (!(cellT s bad).2.2 && rightB (cellT s bad).1) := rfl
  have T2' : Takes Try.prog 35 29 [.int .u64 (numT s bad 1048576).1] b (numT s bad 1048576).2.1 (numT s bad 1048576).2.2 (.string (cellT s bad).1) (cellT s bad).2.1 (cellT s bad).2.2 := T2
  clear T2
  unfold readRT
  generalize cellT s bad = x at *
  obtain ⟨c, r, b2⟩ := x
  cases b2 with
  | true => rw [hok]; exact ref_readCell_bad b s _ r c bad _ _ T1 T2'
  | false =>
    cases hr : rightB c with
    | true => rw [hok]; simp only [hr]; exact ref_readCell_yes b s _ r c bad _ _ hr T1 T2'
    | false => rw [hok]; simp only [hr]; exact ref_readCell_no b s _ r c bad _ _ hr T1 T2'

end Go.Proofs.Ytkmmjdjckedghaa
