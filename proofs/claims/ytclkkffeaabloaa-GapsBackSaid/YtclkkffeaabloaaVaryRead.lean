/- Contracts of a tape's methods, of the layer and of its answer. -/
import Derived.Test.YtclkkffeaabloaaVaryTape
namespace Go.Proofs.Ytclkkffeaabloaa
open Go Go.RowKit

/-- A tape lies in a block. -/
def TapeIn (T : TypeId) (w : World) (b : Nat) (s : ByteArray) (bad : Bool) : Prop := w.heap[b]? = some (.cells #[.string s, .bool bad] T (0, 0))
theorem TapeIn.c0 {T : TypeId} {w : World} {b : Nat} {s : ByteArray} {bad : Bool} (h : TapeIn T w b s bad) : w.cell? ⟨b, 0, none⟩ = some (.string s) := cell_of_row w b 0 _ T _ h
theorem TapeIn.c1 {T : TypeId} {w : World} {b : Nat} {s : ByteArray} {bad : Bool} (h : TapeIn T w b s bad) : w.cell? ⟨b, 1, none⟩ = some (.bool bad) := cell_of_row w b 1 _ T _ h
theorem TapeIn.f0 {T : TypeId} {w : World} {b : Nat} {s : ByteArray} {bad : Bool} (h : TapeIn T w b s bad) (i : Nat) : w.frozen? ⟨b, i, none⟩ = false := frozen_of_row w b i _ T h
theorem TapeIn.lt {T : TypeId} {w : World} {b : Nat} {s : ByteArray} {bad : Bool} (h : TapeIn T w b s bad) : b < w.heap.size := lt_of_block h
theorem TapeIn.set0 {T : TypeId} {w : World} {b : Nat} {s : ByteArray} {bad : Bool} (h : TapeIn T w b s bad) (s' : ByteArray) : TapeIn T (w.setCell ⟨b, 0, none⟩ (.string s')) b s' bad := by
  unfold TapeIn; rw [heap_setCell_same w b 0 _ T _ h]; rfl
theorem TapeIn.set1 {T : TypeId} {w : World} {b : Nat} {s : ByteArray} {bad : Bool} (h : TapeIn T w b s bad) (c : Bool) : TapeIn T (w.setCell ⟨b, 1, none⟩ (.bool c)) b s c := by
  unfold TapeIn; rw [heap_setCell_same w b 1 _ T _ h]; rfl
theorem TapeIn.kept {T : TypeId} {w w' : World} {b : Nat} {s : ByteArray} {bad : Bool} (h : TapeIn T w b s bad) (hb : Below w.heap.size w w') : TapeIn T w' b s bad := by
  unfold TapeIn; rw [hb.block b h.lt]; exact h
theorem TapeIn.other {T : TypeId} {w w' : World} {b c : Nat} {s : ByteArray} {bad : Bool} (h : TapeIn T w b s bad) (hg : w.grownBy w' (some c)) (hn : b ≠ c) : TapeIn T w' b s bad := by
  unfold TapeIn; rw [hg.block b h.lt (by simpa using hn)]; exact h
theorem grown_refl (w : World) (row : Option Nat) : w.grownBy w row := ⟨rfl, rfl, rfl, Nat.le_refl _, fun _ _ _ => rfl⟩
theorem grown_below {w w' : World} (h : Below w.heap.size w w') (row : Option Nat) : w.grownBy w' row := ⟨h.os, h.tape, h.output, h.size, fun k hk _ => h.block k hk⟩
theorem grown_trans {a b c : World} {row : Option Nat} (h : a.grownBy b row) (k : b.grownBy c row) : a.grownBy c row :=
  ⟨k.os.trans h.os, k.tape.trans h.tape, k.output.trans h.output, Nat.le_trans h.size k.size, fun i hi hr => (k.block i (Nat.lt_of_lt_of_le hi h.size) hr).trans (h.block i hi hr)⟩
theorem grown_set {a w : World} {b : Nat} (h : a.grownBy w (some b)) (i : Nat) (v : Value) : a.grownBy (w.setCell ⟨b, i, none⟩ v) (some b) :=
  grown_trans h ⟨rfl, rfl, rfl, by simp, fun k _ hr => heap_setCell_other w _ k v (by intro e; exact hr (by rw [e]))⟩

/-- What a call does to a tape: a result, what is left, whether it is bad. -/
def Takes (P : Program) (T : TypeId) (f : FuncId) (more : List Value) (b : Nat) (s : ByteArray) (bad : Bool) (v : Value) (s' : ByteArray) (bad' : Bool) : Prop :=
  ∀ w : World, TapeIn T w b s bad → Calls P f (Value.pointer (some ⟨b, 0, none⟩) :: more).toArray w fun e w' => e = .returned v ∧ TapeIn T w' b s' bad' ∧ w.grownBy w' (some b)

theorem first_none (s : ByteArray) (h : nextNum s.data.toList = none) : Gives Try.prog 27 #[.string s] (.tuple #[.int .u64 0, .int .i64 0]) := by
  have := first_calls s
  unfold firstR at this
  rwa [h] at this
theorem first_some (s : ByteArray) (n k : Nat) (h : nextNum s.data.toList = some (n, k)) : Gives Try.prog 27 #[.string s] (.tuple #[.int .u64 n, .int .i64 k]) := by
  have := first_calls s
  unfold firstR at this
  rwa [h] at this
theorem Gives.tape {P : Program} {f : FuncId} {args : Array Value} {v : Value} (h : Gives P f args v) {T : TypeId} {w0 w : World} {b : Nat} {s : ByteArray} {bad : Bool} (hT : TapeIn T w b s bad)
    (hg : w0.grownBy w (some b)) {R : Ending → World → Prop} (k : ∀ w', TapeIn T w' b s bad → w0.grownBy w' (some b) → R (.returned v) w') : Calls P f args w R :=
  (h w).mono fun _ _ ⟨he, hw⟩ => he ▸ k _ (hT.kept hw) (grown_trans hg (grown_below hw _))

theorem stopped_calls (b : Nat) (s : ByteArray) (bad : Bool) (w : World) (hT : TapeIn 36 w b s bad) :
    Calls Try.prog 26 #[.pointer (some ⟨b, 0, none⟩)] w fun e w' => e = .returned (.bool bad) ∧ w = w' := by
  have hc1 := hT.c1
  go_enter Try.func26, Try.ntmps26
  go_wp2
  go_ret
  exact ⟨rfl, rfl⟩

set_option maxHeartbeats 400000 in
theorem num_bad (b : Nat) (s : ByteArray) (m : Int) : Takes Try.prog 36 24 [.int .u64 m] b s true (.int .u64 0) s true := by
  intro w hT
  go_enter Try.func24, Try.ntmps24
  go_wp2_with (go_at_call 26; refine (stopped_calls b s true _ hT).mono ?_; rintro e w' ⟨rfl, rfl⟩)
  go_ret
  exact ⟨rfl, hT, grown_refl _ _⟩

set_option maxHeartbeats 400000 in
theorem num_none (b : Nat) (s : ByteArray) (m : Int) (h : nextNum s.data.toList = none) : Takes Try.prog 36 24 [.int .u64 m] b s false (.int .u64 0) s true := by
  intro w hT
  have H := Lib.hid h
  clear h
  have hc0 := hT.c0
  have hc1 := hT.c1
  have hf := hT.f0 1
  go_enter Try.func24, Try.ntmps24
  go_wp2_with (first | (go_at_call 26; refine (stopped_calls b s false _ hT).mono ?_; rintro e w' ⟨rfl, rfl⟩) | (go_at_call 27; refine (first_none s H.out).tape hT (grown_refl w (some b)) ?_; clear hT hc0 hc1 hf; intro w' hT hg; have hc0 := hT.c0; have hc1 := hT.c1; have hf := hT.f0 1))
  go_ret
  exact ⟨rfl, hT.set1 true, grown_set hg _ _⟩

set_option maxHeartbeats 400000 in
theorem num_over (b : Nat) (s : ByteArray) (m : Int) (n k : Nat) (h : nextNum s.data.toList = some (n, k)) (hm : m < n) : Takes Try.prog 36 24 [.int .u64 m] b s false (.int .u64 0) s true := by
  intro w hT
  have hk : 0 < k := (nextNum_some h).2.2.2.2.1
  have H := Lib.hid h
  have ht : ((k : Int) == 0) = false := by rw [beq_eq_false_iff_ne]; omega
  have ht2 : decide (m < (n : Int)) = true := by rw [decide_eq_true_eq]; exact hm
  clear h hk hm
  have hc0 := hT.c0
  have hc1 := hT.c1
  have hf := hT.f0 1
  go_enter Try.func24, Try.ntmps24
  go_wp2_with (first | (go_at_call 26; refine (stopped_calls b s false _ hT).mono ?_; rintro e w' ⟨rfl, rfl⟩) | (go_at_call 27; refine (first_some s n k H.out).tape hT (grown_refl w (some b)) ?_; clear hT hc0 hc1 hf; intro w' hT hg; have hc0 := hT.c0; have hc1 := hT.c1; have hf := hT.f0 1))
  go_ret
  exact ⟨rfl, hT.set1 true, grown_set hg _ _⟩

set_option maxHeartbeats 400000 in
theorem num_ok (b : Nat) (s : ByteArray) (m : Int) (n k : Nat) (h : nextNum s.data.toList = some (n, k)) (hm : (n : Int) ≤ m) : Takes Try.prog 36 24 [.int .u64 m] b s false (.int .u64 n) (s.extract k s.size) false := by
  intro w hT
  have hk : 0 < k := (nextNum_some h).2.2.2.2.1
  have hks : k ≤ s.size := by have := (nextNum_some h).2.2.1; rwa [Array.length_toList] at this
  have H := Lib.hid h
  have ht : ((k : Int) == 0) = false := by rw [beq_eq_false_iff_ne]; omega
  have ht2 : decide (m < (n : Int)) = false := by rw [decide_eq_false_iff_not]; omega
  clear h hk hm
  have hc0 := hT.c0
  have hc1 := hT.c1
  have hf := hT.f0 0
  go_enter Try.func24, Try.ntmps24
  go_wp2_with (first | (go_at_call 26; refine (stopped_calls b s false _ hT).mono ?_; rintro e w' ⟨rfl, rfl⟩) | (go_at_call 27; refine (first_some s n k H.out).tape hT (grown_refl w (some b)) ?_; clear hT hc0 hc1 hf; intro w' hT hg; have hc0 := hT.c0; have hc1 := hT.c1; have hf := hT.f0 0))
  go_ret
  exact ⟨rfl, hT.set0 _, grown_set hg _ _⟩

/-- What the next number is, what is left, whether the tape is bad. -/
def numT (s : ByteArray) (bad : Bool) (m : Int) : Nat × ByteArray × Bool :=
  if bad then (0, s, true) else match nextNum s.data.toList with
    | none => (0, s, true)
    | some (n, k) => if (n : Int) ≤ m then (n, s.extract k s.size, false) else (0, s, true)

theorem tnum_calls (b : Nat) (s : ByteArray) (bad : Bool) (m : Int) :
    Takes Try.prog 36 24 [.int .u64 m] b s bad (.int .u64 ((numT s bad m).1 : Nat)) (numT s bad m).2.1 (numT s bad m).2.2 := by
  cases bad with
  | true => exact num_bad b s m
  | false =>
    unfold numT
    cases h : nextNum s.data.toList with
    | none => exact num_none b s m h
    | some p =>
      obtain ⟨n, k⟩ := p
      by_cases hm : (n : Int) ≤ m
      · simp only [if_pos hm]; exact num_ok b s m n k h hm
      · simp only [if_neg hm]; exact num_over b s m n k h (by omega)

theorem numT_lt (s : ByteArray) (bad : Bool) (m : Int) : (numT s bad m).1 < 18446744073709551616 := by
  unfold numT
  cases bad with
  | true => exact (by decide : (0 : Nat) < 18446744073709551616)
  | false =>
    cases h : nextNum s.data.toList with
    | none => exact (by decide : (0 : Nat) < 18446744073709551616)
    | some p =>
      obtain ⟨n, k⟩ := p
      have := (nextNum_some h).2.2.2.1
      simp only [Bool.false_eq_true, if_false]
      split
      · exact this
      · exact (by decide : (0 : Nat) < 18446744073709551616)

theorem Takes.step {P : Program} {T : TypeId} {f : FuncId} {more : List Value} {b : Nat} {s s' : ByteArray} {bad bad' : Bool} {v : Value} (h : Takes P T f more b s bad v s' bad')
    {w0 w : World} (hT : TapeIn T w b s bad) (hg : w0.grownBy w (some b)) {R : Ending → World → Prop} (k : ∀ w', TapeIn T w' b s' bad' → w0.grownBy w' (some b) → R (.returned v) w') :
    Calls P f (Value.pointer (some ⟨b, 0, none⟩) :: more).toArray w R :=
  (h w hT).mono fun _ _ ⟨he, hT', hw⟩ => he ▸ k _ hT' (grown_trans hg hw)

def maxU : Int := 18446744073709551615
/-- The next bytes, what is left, whether the tape is bad. -/
def textT (s : ByteArray) (bad : Bool) (n : Nat) : ByteArray × ByteArray × Bool :=
  if bad then (⟨#[]⟩, s, true) else if n ≤ s.size then (s.extract 0 n, s.extract n s.size, false) else (⟨#[]⟩, s, true)

theorem wrap_size (s : ByteArray) (hs : s.size ≤ 9223372036854775807) : IntKind.u64.wrap (s.size : Int) = (s.size : Int) := wrap_lt _ (by omega)
end Go.Proofs.Ytclkkffeaabloaa
