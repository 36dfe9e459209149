/- Contracts of a tape's methods, of the layer and of its answer. -/
import Derived.Test.YtppmmkmlngmafaaVaryTape
namespace Go.Proofs.Ytppmmkmlngmafaa
open Go Go.RowKit

/-- A tape lies in a block. -/
def TapeIn (T : TypeId) (w : World) (b : Nat) (s : ByteArray) (bad : Bool) : Prop := w.heap[b]? = some (.cells #[.string s, .bool bad] T (0, 0))
theorem TapeIn.c0 {T : TypeId} {w : World} {b : Nat} {s : ByteArray} {bad : Bool} (h : TapeIn T w b s bad) : w.cell? ⟨b, 0, none⟩ = some (.string s) := cell_of_row w b 0 _ T _ h
theorem TapeIn.c1 {T : TypeId} {w : World} {b : Nat} {s : ByteArray} {bad : Bool} (h : TapeIn T w b s bad) : w.cell? ⟨b, 1, none⟩ = some (.bool bad) := cell_of_row w b 1 _ T _ h
theorem TapeIn.f0 {T : TypeId} {w : World} {b : Nat} {s : ByteArray} {bad : Bool} (h : TapeIn T w b s bad) (i : Nat) : w.frozen? ⟨b, i, none⟩ = false := frozen_of_row w b i _ T h
theorem TapeIn.lt {T : TypeId} {w : World} {b : Nat} {s : ByteArray} {bad : Bool} (h : TapeIn T w b s bad) : b < w.heap.size := lt_of_block h
theorem TapeIn.set0 {T : TypeId} {w : World} {b : Nat} {s : ByteArray} {bad : Bool} (h : TapeIn T w b s bad) (s' : ByteArray) : TapeIn T (w.setCell ⟨b, 0, none⟩ (.string s')) b s' bad := by
  unfold TapeIn; rw [heap_setCell_same w b 0 _ T _ h]; rfl
theorem TapeIn.set1 {T : TypeId} {w : World} {b : Nat} {s : ByteArray} {bad : Bool} (h : TapeIn T w b s bad) (c : Bool) : TapeIn T (w.setCell ⟨b, 1, none⟩ (.bool c)) b s c := by
  unfold TapeIn; rw [heap_setCell_same w b 1 _ T _ h]; rfl
theorem TapeIn.kept {T : TypeId} {w w' : World} {b : Nat} {s : ByteArray} {bad : Bool} (h : TapeIn T w b s bad) (hb : Below w.heap.size w w') : TapeIn T w' b s bad := by
  unfold TapeIn; rw [hb.block b h.lt]; exact h
theorem TapeIn.other {T : TypeId} {w w' : World} {b c : Nat} {s : ByteArray} {bad : Bool} (h : TapeIn T w b s bad) (hg : w.grownBy w' (some c)) (hn : b ≠ c) : TapeIn T w' b s bad := by
  unfold TapeIn; rw [hg.block b h.lt (by simpa using hn)]; exact h
theorem grown_refl (w : World) (row : Option Nat) : w.grownBy w row := ⟨rfl, rfl, rfl, Nat.le_refl _, fun _ _ _ => rfl⟩
theorem grown_below {w w' : World} (h : Below w.heap.size w w') (row : Option Nat) : w.grownBy w' row := ⟨h.os, h.tape, h.output, h.size, fun k hk _ => h.block k hk⟩
theorem grown_trans {a b c : World} {row : Option Nat} (h : a.grownBy b row) (k : b.grownBy c row) : a.grownBy c row :=
  ⟨k.os.trans h.os, k.tape.trans h.tape, k.output.trans h.output, Nat.le_trans h.size k.size, fun i hi hr => (k.block i (Nat.lt_of_lt_of_le hi h.size) hr).trans (h.block i hi hr)⟩
theorem grown_set {a w : World} {b : Nat} (h : a.grownBy w (some b)) (i : Nat) (v : Value) : a.grownBy (w.setCell ⟨b, i, none⟩ v) (some b) :=
  grown_trans h ⟨rfl, rfl, rfl, by simp, fun k _ hr => heap_setCell_other w _ k v (by intro e; exact hr (by rw [e]))⟩

/-- What a call does to a tape: a result, what is left, whether it is bad. -/
def Takes (P : Program) (T : TypeId) (f : FuncId) (more : List Value) (b : Nat) (s : ByteArray) (bad : Bool) (v : Value) (s' : ByteArray) (bad' : Bool) : Prop :=
  ∀ w : World, TapeIn T w b s bad → Calls P f (Value.pointer (some ⟨b, 0, none⟩) :: more).toArray w fun e w' => e = .returned v ∧ TapeIn T w' b s' bad' ∧ w.grownBy w' (some b)

theorem Gives.tape {P : Program} {f : FuncId} {args : Array Value} {v : Value} (h : Gives P f args v) {T : TypeId} {w0 w : World} {b : Nat} {s : ByteArray} {bad : Bool} (hT : TapeIn T w b s bad)
    (hg : w0.grownBy w (some b)) {R : Ending → World → Prop} (k : ∀ w', TapeIn T w' b s bad → w0.grownBy w' (some b) → R (.returned v) w') : Calls P f args w R :=
  (h w).mono fun _ _ ⟨he, hw⟩ => he ▸ k _ (hT.kept hw) (grown_trans hg (grown_below hw _))

/-- What the next number is, what is left, whether the tape is bad. -/
def numT (s : ByteArray) (bad : Bool) (m : Int) : Nat × ByteArray × Bool :=
  if bad then (0, s, true) else match nextNum s.data.toList with
    | none => (0, s, true)
    | some (n, k) => if (n : Int) ≤ m then (n, s.extract k s.size, false) else (0, s, true)

theorem numT_lt (s : ByteArray) (bad : Bool) (m : Int) : (numT s bad m).1 < 18446744073709551616 := by
  unfold numT
  cases bad with
  | true => exact (by decide : (0 : Nat) < 18446744073709551616)
  | false =>
    cases h : nextNum s.data.toList with
    | none => exact (by decide : (0 : Nat) < 18446744073709551616)
    | some p =>
      obtain ⟨n, k⟩ := p
      have := (nextNum_some h).2.2.2.1
      simp only [Bool.false_eq_true, if_false]
      split
      · exact this
      · exact (by decide : (0 : Nat) < 18446744073709551616)

theorem Takes.step {P : Program} {T : TypeId} {f : FuncId} {more : List Value} {b : Nat} {s s' : ByteArray} {bad bad' : Bool} {v : Value} (h : Takes P T f more b s bad v s' bad')
    {w0 w : World} (hT : TapeIn T w b s bad) (hg : w0.grownBy w (some b)) {R : Ending → World → Prop} (k : ∀ w', TapeIn T w' b s' bad' → w0.grownBy w' (some b) → R (.returned v) w') :
    Calls P f (Value.pointer (some ⟨b, 0, none⟩) :: more).toArray w R :=
  (h w hT).mono fun _ _ ⟨he, hT', hw⟩ => he ▸ k _ hT' (grown_trans hg hw)

def maxU : Int := 18446744073709551615
/-- The next bytes, what is left, whether the tape is bad. -/
def textT (s : ByteArray) (bad : Bool) (n : Nat) : ByteArray × ByteArray × Bool :=
  if bad then (⟨#[]⟩, s, true) else if n ≤ s.size then (s.extract 0 n, s.extract n s.size, false) else (⟨#[]⟩, s, true)

theorem wrap_size (s : ByteArray) (hs : s.size ≤ 9223372036854775807) : IntKind.u64.wrap (s.size : Int) = (s.size : Int) := wrap_lt _ (by omega)
end Go.Proofs.Ytppmmkmlngmafaa
