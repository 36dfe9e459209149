/- Calls that give a value in a world, or but read it: the contracts' forms over slices. -/
import Derived.Test.YtppmmkmlngmafaaKit
import Derived.Test.YtppmmkmlngmafaaMem
import Derived.Deep.QuietTactic
import Derived.Laws.AppendOwn
import Derived.BigQuiet
namespace Go.Proofs.Ytppmmkmlngmafaa
open Go Go.RowKit

/-- A call that gives a value in a world, and makes but new memory. -/
def GivesAt (P : Program) (f : FuncId) (args : Array Value) (w : World) (v : Value) : Prop := Calls P f args w fun e w' => e = .returned v ∧ Below w.heap.size w w'
theorem Gives.at_ {P : Program} {f : FuncId} {args : Array Value} {v : Value} (h : Gives P f args v) (w : World) : GivesAt P f args w v := h w
theorem GivesAt.step {P : Program} {f : FuncId} {args : Array Value} {w : World} {v : Value} (h : GivesAt P f args w v) {B : Nat} {w0 : World} (hb : Below B w0 w) (hB : B ≤ w.heap.size)
    {R : Ending → World → Prop} (k : ∀ w', Below B w0 w' → B ≤ w'.heap.size → R (.returned v) w') : Calls P f args w R :=
  Calls.mono h fun _ _ ⟨he, hw⟩ => he ▸ k _ (hb.trans (hw.mono hB)) (Nat.le_trans hB hw.size)
theorem GivesAt.stepB {P : Program} {f : FuncId} {args : Array Value} {w : World} {v : Value} (h : GivesAt P f args w v) {B : Nat} {w0 : World} (hb : Below B w0 w) (hB : B ≤ w.heap.size)
    {R : Ending → World → Prop} (k : ∀ w', Below B w0 w' → B ≤ w'.heap.size → Below w.heap.size w w' → R (.returned v) w') : Calls P f args w R :=
  Calls.mono h fun _ _ ⟨he, hw⟩ => he ▸ k _ (hb.trans (hw.mono hB)) (Nat.le_trans hB hw.size) hw

/-- A call that but reads. -/
def Reads (P : Program) (f : FuncId) (args : Array Value) (w : World) (v : Value) : Prop := Calls P f args w fun e w' => e = .returned v ∧ w = w'
theorem Reads.step {P : Program} {f : FuncId} {args : Array Value} {w : World} {v : Value} (h : Reads P f args w v) {R : Ending → World → Prop} (k : R (.returned v) w) : Calls P f args w R :=
  Calls.mono h fun _ _ ⟨he, hw⟩ => he ▸ hw ▸ k
theorem Reads.quiet {P : Program} {f : FuncId} {args : Array Value} {w : World} {v : Value} {n : Nat} (h : Reads P f args (w.drewN n) v) :
    Calls P f args (w.drewN n) fun e w' => e = .returned v ∧ ∃ m, w' = w.drewN m :=
  Calls.quiet_of_same (Calls.mono h fun _ _ ⟨x, y⟩ => ⟨x, y.symm⟩)
theorem Reads.gives {P : Program} {f : FuncId} {args : Array Value} {w : World} {v : Value} (h : Reads P f args w v) : GivesAt P f args w v :=
  Calls.mono h fun _ _ ⟨he, hw⟩ => ⟨he, hw ▸ .refl _ _⟩

/-- A call that gives a slice of numbers. -/
def GivesInts (P : Program) (f : FuncId) (args : Array Value) (w : World) (l : List Int) : Prop := Calls P f args w fun e w' => ∃ v, e = .returned v ∧ IntsIn w' v l ∧ Below w.heap.size w w'
theorem GivesInts.stepB {P : Program} {f : FuncId} {args : Array Value} {w : World} {l : List Int} (h : GivesInts P f args w l) {B : Nat} {w0 : World} (hb : Below B w0 w) (hB : B ≤ w.heap.size)
    {R : Ending → World → Prop} (k : ∀ v w', IntsIn w' v l → Below B w0 w' → B ≤ w'.heap.size → Below w.heap.size w w' → R (.returned v) w') : Calls P f args w R :=
  Calls.mono h fun _ _ ⟨_, he, hi, hw⟩ => he ▸ k _ _ hi (hb.trans (hw.mono hB)) (Nat.le_trans hB hw.size) hw

theorem IntsIn.len {w : World} {v : Value} {l : List Int} (h : IntsIn w v l) : l.length ≤ maxLen := h.2.1
theorem IntsIn.kept {w w' : World} {v : Value} {l : List Int} (h : IntsIn w v l) (hb : Below w.heap.size w w') : IntsIn w' v l := SliceOf.later h hb
/-- A slice of numbers, opened: none, or each by its place. -/
theorem IntsIn.parts {w : World} {v : Value} {l : List Int} (h : IntsIn w v l) : (l = [] ∧ ∃ A cap, v = .slice A 0 cap) ∨
    (0 < l.length ∧ ∃ b off cap, v = .slice (some ⟨b, off, none⟩) l.length cap ∧ b < w.heap.size ∧ ∀ j (hj : j < l.length), w.cell? ⟨b, off + j, none⟩ = some (.int .i64 l[j])) := by
  obtain ⟨A, cap, e, hk⟩ := one_at h
  cases l with
  | nil => exact .inl ⟨rfl, A, cap, e⟩
  | cons x l =>
    obtain ⟨b, off, ea, hb, hc⟩ := hk 0 (by simp)
    subst ea
    exact .inr ⟨by simp, b, off, cap, e, hb, hc⟩
/-- A slice value's block lies from B on. -/
def Fresh (B : Nat) (v : Value) : Prop := ∀ k, v.ownBlock = some k → B ≤ k
theorem fresh_nil (B : Nat) : Fresh B (.slice none 0 0) := fun k hk => by simp [Value.ownBlock] at hk
theorem Fresh.mono {B B' : Nat} {v : Value} (h : Fresh B v) (hB : B' ≤ B) : Fresh B' v := fun k hk => Nat.le_trans hB (h k hk)
theorem SliceOf.keepOwn {w w' : World} {size n : Nat} {v : Value} {xs : List Value} (h : SliceOf w size v n xs) (hs : w.heap.size ≤ w'.heap.size) (hk : ∀ k, v.ownBlock = some k → k < w.heap.size → w'.heap[k]? = w.heap[k]?) : SliceOf w' size v n xs := by
  obtain ⟨h1, h2, A, cap, h3, hr, h4⟩ := h
  refine ⟨h1, h2, A, cap, h3, hr, fun hn => ?_⟩
  obtain ⟨b, off, e, hb, hc⟩ := h4 hn
  refine ⟨b, off, e, by omega, fun j u hu => ?_⟩
  rw [World.cell?_of_block (w := w) (a := ⟨b, off + j, none⟩) (hk b (by rw [h3, e]; rfl) hb)]
  exact hc j u hu
/-- A slice from B on stays while blocks below B are written. -/
theorem SliceOf.fresh {w w' : World} {size n : Nat} {v : Value} {xs : List Value} {B c : Nat} (h : SliceOf w size v n xs) (hf : Fresh B v) (hg : w.grownBy w' (some c)) (hc : c < B) : SliceOf w' size v n xs :=
  h.keepOwn hg.size fun k hk hl => hg.block k hl (by have := hf k hk; simp; omega)
theorem take_add {α : Type} (l : List α) (k : Nat) (h : k < l.length) : l.take (k + 1) = l.take k ++ [l[k]] := by
  rw [List.take_add_one, List.getElem?_eq_getElem h]; rfl
end Go.Proofs.Ytppmmkmlngmafaa
