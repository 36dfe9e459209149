/- Bytes that a call has appended from nothing on, one text behind the other: for layers 4, 6, 7; no program. -/
import Derived.Test.YtclkkffeaabloaaStrs
import Derived.Lib.AppendStr
namespace Go.Proofs.Ytclkkffeaabloaa
open Go Go.RowKit

theorem Try.infoB5 : (Try.prog.info? 5).map (fun i => (i.zero, i.size, i.bytes)) = some (some (.int .u8 0), 1, 1) := by kernel_rfl

/-- Bytes that a call has appended from nothing on. -/
def RowB (w : World) (B : Nat) (e : TypeId) (v : Value) (l : List UInt8) : Prop := w.ownsRow B e 1 v l.length (bytesV l)
theorem RowB.step {w : World} {B n : Nat} {e : TypeId} {v : Value} {l m : List UInt8} {s : ByteArray} (h : w.ownsRow B e 1 v n (bytesV l ++ Lib.strCells s)) (hm : m = l ++ s.data.toList) (hn : n = l.length + s.size) : RowB w B e v m := by
  unfold RowB
  subst hm; subst hn
  rw [List.length_append, data_size, show bytesV (l ++ s.data.toList) = bytesV l ++ Lib.strCells s from List.map_append]
  exact h
theorem RowB.own {w : World} {B : Nat} {e : TypeId} {v : Value} {l : List UInt8} (h : RowB w B e v l) (hl : l.length ≤ maxLen) : OwnB w B v l := Own.of_row h hl (Nat.le_refl _)
theorem RowB.later {w w' : World} {B : Nat} {e : TypeId} {v : Value} {l : List UInt8} (h : RowB w B e v l) (hb : Below w.heap.size w w') : RowB w' B e v l :=
  World.ownsRow.kept (row := none) h ⟨hb.os, hb.tape, hb.output, hb.size, fun k hk _ => hb.block k hk⟩ (by cases hv : v.ownBlock <;> simp)
end Go.Proofs.Ytclkkffeaabloaa
