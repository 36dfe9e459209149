/- Slices of columns as lists: a column is its kind and whether it may have nothing; no program. -/
import Derived.Test.YtofepmdfciijeaaGreatGStrs
namespace Go.Proofs.YtofepmdfciijeaaGreat
open Go Go.RowKit

/-- A column's cells. -/
def colV (c : Int × Bool) : List Value := [.int .u8 c.1, .bool c.2]
def colsV (l : List (Int × Bool)) : List Value := l.flatMap colV
/-- A column as a value. -/
def colA (c : Int × Bool) : Value := .agg #[.int .u8 c.1, .bool c.2]
def ColsIn (w : World) (v : Value) (l : List (Int × Bool)) : Prop := SliceOf w 2 v l.length (colsV l)
theorem colsV_length (l : List (Int × Bool)) : (colsV l).length = l.length * 2 := by
  induction l with
  | nil => rfl
  | cons c l ih => unfold colsV at *; rw [List.flatMap_cons, List.length_append, ih, List.length_cons]; show 2 + _ = _; omega
theorem colsV_get : ∀ (l : List (Int × Bool)) (j : Nat) (h : j < l.length), (colsV l)[j * 2]? = some (.int .u8 l[j].1) ∧ (colsV l)[j * 2 + 1]? = some (.bool l[j].2)
  | [], j, h => absurd h (by simp)
  | c :: l, 0, _ => ⟨rfl, rfl⟩
  | c :: l, j + 1, h => by
    have := colsV_get l j (by simpa using h)
    have e1 : (j + 1) * 2 = j * 2 + 2 := by omega
    rw [e1]
    exact this
theorem ColsIn.kept {w w' : World} {v : Value} {l : List (Int × Bool)} (h : ColsIn w v l) (hb : Below w.heap.size w w') : ColsIn w' v l := SliceOf.later h hb
theorem ColsIn.len {w : World} {v : Value} {l : List (Int × Bool)} (h : ColsIn w v l) : l.length ≤ maxLen := h.2.1
theorem cols_at {w : World} {v : Value} {l : List (Int × Bool)} (h : ColsIn w v l) : ∃ A cap, v = .slice A l.length cap ∧
    (∀ k, k < l.length → ∃ b off, A = some ⟨b, off, none⟩ ∧ b < w.heap.size ∧ ∀ j (hj : j < l.length), w.cell? ⟨b, off + j * 2, none⟩ = some (.int .u8 l[j].1) ∧ w.cell? ⟨b, off + j * 2 + 1, none⟩ = some (.bool l[j].2)) := by
  obtain ⟨_, _, A, cap, e, _, h4⟩ := h
  refine ⟨A, cap, e, fun k hk => ?_⟩
  obtain ⟨b, off, ea, hb, hc⟩ := h4 (by omega)
  exact ⟨b, off, ea, hb, fun j hj => ⟨hc _ _ (colsV_get l j hj).1, hc _ _ (colsV_get l j hj).2⟩⟩
theorem lit_cols (w : World) (T : TypeId) (l : List (Int × Bool)) (h : l.length ≤ 1000) : ColsIn (w.alloc (.cells (colsV l).toArray T)) (.slice (some ⟨w.heap.size, 0, none⟩) l.length l.length) l :=
  (Own.lit (B := 0) (size := 2) w (colsV l).toArray T l.length (Nat.zero_le _) (by unfold maxLen; omega) (by simp [colsV_length])).slice
theorem nil_cols (w : World) (A : Option Addr) (cap : Nat) : ColsIn w (.slice A 0 cap) [] := SliceOf.nil_ _ _ _ _
end Go.Proofs.YtofepmdfciijeaaGreat
