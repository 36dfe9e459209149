/- Slices' fronts, cells, literals of numbers; no program. -/
import Derived.Test.YtppmmkmlngmafaaStrs
namespace Go.Proofs.Ytppmmkmlngmafaa
open Go Go.RowKit

/-- The front of a slice. -/
theorem SliceOf.front {w : World} {A : Option Addr} {n cap m : Nat} {xs : List Value} (h : SliceOf w 1 (.slice A n cap) n xs) (hm : m ≤ n) : SliceOf w 1 (.slice A m cap) m (xs.take m) := by
  obtain ⟨h1, h2, A', cap', e, hr, h4⟩ := h
  cases e
  refine ⟨by rw [List.length_take]; omega, by omega, A, cap, rfl, by omega, fun h0 => ?_⟩
  obtain ⟨b, off, e1, hb, hc⟩ := h4 (by omega)
  refine ⟨b, off, e1, hb, fun j u hu => hc j u ?_⟩
  rw [List.getElem?_take] at hu
  split at hu
  · exact hu
  · exact absurd hu (by simp)
theorem strs_front {w : World} {A : Option Addr} {n cap m : Nat} {l : List ByteArray} (h : StrsIn w (.slice A n cap) l) (hn : n = l.length) (hm : m ≤ n) : StrsIn w (.slice A m cap) (l.take m) := by
  subst hn
  have := SliceOf.front h hm
  unfold StrsIn
  rw [List.length_take, Nat.min_eq_left hm, List.map_take]
  exact this

theorem SliceOf.cellAt {w : World} {size b off n cap : Nat} {xs : List Value} (h : SliceOf w size (.slice (some ⟨b, off, none⟩) n cap) n xs) (hn : 0 < n) (j : Nat) (u : Value) (hu : xs[j]? = some u) : w.cell? ⟨b, off + j, none⟩ = some u := by
  obtain ⟨A, c, e, h4⟩ := h.at_
  cases e
  obtain ⟨b', off', e1, _, hc⟩ := h4 hn
  cases e1
  exact hc j u hu
theorem strs_some {w : World} {v : Value} {l : List ByteArray} (h : StrsIn w v l) (h0 : 0 < l.length) : ∃ b off cap, v = .slice (some ⟨b, off, none⟩) l.length cap := by
  rcases StrsIn.parts h with ⟨e, _⟩ | ⟨_, b, off, cap, e, _⟩
  · rw [e] at h0; exact absurd h0 (by simp)
  · exact ⟨b, off, cap, e⟩
theorem lit_ints (w : World) (T : TypeId) (l : List Int) (h : l.length ≤ 1000) : IntsIn (w.alloc (.cells (l.map (Value.int .i64)).toArray T)) (.slice (some ⟨w.heap.size, 0, none⟩) l.length l.length) l := lit_ones (Value.int .i64) w T l h
end Go.Proofs.Ytppmmkmlngmafaa
