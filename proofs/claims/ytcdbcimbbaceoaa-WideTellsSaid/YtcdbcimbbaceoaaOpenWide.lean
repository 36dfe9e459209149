/- Arguments that are two words, or arrays of two numbers; no program. -/
import Derived.Test.YtcdbcimbbaceoaaLawKit
import Derived.ChangeArms
import Derived.Deep.Fields
namespace Go.Proofs.Ytcdbcimbbaceoaa
open Go Go.RowKit

section
variable {H : Type} {enc : TypeId × Value → H} {P : Program} {w : World} {base b0 : Nat} {sp : Nat → Bool} {held : Bool} {r : Reach}
/-- A struct of two words. -/
theorem open_wide {t i u : TypeId} {f0 f1 : Field} {v : Value} {d : DataW H} {ps : List MemPlace} (ht : P.underlying t = some (.struct #[f0, f1])) (h0 : f0.type = i) (h1 : f1.type = u) (o0 : f0.offset = 0) (o1 : f1.offset = 1)
    (hi : P.underlying i = some (.int .i64)) (hu : P.underlying u = some (.int .u64)) (ci : P.cellsOf i = 1) (cu : P.cellsOf u = 1) (ct : P.cellsOf t = 2)
    (hval : Value.okWide P w r b0 t v) (hd : DataW.Trod enc P w base sp held t v d ps) :
    ∃ x y : Int, v = .agg #[.int .i64 x, .int .u64 y] ∧ (-9223372036854775808 ≤ x ∧ x ≤ 9223372036854775807) ∧ 0 ≤ y ∧ y ≤ 18446744073709551615 := by
  obtain ⟨cs, rfl, _⟩ := Go.WideShapes.okWide_struct ht hval
  obtain ⟨fuel, hf⟩ := hd
  obtain ⟨ys, n', _, _, hlen, hyl, hg⟩ := DataW.trod_struct ht hf
  rw [ct] at hlen
  obtain ⟨cl⟩ := cs
  match cl, hlen with
  | [c0, c1], _ =>
    match ys, hyl with
    | [y0, y1], _ =>
      have k0 := hg 0 f0 rfl
      have k1 := hg 1 f1 rfl
      rw [h0, o0, ci] at k0
      rw [h1, o1, cu] at k1
      have k0' : DataW.trod enc P w base sp held n' i [c0] = some y0 := k0
      have k1' : DataW.trod enc P w base sp held n' u [c1] = some y1 := k1
      obtain ⟨n0, e0, _, w0⟩ := DataW.trod_int hi k0'
      obtain ⟨n1, e1, _, w1⟩ := DataW.trod_int hu k1'
      simp only [List.cons.injEq, and_true] at e0 e1
      subst e0
      subst e1
      exact ⟨n0, n1, rfl, Go.bounds_i64 w0, by have := Go.bounds_u64 w1; omega⟩
/-- An array of two numbers. -/
theorem open_two {t e : TypeId} {k : IntKind} {v : Value} {d : DataW H} {ps : List MemPlace} (ht : P.underlying t = some (.array 2 e))
    (he : P.underlying e = some (.int k)) (hc : P.cellsOf t = 2) (hce : P.cellsOf e = 1) (hval : Value.okWide P w r b0 t v) (hd : DataW.Trod enc P w base sp held t v d ps) :
    ∃ x y : Int, v = .agg #[.int k x, .int k y] ∧ (Lit.int k x).wf = true ∧ (Lit.int k y).wf = true := by
  unfold Value.okWide at hval
  rw [ht] at hval
  obtain ⟨cs, rfl, hsz, _⟩ := hval
  rw [hc] at hsz
  obtain ⟨fuel, hf⟩ := hd
  obtain ⟨xs, m, rfl, _, _, hl, h⟩ := DataW.trod_array ht hf
  obtain ⟨cl⟩ := cs
  match cl, hsz, xs, hl with
  | [c0, c1], _, [x0, x1], _ =>
    have h0 := h 0 (by omega)
    have h1 := h 1 (by omega)
    rw [hce] at h0 h1
    have k0 : DataW.trod enc P w base sp held m e [c0] = some x0 := h0
    have k1 : DataW.trod enc P w base sp held m e [c1] = some x1 := h1
    obtain ⟨s0, e0, _, z0⟩ := DataW.trod_int he k0
    obtain ⟨s1, e1, _, z1⟩ := DataW.trod_int he k1
    simp only [List.cons.injEq, and_true] at e0 e1
    subst e0
    subst e1
    exact ⟨s0, s1, rfl, z0, z1⟩
end
end Go.Proofs.Ytcdbcimbbaceoaa
