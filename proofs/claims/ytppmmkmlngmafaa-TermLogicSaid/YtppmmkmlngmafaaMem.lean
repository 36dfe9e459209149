/- Slices as lists: what a slice value has in a world, kept while memory grows; no program. -/
import Derived.Below
import Derived.Laws.OwnMore
import Derived.Laws.Rows
import Derived.OneCell
import Derived.Deep.Draws
import Derived.Deep.Slices
import Derived.ProofKit
import Derived.WalkKit
import Derived.OpenShut
namespace Go.Proofs.Ytppmmkmlngmafaa
open Go Go.RowKit

/-- A slice of n elements, each of so many cells, has these cells. -/
def SliceOf (w : World) (size : Nat) (v : Value) (n : Nat) (xs : List Value) : Prop :=
  xs.length = n * size ∧ n ≤ maxLen ∧ ∃ A cap, v = .slice A n cap ∧ n ≤ cap ∧ (0 < n → ∃ b off, A = some ⟨b, off, none⟩ ∧ b < w.heap.size ∧ ∀ j u, xs[j]? = some u → w.cell? ⟨b, off + j, none⟩ = some u)

section
variable {w w' : World} {size n : Nat} {v : Value} {xs : List Value}
theorem SliceOf.keep (h : SliceOf w size v n xs) (hs : w.heap.size ≤ w'.heap.size) (hk : ∀ b o, b < w.heap.size → w'.cell? ⟨b, o, none⟩ = w.cell? ⟨b, o, none⟩) : SliceOf w' size v n xs := by
  obtain ⟨h1, h2, A, cap, h3, hr, h4⟩ := h
  refine ⟨h1, h2, A, cap, h3, hr, fun hn => ?_⟩
  obtain ⟨b, off, e, hb, hc⟩ := h4 hn
  exact ⟨b, off, e, by omega, fun j u hu => (hk b _ hb).trans (hc j u hu)⟩
theorem SliceOf.below (h : SliceOf w size v n xs) {B : Nat} (hb : Below B w w') (hB : w.heap.size ≤ B) : SliceOf w' size v n xs :=
  h.keep hb.size fun b o hlt => hb.cell (p := ⟨b, o, none⟩) (Nat.lt_of_lt_of_le hlt hB)
theorem SliceOf.drew (h : SliceOf w size v n xs) : SliceOf w.drew size v n xs := h
theorem SliceOf.drewN (h : SliceOf w size v n xs) (k : Nat) : SliceOf (w.drewN k) size v n xs := h
theorem SliceOf.alloc (h : SliceOf w size v n xs) (o : Obj) : SliceOf (w.alloc o) size v n xs := h.below (Below.alloc (.refl _ _) (Nat.le_refl _) o) (Nat.le_refl _)
/-- What a slice of another time had, it has: nothing that was there has turned. -/
theorem SliceOf.later {w0 : World} (h : SliceOf w0 size v n xs) (hb : Below w0.heap.size w0 w) : SliceOf w size v n xs := h.below hb (Nat.le_refl _)
theorem SliceOf.at_ (h : SliceOf w size v n xs) : ∃ A cap, v = .slice A n cap ∧ (0 < n → ∃ b off, A = some ⟨b, off, none⟩ ∧ b < w.heap.size ∧ ∀ j u, xs[j]? = some u → w.cell? ⟨b, off + j, none⟩ = some u) := by
  obtain ⟨_, _, A, cap, h3, _, h4⟩ := h
  exact ⟨A, cap, h3, h4⟩
/-- Its room is no less than its elements. -/
theorem SliceOf.room (h : SliceOf w size v n xs) : ∃ A cap, v = .slice A n cap ∧ n ≤ cap := by
  obtain ⟨_, _, A, cap, h3, h4, _⟩ := h
  exact ⟨A, cap, h3, h4⟩
theorem SliceOf.nil_ (w : World) (size : Nat) (A : Option Addr) (cap : Nat) : SliceOf w size (.slice A 0 cap) 0 [] :=
  ⟨by simp, Nat.zero_le _, A, cap, rfl, Nat.zero_le _, fun h => absurd h (by omega)⟩
theorem SliceOf.of_own {base : Nat} {e : TypeId} (h : w.ownsRow base e size v n xs) (hn : n ≤ maxLen) : SliceOf w size v n xs := by
  refine ⟨h.1, hn, ?_⟩
  rcases h.2 with ⟨rfl, rfl⟩ | ⟨g, cap, cur, rfl, hb, hg, _, _, _, ht⟩
  · exact ⟨none, 0, rfl, Nat.le_refl _, fun h0 => absurd h0 (by omega)⟩
  · refine ⟨_, cap, rfl, by assumption, fun _ => ⟨g, 0, rfl, lt_of_block hg, fun j u hu => ?_⟩⟩
    have h' := h.cells (g := g) rfl j u hu
    unfold Addr.add at h'
    split at h'
    · rename_i h0; subst h0; exact h'
    · exact h'
end

/-- A slice of numbers, of texts. -/
def IntsIn (w : World) (v : Value) (l : List Int) : Prop := SliceOf w 1 v l.length (l.map (Value.int .i64))
def StrsIn (w : World) (v : Value) (l : List ByteArray) : Prop := SliceOf w 1 v l.length (l.map Value.string)
def BoolsIn (w : World) (v : Value) (l : List Bool) : Prop := SliceOf w 1 v l.length (l.map Value.bool)

section
variable {w w' : World} {v : Value}
theorem one_at {α : Type} {f : α → Value} {l : List α} (h : SliceOf w 1 v l.length (l.map f)) : ∃ A cap, v = .slice A l.length cap ∧
    (∀ k, k < l.length → ∃ b off, A = some ⟨b, off, none⟩ ∧ b < w.heap.size ∧ ∀ j (hj : j < l.length), w.cell? ⟨b, off + j, none⟩ = some (f l[j])) := by
  obtain ⟨_, _, A, cap, e, _, h4⟩ := h
  refine ⟨A, cap, e, fun k hk => ?_⟩
  obtain ⟨b, off, ea, hb, hc⟩ := h4 (by omega)
  exact ⟨b, off, ea, hb, fun j hj => hc j _ (by rw [List.getElem?_map, List.getElem?_eq_getElem hj]; rfl)⟩
end

/-! ### Arguments -/
section
variable {H : Type} {enc : TypeId × Value → H} {P : Program} {w : World} {base b0 : Nat} {sp : Nat → Bool} {held : Bool} {r : Reach}

theorem spot_of_cell {a : Addr} {v : Value} (h : w.cell? a = some v) : a.spot = none ∧ a.block < w.heap.size := by
  unfold World.cell? at h
  cases hh : w.heap[a.block]? with
  | none => rw [hh] at h; simp at h
  | some o =>
    refine ⟨?_, (Array.getElem?_eq_some_iff.1 hh).1⟩
    rw [hh] at h
    cases o with
    | cells c e f =>
      simp only at h
      cases hp : a.spot with
      | none => rfl
      | some x => rw [hp] at h; simp at h
    | _ => simp at h
theorem addr_at {a : Addr} (h : a.spot = none) (n : Nat) : a.add n = ⟨a.block, a.off + n, none⟩ := by
  cases a with | mk b o s =>
  simp only at h
  subst h
  unfold Addr.add
  split
  · rename_i h0; subst h0; rfl
  · rfl
theorem cells_one {a : Addr} {cs : List Value} (h : w.cells? base a 1 = some cs) : ∃ c, cs = [c] ∧ w.cell? a = some c := by
  unfold World.cells? at h
  split at h
  · have h' : (List.range 1).mapM (fun i => w.cell? (a.add i)) = some cs := h
    have e : List.range 1 = [0] := rfl
    rw [e] at h'
    simp only [List.mapM_cons, List.mapM_nil] at h'
    cases h0 : w.cell? (a.add 0) with
    | none => rw [h0] at h'; simp at h'
    | some c => rw [h0] at h'; simp at h'; exact ⟨c, h'.symm, h0⟩
  · exact absurd h (by simp)

/-- A slice whose elements are one cell each: what each is, by a word on its reading. -/
theorem open_ones {α : Type} [Inhabited α] {t e : TypeId} {v : Value} {d : DataW H} {ps : List MemPlace} (f : α → Value) (good : α → Prop) (ht : P.underlying t = some (.slice e)) (hc : P.cellsOf e = 1)
    (each : ∀ n c y, DataW.trod enc P w base sp held n e [c] = some y → ∃ x, c = f x ∧ good x) (hval : Value.okWide P w r b0 t v) (hd : DataW.Trod enc P w base sp held t v d ps) :
    ∃ l : List α, SliceOf w 1 v l.length (l.map f) ∧ ∀ x ∈ l, good x := by
  obtain ⟨a0, len0, cap0, rfl⟩ := Go.WideShapes.okWide_slice ht hval
  obtain ⟨fuel, hf⟩ := hd
  rcases Go.Deep.open_slice ht hf with ⟨hcs, _⟩ | ⟨a, len, cap, m, n, D, Pl, hcs, _, hl, hm, hmm, _, hall⟩
  · simp [Value.cells] at hcs
    obtain ⟨rfl, rfl, rfl⟩ := hcs
    exact ⟨[], SliceOf.nil_ w 1 none 0, by simp⟩
  · simp [Value.cells] at hcs
    obtain ⟨rfl, rfl, rfl⟩ := hcs
    have hlm : len0 ≤ m := by rw [hmm]; split <;> omega
    have each' : ∀ i, i < len0 → ∃ x : α, w.cell? (a.add i) = some (f x) ∧ good x := by
      intro i hi
      obtain ⟨cs', h1, h2⟩ := hall i (by omega)
      rw [hc, Nat.mul_one] at h1
      obtain ⟨c, rfl, hcell⟩ := cells_one h1
      obtain ⟨x, rfl, hg⟩ := each _ _ _ h2
      exact ⟨x, hcell, hg⟩
    obtain ⟨F, hF⟩ := Go.Deep.choose_lt each'
    refine ⟨(List.range len0).map F, ?_, ?_⟩
    · refine ⟨by simp, by simp; omega, some a, cap0, by simp, by simpa using hl, fun hn => ?_⟩
      have hn' : 0 < len0 := by simpa using hn
      have h0 := (hF 0 hn').1
      obtain ⟨hsp, hlt⟩ := spot_of_cell h0
      have hab : (a.add 0) = a := by unfold Addr.add; rfl
      rw [hab] at hsp hlt
      refine ⟨a.block, a.off, ?_, hlt, fun j u hu => ?_⟩
      · have := addr_at hsp 0
        rw [hab] at this
        rw [Nat.add_zero] at this
        rw [← this]
      · rw [List.map_map, List.getElem?_map] at hu
        cases hj : (List.range len0)[j]? with
        | none => rw [hj] at hu; simp at hu
        | some q =>
          rw [hj] at hu
          have hq := List.getElem?_eq_some_iff.1 hj
          obtain ⟨hq1, hq2⟩ := hq
          rw [List.getElem_range] at hq2
          subst hq2
          simp at hu
          subst hu
          have := (hF j (by simpa using hq1)).1
          rw [addr_at hsp] at this
          exact this
    · intro x hx
      obtain ⟨i, hi, rfl⟩ := List.mem_map.1 hx
      exact (hF i (List.mem_range.1 hi)).2
theorem open_ints_in {t e : TypeId} {v : Value} {d : DataW H} {ps : List MemPlace} (ht : P.underlying t = some (.slice e)) (he : P.underlying e = some (.int .i64)) (hc : P.cellsOf e = 1)
    (hval : Value.okWide P w r b0 t v) (hd : DataW.Trod enc P w base sp held t v d ps) : ∃ l : List Int, IntsIn w v l ∧ ∀ x ∈ l, -9223372036854775808 ≤ x ∧ x ≤ 9223372036854775807 :=
  open_ones (Value.int .i64) _ ht hc (fun n c y h => by
    obtain ⟨x, e1, _, hw⟩ := DataW.trod_int he h
    simp only [List.cons.injEq, and_true] at e1
    exact ⟨x, e1, Go.bounds_i64 hw⟩) hval hd
theorem open_strs_in {t e : TypeId} {v : Value} {d : DataW H} {ps : List MemPlace} (ht : P.underlying t = some (.slice e)) (he : P.underlying e = some .string) (hc : P.cellsOf e = 1)
    (hval : Value.okWide P w r b0 t v) (hd : DataW.Trod enc P w base sp held t v d ps) : ∃ l : List ByteArray, StrsIn w v l ∧ ∀ x ∈ l, x.size ≤ maxLen :=
  haveI : Inhabited ByteArray := ⟨⟨#[]⟩⟩
  open_ones Value.string _ ht hc (fun n c y h => by
    obtain ⟨x, e1, _, hw⟩ := DataW.trod_string he h
    simp only [List.cons.injEq, and_true] at e1
    exact ⟨x, e1, hw⟩) hval hd
end
end Go.Proofs.Ytppmmkmlngmafaa
