/- Cells read one run behind the other: what is known between two runs; no walk. -/
import Derived.Test.YtkmmjdjckedghaaRunsReadCell
namespace Go.Proofs.Ytkmmjdjckedghaa
open Go Go.RowKit

/-- So many cells stand at the beginning of bytes, as runs. -/
def RunsAt (s : List UInt8) (many : Int) (l : List ByteArray) (r : List UInt8) : Prop :=
  0 ≤ many ∧ many ≤ 4096 ∧ (l.length : Int) = many ∧ (∀ c ∈ l, rightB c = true) ∧ s = runsP l ++ r
theorem right_small {c : ByteArray} (h : rightB c = true) : Small c := by have := rightB_size h; unfold Small; omega
theorem RunsAt.same {s : List UInt8} {many : Int} {l l' : List ByteArray} {r r' : List UInt8} (h : RunsAt s many l r) (h' : RunsAt s many l' r') : l = l' ∧ r = r' := by
  obtain ⟨a1, a2, a3, a4, a5⟩ := h
  obtain ⟨b1, b2, b3, b4, b5⟩ := h'
  exact runsP_prefix l l' r r' (fun c hc => right_small (a4 c hc)) (fun c hc => right_small (b4 c hc)) (by omega) (by omega) (a5.symm.trans b5)

/-- What is known between two runs. -/
structure Stage (s : ByteArray) (M : Nat) (rs : List (ByteArray × Nat)) (cur : ByteArray) : Prop where
  good : Good rs
  right : ∀ x ∈ rs, rightB x.1 = true
  le : many rs ≤ M
  text : s.data.toList = runB rs ++ cur.data.toList
  size : cur.size ≤ s.size
theorem Stage.first (s : ByteArray) (M : Nat) : Stage s M [] s := ⟨trivial, by simp, Nat.zero_le _, rfl, Nat.le_refl _⟩
theorem Stage.last {s : ByteArray} {M : Nat} {rs : List (ByteArray × Nat)} {cur : ByteArray} (h : Stage s M rs cur) (hM : M ≤ 4096) (hm : many rs = M) : RunsAt s.data.toList M (spread rs) cur.data.toList := by
  refine ⟨by omega, by omega, by rw [spread_length, hm], ?_, ?_⟩
  · intro c hc
    unfold spread at hc
    rw [List.mem_flatMap] at hc
    obtain ⟨x, hx, hc⟩ := hc
    rw [(List.mem_replicate.1 hc).2]
    exact h.right x hx
  · unfold runsP
    rw [runsOf_spread _ h.good]; exact h.text

/-- What a next cell is read as. -/
def ReadAs (cur : ByteArray) (X : ByteArray × ByteArray × Bool) : Prop := (cellOk cur false = true → X = ((cellT cur false).1, (cellT cur false).2.1, false)) ∧ (cellOk cur false = false → X.2.2 = true)
theorem readT_as (cur : ByteArray) : ReadAs cur (readT cur false) := by
  unfold readT
  exact ⟨fun h => by rw [if_pos h], fun h => by rw [if_neg (by rw [h]; decide)]⟩
theorem readRT_as (cur : ByteArray) : ReadAs cur (readRT cur false) := by
  unfold readRT
  exact ⟨fun h => by rw [if_pos h], fun h => by rw [if_neg (by rw [h]; decide)]⟩
theorem numT_pos {s : ByteArray} {bad : Bool} {m : Int} (h : (numT s bad m).1 ≠ 0) : (numT s bad m).2.2 = false := by
  unfold numT at h ⊢
  cases bad with
  | true => exact absurd rfl h
  | false =>
    cases hq : nextNum s.data.toList with
    | none => rw [hq] at h; exact absurd rfl h
    | some p =>
      obtain ⟨n, k⟩ := p
      rw [hq] at h
      simp only [Bool.false_eq_true, if_false] at h ⊢
      split at h
      · rename_i hm; rw [if_pos hm]
      · exact absurd rfl h
theorem cellOk_good {cur : ByteArray} (h : cellOk cur false = true) : (cellT cur false).2.2 = false ∧ rightB (cellT cur false).1 = true := by
  unfold cellOk at h
  rw [Bool.and_eq_true, Bool.not_eq_true'] at h
  exact h
/-- A run is there: the next stage. -/
theorem Stage.next {s : ByteArray} {M : Nat} {rs : List (ByteArray × Nat)} {cur : ByteArray} {X : ByteArray × ByteArray × Bool} (h : Stage s M rs cur) (hX : ReadAs cur X)
    (hn : (numT X.2.1 X.2.2 ((M - many rs : Nat) : Int)).1 ≠ 0) (hl : ∀ y, rs.getLast? = some y → y.1 ≠ X.1) :
    X.2.2 = false ∧ (numT X.2.1 X.2.2 ((M - many rs : Nat) : Int)).2.2 = false ∧ (numT X.2.1 X.2.2 ((M - many rs : Nat) : Int)).1 ≤ M - many rs ∧
    Stage s M (rs ++ [(X.1, (numT X.2.1 X.2.2 ((M - many rs : Nat) : Int)).1)]) (numT X.2.1 X.2.2 ((M - many rs : Nat) : Int)).2.1 := by
  have g1 := numT_pos hn
  obtain ⟨g2, g3⟩ := numT_good g1
  have g4 := numT_le X.2.1 X.2.2 ((M - many rs : Nat) : Int) (by omega)
  have g5 := numT_size X.2.1 X.2.2 ((M - many rs : Nat) : Int)
  generalize numT X.2.1 X.2.2 ((M - many rs : Nat) : Int) = Y at *
  obtain ⟨n, r, b⟩ := Y
  simp only at g1 g3 g4 g5 hn ⊢
  have hok : cellOk cur false = true := by
    cases hc : cellOk cur false with
    | true => rfl
    | false => rw [hX.2 hc] at g2; exact absurd g2 (by decide)
  obtain ⟨c1, c2⟩ := cellOk_good hok
  obtain ⟨_, c3, c4⟩ := cellT_good c1
  have c5 := cellT_size cur false
  rw [hX.1 hok] at g3 g5 hl ⊢
  simp only at g3 g5 hl ⊢
  refine ⟨trivial, g1, by omega, ⟨good_snoc rs _ h.good (by show 1 ≤ n; omega) hl, ?_, ?_, ?_, ?_⟩⟩
  · intro x hx
    rcases List.mem_append.1 hx with hx | hx
    · exact h.right x hx
    · rw [List.mem_singleton] at hx; rw [hx]; exact c2
  · have := h.le; rw [many_append, many_cons, many_nil]; simp only; omega
  · rw [runB_append, h.text, c4, List.append_assoc]
    congr 1
    rw [show runB [((cellT cur false).1, n)] = cellP (cellT cur false).1 ++ vp n by simp [runB], List.append_assoc]
    congr 1
    have := congrArg (fun x => x.data.toList) g3
    simp only [data_append, print_data] at this
    exact this
  · have := h.size; omega
/-- No run is there that may be: none of all cells. -/
theorem Stage.none {s : ByteArray} {M : Nat} {rs : List (ByteArray × Nat)} {cur : ByteArray} {X : ByteArray × ByteArray × Bool} (h : Stage s M rs cur) (hX : ReadAs cur X) (hlt : many rs < M)
    (hn : (numT X.2.1 X.2.2 ((M - many rs : Nat) : Int)).1 = 0 ∨ ∃ y, rs.getLast? = some y ∧ y.1 = X.1) : ¬ ∃ l r, RunsAt s.data.toList M l r := by
  rintro ⟨l, r, a1, a2, a3, a4, a5⟩
  obtain ⟨g, e⟩ := runsOf_good l
  have hm := many_runsOf l
  have hf1 : Fits rs := fun x hx => ⟨right_small (h.right x hx), by have := many_le x hx; omega⟩
  obtain ⟨tl, e1, e2⟩ := runB_prefix rs (runsOf l) cur.data.toList r h.good g hf1 (fits_runsOf l (fun c hc => right_small (a4 c hc)) (by omega)) (by omega) (h.text.symm.trans a5)
  have htl := congrArg many e1
  rw [many_append, hm] at htl
  cases tl with
  | nil => rw [many_nil] at htl; omega
  | cons x tl =>
    rw [many_cons] at htl
    have hx : x ∈ runsOf l := by rw [e1]; simp
    have hxr : rightB x.1 = true := a4 _ (by have := mem_spread g x hx; rwa [e] at this)
    have hx1 := g.one_le x hx
    have hsz := rightB_size hxr
    rw [runB_cons] at e2
    have k1 := cellT_at x.1 (by omega) cur (vp x.2 ++ runB tl ++ r) (by rw [e2]; simp only [List.append_assoc])
    have hok : cellOk cur false = true := by unfold cellOk; rw [k1]; simp [hxr]
    have hX' := hX.1 hok
    rw [k1] at hX'
    simp only at hX'
    rw [hX'] at hn
    simp only at hn
    have k2 : mkB (vp x.2 ++ runB tl ++ r) = printB x.2 ++ mkB (runB tl ++ r) := bytes_ext (by rw [mkB_data, data_append, print_data, mkB_data, List.append_assoc])
    have k3 := numT_print x.2 (by omega) (mkB (runB tl ++ r)) ((M - many rs : Nat) : Int) (by omega)
    rw [k2, k3] at hn
    simp only at hn
    rcases hn with hn | ⟨y, hy, hy2⟩
    · omega
    · exact good_meet rs tl y x (by rw [← e1]; exact g) hy hy2
end Go.Proofs.Ytkmmjdjckedghaa
