/- Steps read one behind the other: what is known between two; how the reading ends; no walk. -/
import Derived.Test.YtbpigfpkcflbkaaStepsPrint
namespace Go.Proofs.Ytbpigfpkcflbkaa
open Go Go.RowKit

/-- What is known between two steps, a bad tape too. -/
def SState (s : ByteArray) (bad : Bool) (many : Int) (xs : List Int) (cur : ByteArray) (bb : Bool) : Prop :=
  InR xs ∧ ((bb = false ∧ bad = false ∧ s.data.toList = stepsP xs ++ cur.data.toList) ∨ (bb = true ∧ (bad = true ∨ ¬ ∃ l r, StepsAt s.data.toList many l r)))
theorem SState.first (s : ByteArray) (bad : Bool) (many : Int) : SState s bad many [] s bad := by
  refine ⟨fun x hx => absurd hx (by simp), ?_⟩
  cases bad with
  | false => exact .inl ⟨rfl, rfl, rfl⟩
  | true => exact .inr ⟨rfl, .inl rfl⟩
/-- The number that the next step leads to. -/
def nextI (xs : List Int) (cur : ByteArray) (bb : Bool) : Int := wrap64 (lastI 0 xs + openI (numT cur bb maxU).1)
theorem SState.next {s : ByteArray} {bad : Bool} {many : Int} {xs : List Int} {cur : ByteArray} (h : SState s bad many xs cur false) (hl : (xs.length : Int) < many) :
    SState s bad many (xs ++ [nextI xs cur false]) (numT cur false maxU).2.1 (numT cur false maxU).2.2 := by
  obtain ⟨hr, h⟩ := h
  have hn := numT_lt cur false maxU
  refine ⟨?_, ?_⟩
  · intro x hx
    rcases List.mem_append.1 hx with hx | hx
    · exact hr x hx
    · rw [List.mem_singleton.1 hx]; exact wrap64_range _
  rcases h with ⟨_, hb, e⟩ | ⟨h, _⟩
  · cases hY : (numT cur false maxU).2.2 with
    | false =>
      refine .inl ⟨rfl, hb, ?_⟩
      obtain ⟨_, g⟩ := numT_good hY
      have g' : cur.data.toList = vp (numT cur false maxU).1 ++ (numT cur false maxU).2.1.data.toList := by
        rw [← print_data, ← data_append]; exact congrArg (fun x => x.data.toList) g
      rw [e, g']
      unfold stepsP nextI
      rw [stepsB_snoc, step_forth _ _ hn, List.append_assoc]
    | true =>
      refine .inr ⟨rfl, .inr ?_⟩
      rintro ⟨l, r, hS⟩
      obtain ⟨u, rest, hu, eu⟩ := hS.more hr e hl
      have hs : cur = printB u ++ mkB rest := bytes_ext (by rw [data_append, print_data, mkB_data, eu])
      rw [hs, numT_print u hu (mkB rest) maxU (by unfold maxU; omega)] at hY
      exact absurd hY (by show ¬ false = true; decide)
  · exact absurd h (by decide)
theorem SState.last {s : ByteArray} {bad : Bool} {many : Int} {xs : List Int} {cur : ByteArray} {bb : Bool} (h : SState s bad many xs cur bb) (hl : (xs.length : Int) = many) (hm : many ≤ 4096) :
    (bb = false ∧ bad = false ∧ StepsAt s.data.toList many xs cur.data.toList) ∨ (bb = true ∧ (bad = true ∨ ¬ ∃ l r, StepsAt s.data.toList many l r)) :=
  h.2.imp (fun ⟨h1, h2, h3⟩ => ⟨h1, h2, by omega, hm, hl, h.1, h3⟩) id
/-- Of a number beyond the limits there are none. -/
theorem steps_over {s : List UInt8} {many : Int} (h : many < 0 ∨ 4096 < many) : ¬ ∃ l r, StepsAt s many l r := by
  rintro ⟨l, r, h0, h1, _⟩; omega

/-- How a tape's call that reads so many numbers ends. -/
def StepsEnd (T : TypeId) (w : World) (b : Nat) (s : ByteArray) (bad : Bool) (many : Int) (e : Ending) (w' : World) : Prop :=
  ∃ v l s' bad', e = .returned v ∧ StrsIn w' v l ∧ Fresh w.heap.size v ∧ TapeIn T w' b s' bad' ∧ w.grownBy w' (some b) ∧ l.length ≤ 4096 ∧
    ((bad' = false ∧ bad = false ∧ ∃ xs, l = xs.map cellInt ∧ StepsAt s.data.toList many xs s'.data.toList) ∨ (bad' = true ∧ (bad = true ∨ ¬ ∃ l r, StepsAt s.data.toList many l r)))
/-- How Read ends: there are so many numbers, or none. -/
def StepsRead (T : TypeId) (w : World) (b : Nat) (s : ByteArray) (bad : Bool) (many : Int) (e : Ending) (w' : World) : Prop :=
  (∃ v xs r, e = .returned v ∧ bad = false ∧ StepsAt s.data.toList many xs r ∧ StrsIn w' v (xs.map cellInt) ∧ Fresh w.heap.size v ∧ TapeIn T w' b (mkB r) false ∧ w.grownBy w' (some b)) ∨
  (∃ s0, e = .returned (.slice none 0 0) ∧ TapeIn T w' b s0 true ∧ w.grownBy w' (some b) ∧ (bad = true ∨ ¬ ∃ l r, StepsAt s.data.toList many l r))
theorem ints_more (xs : List Int) (x : Int) : (xs ++ [x]).map (fun n => Value.string (cellInt n)) = xs.map (fun n => Value.string (cellInt n)) ++ [Value.string (cellInt x)] ∧ (xs ++ [x]).length = xs.length + 1 ∧ lastI 0 (xs ++ [x]) = x :=
  ⟨by rw [List.map_append]; rfl, by rw [List.length_append]; rfl, lastI_snoc _ _ _⟩
theorem cells_in {w : World} {v : Value} {xs : List Int} (h : SliceOf w 1 v xs.length (xs.map fun n => Value.string (cellInt n))) : StrsIn w v (xs.map cellInt) := by
  unfold StrsIn
  rw [List.length_map, List.map_map]
  exact h
theorem nums_ints {l : List Int} (h : InR l) : numsL (l.map cellInt) = l ∧ mayL (l.map cellInt) = true := by
  refine ⟨?_, mayL_all ?_⟩
  · unfold numsL
    rw [List.map_map]
    conv => rhs; rw [← List.map_id l]
    exact List.map_congr_left fun x hx => numOf_cellInt x (h x hx).1 (h x hx).2
  · intro c hc
    obtain ⟨x, _, rfl⟩ := List.mem_map.1 hc
    exact isInt_cellInt x
end Go.Proofs.Ytbpigfpkcflbkaa
