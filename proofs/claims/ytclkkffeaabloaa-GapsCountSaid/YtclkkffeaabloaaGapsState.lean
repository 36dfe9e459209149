/- Yes and no read one run behind the other: what is known between two; how the reading ends; no walk. -/
import Derived.Test.YtclkkffeaabloaaGapsPure
import Derived.Test.YtclkkffeaabloaaStrs
namespace Go.Proofs.Ytclkkffeaabloaa
open Go Go.RowKit

/-- Runs that may be a beginning. -/
def Beg (ls : List Nat) : Prop := ls = [] ∨ GoodG ls
theorem Beg.snoc {ls : List Nat} (h : Beg ls) {n : Nat} (hn : ls ≠ [] → 1 ≤ n) : GoodG (ls ++ [n]) := by
  rcases h with rfl | ⟨m, tl, rfl, h1⟩
  · exact ⟨n, [], rfl, by simp⟩
  · refine ⟨m, tl ++ [n], rfl, fun k hk => ?_⟩
    rcases List.mem_append.1 hk with hk | hk
    · exact h1 k hk
    · rw [List.mem_singleton.1 hk]; exact hn (by simp)
theorem sumN_snoc (ls : List Nat) (n : Nat) : sumN (ls ++ [n]) = sumN ls + n := by rw [sumN_append]; simp [sumN]
/-- What stands behind such a beginning, if there are so many. -/
theorem gaps_more {ls : List Nat} (hg : Beg ls) {s : List UInt8} {cur r : List UInt8} {many : Int} {l : List Bool} (e : s = gapsB ls ++ cur) (hs : ls = [] ∨ (sumN ls : Int) < many) (h : GapsAt s many l r) :
    ∃ m rest, m < 18446744073709551616 ∧ cur = vp m ++ rest ∧ (m : Int) ≤ many - sumN ls ∧ (ls ≠ [] → 1 ≤ m) := by
  obtain ⟨h0, h1, h2, h3⟩ := h
  obtain ⟨g, eg⟩ := lensOf_good l
  have hsum := sumN_lensOf l
  have hall := @sumN_le (lensOf l)
  rcases hg with rfl | hg
  · obtain ⟨m, tl, em, _⟩ := g
    have hm := hall m (by rw [em]; exact List.mem_cons_self)
    refine ⟨m, gapsB tl ++ r, by omega, ?_, by simp only [sumN]; omega, fun h => absurd rfl h⟩
    rw [e] at h3
    rw [show gapsB [] ++ cur = cur from rfl] at h3
    rw [h3]
    unfold gapsP
    rw [em, gapsB_cons, List.append_assoc]
  · have hlt : (sumN ls : Int) < many := hs.resolve_left hg.ne
    obtain ⟨tl, e1, e2, e3⟩ := gapsB_prefix ls (lensOf l) cur r hg g (by omega) (by omega) (e.symm.trans h3)
    have hst : sumN (lensOf l) = sumN ls + sumN tl := by rw [e1, sumN_append]
    cases tl with
    | nil => simp only [sumN] at hst; omega
    | cons m tl =>
      simp only [sumN] at hst
      exact ⟨m, gapsB tl ++ r, by omega, by rw [e2, gapsB_cons, List.append_assoc], by omega, fun _ => e3 m List.mem_cons_self⟩

/-- What is known between two runs, a bad tape too. -/
def GState (s : ByteArray) (bad : Bool) (many : Int) (ls : List Nat) (cur : ByteArray) (bb : Bool) : Prop :=
  Beg ls ∧ (sumN ls : Int) ≤ many ∧ ((bb = false ∧ bad = false ∧ s.data.toList = gapsB ls ++ cur.data.toList) ∨ (bb = true ∧ (bad = true ∨ ¬ ∃ l r, GapsAt s.data.toList many l r)))
theorem GState.first (s : ByteArray) (bad : Bool) {many : Int} (h : 0 ≤ many) : GState s bad many [] s bad := by
  refine ⟨.inl rfl, by simpa [sumN] using h, ?_⟩
  cases bad with
  | false => exact .inl ⟨rfl, rfl, rfl⟩
  | true => exact .inr ⟨rfl, .inl rfl⟩
/-- One run more: there is one, or there are not so many. -/
theorem GState.next {s : ByteArray} {bad : Bool} {many : Int} {ls : List Nat} {cur : ByteArray} {bb : Bool} (h : GState s bad many ls cur bb) (hl : ls = [] ∨ (sumN ls : Int) < many) :
    let Y := numT cur bb (many - sumN ls)
    (Y.1 : Int) ≤ many - sumN ls ∧ ((Y.2.2 = true ∨ (ls ≠ [] ∧ Y.1 = 0)) → (bad = true ∨ ¬ ∃ l r, GapsAt s.data.toList many l r)) ∧
    ((ls = [] ∨ Y.1 ≠ 0) → GState s bad many (ls ++ [Y.1]) Y.2.1 Y.2.2) := by
  intro Y
  obtain ⟨hb, hs, h⟩ := h
  have hle : (Y.1 : Int) ≤ many - sumN ls := numT_le cur bb _ (by omega)
  have hbad : (Y.2.2 = true ∨ (ls ≠ [] ∧ Y.1 = 0)) → (bad = true ∨ ¬ ∃ l r, GapsAt s.data.toList many l r) := by
    intro hY
    rcases h with ⟨rfl, hb0, e⟩ | ⟨_, h⟩
    · refine .inr ?_
      rintro ⟨l, r, hG⟩
      obtain ⟨m, rest, hm, ec, hm2, hm3⟩ := gaps_more hb e hl hG
      have hcur : cur = printB m ++ mkB rest := bytes_ext (by rw [data_append, print_data, mkB_data, ec])
      have hYe : Y = (m, mkB rest, false) := by
        show numT cur false _ = _
        rw [hcur]; exact numT_print m hm _ _ hm2
      rw [hYe] at hY
      rcases hY with hY | ⟨h1, h2⟩
      · exact absurd hY (by show ¬ false = true; decide)
      · have := hm3 h1; simp only at h2; omega
    · exact h
  refine ⟨hle, hbad, fun hn => ⟨.inr (hb.snoc fun hne => ?_), by rw [sumN_snoc]; omega, ?_⟩⟩
  · rcases hn with hn | hn
    · exact absurd hn hne
    · omega
  · cases hY : Y.2.2 with
    | true => exact .inr ⟨rfl, hbad (.inl hY)⟩
    | false =>
      rcases h with ⟨rfl, hb0, e⟩ | ⟨rfl, h⟩
      · refine .inl ⟨rfl, hb0, ?_⟩
        obtain ⟨_, g⟩ := numT_good hY
        have g' : cur.data.toList = vp Y.1 ++ Y.2.1.data.toList := by
          rw [← print_data, ← data_append]; exact congrArg (fun x => x.data.toList) g
        rw [e, g', gapsB_append, List.append_assoc]
        simp [gapsB]
      · exact absurd (numT_good hY).1 (by decide)
theorem GState.last {s : ByteArray} {bad : Bool} {many : Int} {ls : List Nat} {cur : ByteArray} {bb : Bool} (h : GState s bad many ls cur bb) (hg : GoodG ls) (hl : (sumN ls : Int) = many) (hm : many ≤ 4096) :
    (bb = false ∧ bad = false ∧ GapsAt s.data.toList many (spreadG true ls) cur.data.toList) ∨ (bb = true ∧ (bad = true ∨ ¬ ∃ l r, GapsAt s.data.toList many l r)) :=
  h.2.2.imp (fun ⟨h1, h2, h3⟩ => ⟨h1, h2, by omega, hm, by rw [spreadG_length]; exact hl, by unfold gapsP; rw [lensOf_spread ls hg]; exact h3⟩) id
/-- Of a number beyond the limits there are none. -/
theorem gaps_over {s : List UInt8} {many : Int} (h : many < 0 ∨ 4096 < many) : ¬ ∃ l r, GapsAt s many l r := by
  rintro ⟨l, r, h0, h1, _⟩; omega
theorem spread_snoc (ls : List Nat) (n : Nat) : spreadG true (ls ++ [n]) = spreadG true ls ++ List.replicate n (flip true ls.length) := by
  rw [spreadG_append]; simp [spreadG]
theorem flip_snoc (ls : List Nat) (n : Nat) : flip true (ls ++ [n]).length = !flip true ls.length := by
  rw [List.length_append, List.length_singleton, ← flip_succ true ls.length]
  unfold flip
  split <;> simp

/-- How a tape's call that reads so many yes and no ends. -/
def GapsEnd (T : TypeId) (w : World) (b : Nat) (s : ByteArray) (bad : Bool) (many : Int) (e : Ending) (w' : World) : Prop :=
  ∃ v l s' bad', e = .returned v ∧ BoolsIn w' v l ∧ Fresh w.heap.size v ∧ TapeIn T w' b s' bad' ∧ w.grownBy w' (some b) ∧ l.length ≤ 4096 ∧
    ((bad' = false ∧ bad = false ∧ GapsAt s.data.toList many l s'.data.toList) ∨ (bad' = true ∧ (bad = true ∨ ¬ ∃ l r, GapsAt s.data.toList many l r)))
/-- How Read ends: there are so many, or none. -/
def GapsRead (T : TypeId) (w : World) (b : Nat) (s : ByteArray) (bad : Bool) (many : Int) (e : Ending) (w' : World) : Prop :=
  (∃ v l r, e = .returned v ∧ bad = false ∧ GapsAt s.data.toList many l r ∧ BoolsIn w' v l ∧ Fresh w.heap.size v ∧ TapeIn T w' b (mkB r) false ∧ w.grownBy w' (some b)) ∨
  (∃ s0, e = .returned (.slice none 0 0) ∧ TapeIn T w' b s0 true ∧ w.grownBy w' (some b) ∧ (bad = true ∨ ¬ ∃ l r, GapsAt s.data.toList many l r))

/-- A tape's call that gives yes and no, or none. -/
def ReadsBools (P : Program) (T : TypeId) (f : FuncId) (more : List Value) (b : Nat) (s : ByteArray) (l : List Bool) (r : ByteArray) (bad : Bool) : Prop :=
  ∀ w : World, TapeIn T w b s false → Calls P f (Value.pointer (some ⟨b, 0, none⟩) :: more).toArray w fun e w' => ∃ v s', e = .returned v ∧ BoolsIn w' v l ∧ Fresh w.heap.size v ∧ TapeIn T w' b s' bad ∧ w.grownBy w' (some b) ∧ (bad = false → s' = r)

/-- Which cells aren't nothing, and these. -/
def isL (l : List ByteArray) : List Bool := l.map fun c => decide (c ≠ ⟨#[]⟩)
def fullL (l : List ByteArray) : List ByteArray := l.filter fun c => decide (c ≠ ⟨#[]⟩)
/-- How many yes. -/
def cnt (is : List Bool) : Nat := (is.filter id).length
/-- The next cell for each yes, nothing for each no. -/
def joinF : List Bool → List ByteArray → List ByteArray
  | [], _ => []
  | false :: is, l => ⟨#[]⟩ :: joinF is l
  | true :: is, [] => ⟨#[]⟩ :: joinF is []
  | true :: is, c :: l => c :: joinF is l
theorem joinF_length : ∀ (is : List Bool) (l : List ByteArray), (joinF is l).length = is.length
  | [], _ => by simp [joinF]
  | false :: is, l => by simp [joinF, joinF_length is l]
  | true :: is, [] => by simp [joinF, joinF_length is []]
  | true :: is, c :: l => by simp [joinF, joinF_length is l]
theorem joinF_yes : ∀ (is : List Bool) (l : List ByteArray) (k : Nat), is[k]? = some true → ∀ c, l[cnt (is.take k)]? = some c → (joinF is l)[k]? = some c
  | [], _, k, h, _, _ => by simp at h
  | false :: is, l, 0, h, _, _ => by simp at h
  | true :: is, [], 0, _, c, hc => by simp at hc
  | true :: is, d :: l, 0, _, c, hc => by simpa [joinF, cnt] using hc
  | false :: is, l, k + 1, h, c, hc => by
    simp only [joinF, List.getElem?_cons_succ]
    exact joinF_yes is l k (by simpa using h) c (by simpa [cnt] using hc)
  | true :: is, [], k + 1, _, c, hc => by simp at hc
  | true :: is, d :: l, k + 1, h, c, hc => by
    simp only [joinF, List.getElem?_cons_succ]
    exact joinF_yes is l k (by simpa using h) c (by simpa [cnt] using hc)
theorem joinF_no : ∀ (is : List Bool) (l : List ByteArray) (k : Nat), is[k]? = some false → (joinF is l)[k]? = some ⟨#[]⟩
  | [], _, k, h => by simp at h
  | false :: is, l, 0, _ => by simp [joinF]
  | true :: is, [], 0, h => by simp at h
  | true :: is, d :: l, 0, h => by simp at h
  | false :: is, l, k + 1, h => by simp only [joinF, List.getElem?_cons_succ]; exact joinF_no is l k (by simpa using h)
  | true :: is, [], k + 1, h => by simp only [joinF, List.getElem?_cons_succ]; exact joinF_no is [] k (by simpa using h)
  | true :: is, d :: l, k + 1, h => by simp only [joinF, List.getElem?_cons_succ]; exact joinF_no is l k (by simpa using h)
theorem cnt_take (is : List Bool) (k : Nat) (h : k < is.length) : cnt (is.take (k + 1)) = cnt (is.take k) + (if is[k] then 1 else 0) := by
  rw [take_add is k h]
  unfold cnt
  rw [List.filter_append, List.length_append]
  cases is[k] <;> rfl
theorem cnt_le (is : List Bool) : cnt is ≤ is.length := List.length_filter_le _ _
theorem cnt_take_le (is : List Bool) (k : Nat) : cnt (is.take k) ≤ cnt is := by
  conv => rhs; rw [← List.take_append_drop k is]
  unfold cnt
  rw [List.filter_append, List.length_append]; omega
theorem isL_length (l : List ByteArray) : (isL l).length = l.length := List.length_map _
theorem cnt_isL (l : List ByteArray) : cnt (isL l) = (fullL l).length := by
  unfold cnt isL fullL
  rw [List.filter_map, List.length_map]; rfl
theorem fullL_length (l : List ByteArray) : (fullL l).length ≤ l.length := List.length_filter_le _ _
theorem joinF_back : ∀ (l : List ByteArray), joinF (isL l) (fullL l) = l
  | [] => rfl
  | c :: l => by
    have ih := joinF_back l
    unfold isL fullL at ih ⊢
    by_cases h : c = ⟨#[]⟩
    · subst h
      rw [List.map_cons, List.filter_cons_of_neg (by simp), show decide ((⟨#[]⟩ : ByteArray) ≠ ⟨#[]⟩) = false by simp]
      simp only [joinF, ih]
    · rw [List.map_cons, List.filter_cons_of_pos (by simpa using h), show decide (c ≠ ⟨#[]⟩) = true by simpa using h]
      simp only [joinF, ih]
/-- What Join gives. -/
def joinL (is : List Bool) (l : List ByteArray) : List ByteArray := if cnt is = l.length then joinF is l else []
def joinOk (is : List Bool) (l : List ByteArray) : Bool := decide (cnt is = l.length)
def gapsT (l : List Bool) : ByteArray := mkB (gapsP l)
end Go.Proofs.Ytclkkffeaabloaa
