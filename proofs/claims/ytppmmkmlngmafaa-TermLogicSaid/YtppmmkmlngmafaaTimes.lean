/- Slices of rows and how often each is there, as lists; no program. -/
import Derived.Test.YtppmmkmlngmafaaStrs
namespace Go.Proofs.Ytppmmkmlngmafaa
open Go Go.RowKit

/-- A row and how often it is there. -/
abbrev Tm := List ByteArray × Int
/-- The cells of such elements: a slice value and a number each. -/
def timesV (tv : List (Value × Int)) : List Value := tv.flatMap fun t => [t.1, .int .i64 t.2]
/-- One such element as a value. -/
def timesA (t : Value × Int) : Value := .agg #[t.1, .int .i64 t.2]
/-- What slice values and numbers hold. -/
def RowsOf (w : World) : List (Value × Int) → List Tm → Prop
  | [], [] => True
  | t :: tv, x :: l => (StrsIn w t.1 x.1 ∧ t.2 = x.2) ∧ RowsOf w tv l
  | _, _ => False
def TimesIn (w : World) (v : Value) (l : List Tm) : Prop := ∃ tv, SliceOf w 2 v l.length (timesV tv) ∧ RowsOf w tv l

theorem timesV_nil : timesV [] = [] := rfl
theorem timesV_cons (t : Value × Int) (tv : List (Value × Int)) : timesV (t :: tv) = t.1 :: .int .i64 t.2 :: timesV tv := rfl
theorem timesV_append (a b : List (Value × Int)) : timesV (a ++ b) = timesV a ++ timesV b := List.flatMap_append
theorem timesV_length (tv : List (Value × Int)) : (timesV tv).length = tv.length * 2 := by
  induction tv with
  | nil => rfl
  | cons t tv ih => rw [timesV_cons, List.length_cons, List.length_cons, ih, List.length_cons]; omega
theorem timesV_get : ∀ (tv : List (Value × Int)) (j : Nat) (h : j < tv.length), (timesV tv)[j * 2]? = some tv[j].1 ∧ (timesV tv)[j * 2 + 1]? = some (.int .i64 tv[j].2)
  | [], j, h => absurd h (by simp)
  | t :: tv, 0, _ => ⟨rfl, rfl⟩
  | t :: tv, j + 1, h => by
    have := timesV_get tv j (by simpa using h)
    have e1 : (j + 1) * 2 = j * 2 + 2 := by omega
    rw [e1]
    exact this
section
variable {w w' : World}
theorem RowsOf.length : ∀ {tv : List (Value × Int)} {l : List Tm}, RowsOf w tv l → tv.length = l.length
  | [], [], _ => rfl
  | _ :: _, _ :: _, h => by rw [List.length_cons, List.length_cons, RowsOf.length h.2]
  | [], _ :: _, h => h.elim
  | _ :: _, [], h => h.elim
theorem RowsOf.kept (hb : Below w.heap.size w w') : ∀ {tv : List (Value × Int)} {l : List Tm}, RowsOf w tv l → RowsOf w' tv l
  | [], [], _ => trivial
  | _ :: _, _ :: _, h => ⟨⟨StrsIn.kept h.1.1 hb, h.1.2⟩, RowsOf.kept hb h.2⟩
  | [], _ :: _, h => h.elim
  | _ :: _, [], h => h.elim
theorem RowsOf.append : ∀ {a b : List (Value × Int)} {l m : List Tm}, RowsOf w a l → RowsOf w b m → RowsOf w (a ++ b) (l ++ m)
  | [], _, [], _, _, h => h
  | _ :: _, _, _ :: _, _, h, k => ⟨h.1, RowsOf.append h.2 k⟩
  | [], _, _ :: _, _, h, _ => h.elim
  | _ :: _, _, [], _, h, _ => h.elim
theorem RowsOf.take : ∀ {a : List (Value × Int)} {l : List Tm} (k : Nat), RowsOf w a l → RowsOf w (a.take k) (l.take k)
  | [], [], k, _ => by rw [List.take_nil, List.take_nil]; trivial
  | _ :: _, _ :: _, 0, _ => trivial
  | _ :: _, _ :: _, k + 1, h => ⟨h.1, RowsOf.take k h.2⟩
  | [], _ :: _, _, h => h.elim
  | _ :: _, [], _, h => h.elim
theorem RowsOf.drop : ∀ {a : List (Value × Int)} {l : List Tm} (k : Nat), RowsOf w a l → RowsOf w (a.drop k) (l.drop k)
  | [], [], k, _ => by rw [List.drop_nil, List.drop_nil]; trivial
  | _ :: _, _ :: _, 0, h => h
  | _ :: _, _ :: _, k + 1, h => RowsOf.drop k h.2
  | [], _ :: _, _, h => h.elim
  | _ :: _, [], _, h => h.elim
theorem RowsOf.get : ∀ {a : List (Value × Int)} {l : List Tm}, RowsOf w a l → ∀ (k : Nat) (h1 : k < a.length) (h2 : k < l.length), StrsIn w a[k].1 l[k].1 ∧ a[k].2 = l[k].2
  | _ :: _, _ :: _, h, 0, _, _ => h.1
  | _ :: _, _ :: _, h, k + 1, h1, h2 => RowsOf.get h.2 k (by simpa using h1) (by simpa using h2)
  | [], _ :: _, h, _, _, _ => h.elim
  | _ :: _, [], h, _, _, _ => h.elim
theorem RowsOf.one {v : Value} {n : Int} {row : List ByteArray} (h : StrsIn w v row) : RowsOf w [(v, n)] [(row, n)] := ⟨⟨h, rfl⟩, trivial⟩
theorem RowsOf.map (f : Int → Int) : ∀ {a : List (Value × Int)} {l : List Tm}, RowsOf w a l → RowsOf w (a.map fun t => (t.1, f t.2)) (l.map fun x => (x.1, f x.2))
  | [], [], _ => trivial
  | _ :: _, _ :: _, h => ⟨⟨h.1.1, congrArg f h.1.2⟩, RowsOf.map f h.2⟩
  | [], _ :: _, h => h.elim
  | _ :: _, [], h => h.elim
/-- Slice values have one cell each. -/
theorem RowsOf.one_cell : ∀ {a : List (Value × Int)} {l : List Tm}, RowsOf w a l → ∀ u ∈ timesV a, u.oneCell' = true
  | [], [], _, u, hu => absurd hu (by simp [timesV])
  | t :: _, _ :: _, h, u, hu => by
    rw [timesV_cons] at hu
    rcases List.mem_cons.1 hu with rfl | hu
    · obtain ⟨A, c, e, _⟩ := h.1.1.at_
      rw [e]; rfl
    · rcases List.mem_cons.1 hu with rfl | hu
      · rfl
      · exact RowsOf.one_cell h.2 u hu
  | [], _ :: _, h, _, _ => h.elim
  | _ :: _, [], h, _, _ => h.elim

theorem TimesIn.kept {v : Value} {l : List Tm} (h : TimesIn w v l) (hb : Below w.heap.size w w') : TimesIn w' v l := by
  obtain ⟨tv, h1, h2⟩ := h
  exact ⟨tv, SliceOf.later h1 hb, h2.kept hb⟩
theorem TimesIn.len {v : Value} {l : List Tm} (h : TimesIn w v l) : l.length ≤ maxLen := by
  obtain ⟨tv, h1, _⟩ := h
  exact h1.2.1
theorem TimesIn.nil_ (w : World) (A : Option Addr) (cap : Nat) : TimesIn w (.slice A 0 cap) [] := ⟨[], SliceOf.nil_ _ _ _ _, trivial⟩
/-- Opened: each element's slice value is known, and its cells are there. -/
theorem times_at {v : Value} {l : List Tm} (h : TimesIn w v l) : ∃ tv A cap, v = .slice A l.length cap ∧ RowsOf w tv l ∧
    (∀ k, k < l.length → ∃ b off, A = some ⟨b, off, none⟩ ∧ b < w.heap.size ∧ ∀ j (hj : j < l.length), ∃ rv, StrsIn w rv l[j].1 ∧ tv[j]? = some (rv, l[j].2) ∧ w.cell? ⟨b, off + j * 2, none⟩ = some rv ∧ w.cell? ⟨b, off + j * 2 + 1, none⟩ = some (.int .i64 l[j].2)) := by
  obtain ⟨tv, h1, h2⟩ := h
  obtain ⟨_, _, A, cap, e, _, h4⟩ := h1
  have hl := h2.length
  refine ⟨tv, A, cap, e, h2, fun k hk => ?_⟩
  obtain ⟨b, off, ea, hb, hc⟩ := h4 (by omega)
  refine ⟨b, off, ea, hb, fun j hj => ?_⟩
  have hg := h2.get j (by omega) hj
  have hv := timesV_get tv j (by omega)
  refine ⟨tv[j].1, hg.1, ?_, hc _ _ hv.1, ?_⟩
  · rw [List.getElem?_eq_getElem (by omega), ← hg.2]
  · rw [← hg.2]; exact hc _ _ hv.2
/-- A slice of rows by its parts: what 'append' and a slice expression want. -/
theorem TimesIn.of {v : Value} {n : Nat} {tv : List (Value × Int)} {l : List Tm} (h : SliceOf w 2 v n (timesV tv)) (hr : RowsOf w tv l) (hn : n = l.length) : TimesIn w v l := by
  subst hn; exact ⟨tv, h, hr⟩
theorem take_timesV : ∀ (tv : List (Value × Int)) (k : Nat), (timesV tv).take (k * 2) = timesV (tv.take k)
  | [], k => by rw [List.take_nil]; exact List.take_nil
  | _ :: _, 0 => rfl
  | t :: tv, k + 1 => by
    have e1 : (k + 1) * 2 = k * 2 + 2 := by omega
    rw [e1]
    show t.1 :: Value.int .i64 t.2 :: (timesV tv).take (k * 2) = t.1 :: .int .i64 t.2 :: timesV (tv.take k)
    rw [take_timesV tv k]
theorem drop_timesV : ∀ (tv : List (Value × Int)) (k : Nat), (timesV tv).drop (k * 2) = timesV (tv.drop k)
  | [], k => by rw [List.drop_nil]; exact List.drop_nil
  | _ :: _, 0 => rfl
  | t :: tv, k + 1 => by
    have e1 : (k + 1) * 2 = k * 2 + 2 := by omega
    rw [e1]
    show (timesV tv).drop (k * 2) = timesV (tv.drop k)
    rw [drop_timesV tv k]
end
/-- The front of a slice of elements of any size, and what is behind. -/
theorem SliceOf.frontN {w : World} {size : Nat} {A : Option Addr} {n cap m : Nat} {xs : List Value} (h : SliceOf w size (.slice A n cap) n xs) (hm : m ≤ n) : SliceOf w size (.slice A m cap) m (xs.take (m * size)) := by
  obtain ⟨h1, h2, A', cap', e, hr, h4⟩ := h
  cases e
  have hle : m * size ≤ n * size := Nat.mul_le_mul_right _ hm
  refine ⟨by rw [List.length_take, h1]; omega, by omega, A, cap, rfl, by omega, fun h0 => ?_⟩
  obtain ⟨b, off, e1, hb, hc⟩ := h4 (by omega)
  refine ⟨b, off, e1, hb, fun j u hu => hc j u ?_⟩
  rw [List.getElem?_take] at hu
  split at hu
  · exact hu
  · exact absurd hu (by simp)
theorem SliceOf.backN {w : World} {size : Nat} {b off n cap m : Nat} {xs : List Value} (h : SliceOf w size (.slice (some ⟨b, off, none⟩) n cap) n xs) (hm : m ≤ n) {A : Option Addr} (hA : m < n → A = some ⟨b, off + m * size, none⟩) :
    SliceOf w size (.slice A (n - m) (cap - m)) (n - m) (xs.drop (m * size)) := by
  obtain ⟨h1, h2, A', cap', e, hr, h4⟩ := h
  cases e
  refine ⟨by rw [List.length_drop, h1, Nat.sub_mul], by omega, A, cap - m, rfl, by omega, fun h0 => ?_⟩
  obtain ⟨b', off', e1, hb, hc⟩ := h4 (by omega)
  cases e1
  refine ⟨b, off + m * size, hA (by omega), hb, fun j u hu => ?_⟩
  rw [List.getElem?_drop] at hu
  rw [Nat.add_assoc]
  exact hc _ u hu
/-- A literal of rows. -/
theorem lit_times (w : World) (T : TypeId) (tv : List (Value × Int)) (l : List Tm) (hr : RowsOf w tv l) (h : l.length ≤ 1000) : TimesIn (w.alloc (.cells (timesV tv).toArray T)) (.slice (some ⟨w.heap.size, 0, none⟩) l.length l.length) l := by
  refine ⟨tv, (Own.lit (B := 0) (size := 2) w (timesV tv).toArray T l.length (Nat.zero_le _) (by unfold maxLen; omega) ?_).slice, hr.kept ((Below.refl _ w).alloc (Nat.le_refl _) _)⟩
  rw [List.size_toArray, timesV_length, hr.length]
/-- A call that gives rows. -/
def GivesTimes (P : Program) (f : FuncId) (args : Array Value) (w : World) (l : List Tm) : Prop := Calls P f args w fun e w' => ∃ v, e = .returned v ∧ TimesIn w' v l ∧ Below w.heap.size w w'
theorem GivesTimes.stepB {P : Program} {f : FuncId} {args : Array Value} {w : World} {l : List Tm} (h : GivesTimes P f args w l) {B : Nat} {w0 : World} (hb : Below B w0 w) (hB : B ≤ w.heap.size)
    {R : Ending → World → Prop} (k : ∀ v w', TimesIn w' v l → Below B w0 w' → B ≤ w'.heap.size → Below w.heap.size w w' → R (.returned v) w') : Calls P f args w R :=
  Calls.mono h fun _ _ ⟨_, he, hi, hw⟩ => he ▸ k _ _ hi (hb.trans (hw.mono hB)) (Nat.le_trans hB hw.size) hw
/-- Rows whose slice values are such as a word says. -/
def TimesQ (Q : Value → Prop) (w : World) (v : Value) (l : List Tm) : Prop := ∃ tv, SliceOf w 2 v l.length (timesV tv) ∧ RowsOf w tv l ∧ ∀ t ∈ tv, Q t.1
def GivesTimesQ (Q : Value → Prop) (P : Program) (f : FuncId) (args : Array Value) (w : World) (l : List Tm) : Prop := Calls P f args w fun e w' => ∃ v, e = .returned v ∧ TimesQ Q w' v l ∧ Below w.heap.size w w'
theorem TimesQ.times {Q : Value → Prop} {w : World} {v : Value} {l : List Tm} (h : TimesQ Q w v l) : TimesIn w v l := by
  obtain ⟨tv, h1, h2, _⟩ := h
  exact ⟨tv, h1, h2⟩
theorem TimesQ.kept {Q : Value → Prop} {w w' : World} {v : Value} {l : List Tm} (h : TimesQ Q w v l) (hb : Below w.heap.size w w') : TimesQ Q w' v l := by
  obtain ⟨tv, h1, h2, h3⟩ := h
  exact ⟨tv, SliceOf.later h1 hb, h2.kept hb, h3⟩
theorem TimesQ.nil_ (Q : Value → Prop) (w : World) (A : Option Addr) (cap : Nat) : TimesQ Q w (.slice A 0 cap) [] := ⟨[], SliceOf.nil_ _ _ _ _, trivial, fun _ h => absurd h (by simp)⟩
theorem TimesQ.of {Q : Value → Prop} {w : World} {v : Value} {n : Nat} {tv : List (Value × Int)} {l : List Tm} (h : SliceOf w 2 v n (timesV tv)) (hr : RowsOf w tv l) (hn : n = l.length) (hq : ∀ t ∈ tv, Q t.1) : TimesQ Q w v l := by
  subst hn; exact ⟨tv, h, hr, hq⟩
theorem TimesIn.trueQ {w : World} {v : Value} {l : List Tm} (h : TimesIn w v l) : TimesQ (fun _ => True) w v l := by
  obtain ⟨tv, h1, h2⟩ := h
  exact ⟨tv, h1, h2, fun _ _ => trivial⟩
theorem GivesTimesQ.gives {Q : Value → Prop} {P : Program} {f : FuncId} {args : Array Value} {w : World} {l : List Tm} (h : GivesTimesQ Q P f args w l) : GivesTimes P f args w l :=
  Calls.mono h fun _ _ ⟨v, he, ht, hb⟩ => ⟨v, he, ht.times, hb⟩
theorem GivesTimesQ.stepB {Q : Value → Prop} {P : Program} {f : FuncId} {args : Array Value} {w : World} {l : List Tm} (h : GivesTimesQ Q P f args w l) {B : Nat} {w0 : World} (hb : Below B w0 w) (hB : B ≤ w.heap.size)
    {R : Ending → World → Prop} (k : ∀ v w', TimesQ Q w' v l → Below B w0 w' → B ≤ w'.heap.size → Below w.heap.size w w' → R (.returned v) w') : Calls P f args w R :=
  Calls.mono h fun _ _ ⟨_, he, hi, hw⟩ => he ▸ k _ _ hi (hb.trans (hw.mono hB)) (Nat.le_trans hB hw.size) hw
theorem q_mid {Q : Value → Prop} {tv m : List (Value × Int)} (h : ∀ t ∈ tv, Q t.1) (hm : ∀ t ∈ m, Q t.1) (i j : Nat) : ∀ t ∈ tv.take i ++ m ++ tv.drop j, Q t.1 := fun t ht => by
  rcases List.mem_append.1 ht with ht | ht
  · rcases List.mem_append.1 ht with ht | ht
    · exact h t (List.mem_of_mem_take ht)
    · exact hm t ht
  · exact h t (List.mem_of_mem_drop ht)
theorem q_end {Q : Value → Prop} {tv m : List (Value × Int)} (h : ∀ t ∈ tv, Q t.1) (hm : ∀ t ∈ m, Q t.1) (i : Nat) : ∀ t ∈ tv.take i ++ m, Q t.1 := fun t ht => by
  rcases List.mem_append.1 ht with ht | ht
  · exact h t (List.mem_of_mem_take ht)
  · exact hm t ht
theorem q_one {Q : Value → Prop} {u : Value} {n : Int} (h : Q u) : ∀ t ∈ [(u, n)], Q t.1 := fun t ht => by rw [List.mem_singleton.1 ht]; exact h
theorem q_none {Q : Value → Prop} : ∀ t ∈ ([] : List (Value × Int)), Q t.1 := fun t ht => absurd ht (by simp)
theorem q_set {Q : Value → Prop} {tv : List (Value × Int)} (h : ∀ t ∈ tv, Q t.1) (j : Nat) {u : Value} {n : Int} (hu : Q u) : ∀ t ∈ tv.set j (u, n), Q t.1 := fun t ht => by
  rcases List.mem_or_eq_of_mem_set ht with ht | rfl
  · exact h t ht
  · exact hu
end Go.Proofs.Ytppmmkmlngmafaa
