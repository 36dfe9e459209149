/- The contract of layer 4's Runs, and of its answer's. -/
import Derived.Test.YtkmmjdjckedghaaStrs
import Derived.Test.YtkmmjdjckedghaaRunsPure
namespace Go.Proofs.Ytkmmjdjckedghaa
open Go Go.RowKit

def cellsV (rs : List (ByteArray × Nat)) : List Value := rs.map fun x => Value.string x.1
def oftenV (rs : List (ByteArray × Nat)) : List Value := rs.map fun x => Value.int .i64 x.2
theorem cellsV_append (a b : List (ByteArray × Nat)) : cellsV (a ++ b) = cellsV a ++ cellsV b := List.map_append
theorem oftenV_append (a b : List (ByteArray × Nat)) : oftenV (a ++ b) = oftenV a ++ oftenV b := List.map_append
theorem cellsV_length (a : List (ByteArray × Nat)) : (cellsV a).length = a.length := List.length_map _
theorem oftenV_length (a : List (ByteArray × Nat)) : (oftenV a).length = a.length := List.length_map _
theorem oftenV_set (rs : List (ByteArray × Nat)) (x : ByteArray × Nat) (m : Nat) : (oftenV (rs ++ [x])).set rs.length (.int .i64 m) = oftenV (rs ++ [(x.1, m)]) := by
  rw [oftenV_append, oftenV_append, List.set_append_right _ _ (by rw [oftenV_length]; exact Nat.le_refl _), oftenV_length, Nat.sub_self]
  rfl
theorem oftenV_last (rs : List (ByteArray × Nat)) (x : ByteArray × Nat) : (oftenV (rs ++ [x]))[rs.length]? = some (.int .i64 x.2) := by
  rw [oftenV_append, List.getElem?_append_right (by rw [oftenV_length]; exact Nat.le_refl _), oftenV_length, Nat.sub_self]; rfl
theorem cellsV_last (rs : List (ByteArray × Nat)) (x : ByteArray × Nat) : (cellsV (rs ++ [x]))[rs.length]? = some (.string x.1) := by
  rw [cellsV_append, List.getElem?_append_right (by rw [cellsV_length]; exact Nat.le_refl _), cellsV_length, Nat.sub_self]; rfl

theorem addRun_last (rs : List (ByteArray × Nat)) (c : ByteArray) : ∃ m, (addRun rs c).getLast? = some (c, m) := by
  unfold addRun
  cases hl : rs.getLast? with
  | none => exact ⟨1, rfl⟩
  | some x =>
    obtain ⟨d, n⟩ := x
    simp only
    split
    · rename_i h; subst h; exact ⟨n + 1, by simp⟩
    · exact ⟨1, by simp⟩
theorem runs_take (l : List ByteArray) (k : Nat) (h : k < l.length) : runsOf (l.take (k + 1)) = addRun (runsOf (l.take k)) l[k] := by
  rw [take_add l k h, runsOf_snoc]
theorem runs_last (l : List ByteArray) (k : Nat) (h : k < l.length) (h0 : 0 < k) : ∃ rs m, runsOf (l.take k) = rs ++ [(l[k - 1], m)] := by
  obtain ⟨m, hm⟩ := addRun_last (runsOf (l.take (k - 1))) l[k - 1]
  rw [← runs_take l (k - 1) (by omega), show k - 1 + 1 = k by omega] at hm
  exact ⟨_, m, dropLast_last _ _ hm⟩
theorem runs_first (l : List ByteArray) (h : 0 < l.length) : runsOf (l.take (0 + 1)) = runsOf (l.take 0) ++ [(l[0], 1)] := by
  rw [runs_take l 0 h, List.take_zero]; rfl
theorem runs_new (l : List ByteArray) (k : Nat) (h : k < l.length) (h0 : 0 < k) (hn : l[k] ≠ l[k - 1]) : runsOf (l.take (k + 1)) = runsOf (l.take k) ++ [(l[k], 1)] := by
  obtain ⟨rs, m, e⟩ := runs_last l k h h0
  rw [runs_take l k h, e]
  unfold addRun
  simp only [List.getLast?_append, List.getLast?_singleton, Option.some_or]
  rw [if_neg (Ne.symm hn)]
theorem runs_same (l : List ByteArray) (k : Nat) (h : k < l.length) (h0 : 0 < k) (hn : l[k] = l[k - 1]) : ∃ rs m, runsOf (l.take k) = rs ++ [(l[k], m)] ∧ runsOf (l.take (k + 1)) = rs ++ [(l[k], m + 1)] ∧ m ≤ l.length := by
  obtain ⟨rs, m, e⟩ := runs_last l k h h0
  refine ⟨rs, m, by rw [e, hn], ?_, ?_⟩
  · rw [runs_take l k h, e]
    unfold addRun
    simp only [List.getLast?_append, List.getLast?_singleton, Option.some_or]
    rw [if_pos hn.symm, hn]
    simp
  · have h1 : m ≤ many (runsOf (l.take k)) := many_le (l[k - 1], m) (by rw [e]; simp)
    rw [many_runsOf, List.length_take] at h1
    omega
theorem runs_le (l : List ByteArray) : (runsOf l).length ≤ l.length := by
  have h1 : ∀ rs : List (ByteArray × Nat), Good rs → rs.length ≤ many rs := by
    intro rs
    induction rs with
    | nil => intro _; exact Nat.le_refl _
    | cons x rs ih => intro h; have := ih h.tail.1; have := h.tail.2; rw [many_cons, List.length_cons]; omega
  have := h1 _ (runsOf_good l).1
  rwa [many_runsOf] at this

/-- Runs that a call owns: their cells, and how often. -/
def OwnRuns (w : World) (B : Nat) (c n : Value) (rs : List (ByteArray × Nat)) : Prop :=
  Own w B 1 c rs.length (cellsV rs) ∧ Own w B 1 n rs.length (oftenV rs) ∧ ∀ k, c.ownBlock = some k → n.ownBlock ≠ some k
theorem OwnRuns.nil_ (w : World) (B : Nat) : OwnRuns w B (.slice none 0 0) (.slice none 0 0) [] := ⟨Own.nil_ _ _ _, Own.nil_ _ _ _, fun k hk => by simp [Value.ownBlock] at hk⟩
def GivesRuns (P : Program) (f : FuncId) (args : Array Value) (w : World) (rs : List (ByteArray × Nat)) : Prop :=
  Calls P f args w fun e w' => ∃ c n, e = .returned (.tuple #[c, n]) ∧ OwnRuns w' w.heap.size c n rs ∧ Below w.heap.size w w'

theorem Try.infoS9 : (Try.prog.info? 9).map (fun i => (i.zero, i.size, i.bytes)) = some (some (.string ⟨#[]⟩), 1, 16) := by kernel_rfl
theorem Try.infoI3 : (Try.prog.info? 3).map (fun i => (i.zero, i.size, i.bytes)) = some (some (.int .i64 0), 1, 8) := by kernel_rfl

end Go.Proofs.Ytkmmjdjckedghaa
