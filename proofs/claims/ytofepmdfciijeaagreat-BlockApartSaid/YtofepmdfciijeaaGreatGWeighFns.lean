/- The contracts of layer 10's own compare, none, goes, copied, and of the library's Clone. -/
import Derived.Test.YtofepmdfciijeaaGreatGStrs
import Derived.Test.YtofepmdfciijeaaGreatGTimes
import Derived.Test.YtofepmdfciijeaaGreatGWeighRef
import Derived.Sort.Grow
import Derived.Lib.SliceRun
namespace Go.Proofs.YtofepmdfciijeaaGreat
open Go Go.RowKit

theorem below_grow (w : World) (os : Array Obj) : Below w.heap.size w (Go.Sort.grow w os) :=
  ⟨rfl, rfl, rfl, by simp, fun k hk => Go.Sort.heap_grow_old w os hk⟩
theorem wcompare_grows {w : World} {ra rb : Value} {a b : List ByteArray} (m n : Int) (ha : StrsIn w ra a) (hb : StrsIn w rb b) :
    Calls Tryz.prog 57 #[timesA (ra, m), timesA (rb, n)] w fun e w' => e = .returned (.int .i64 (cmpL a b)) ∧ ∃ os, w' = Go.Sort.grow w os := by
  obtain ⟨A, ca, rfl, _⟩ := one_at ha
  obtain ⟨B, cb, rfl, _⟩ := one_at hb
  have h := compare_calls (SliceOf.alloc (SliceOf.alloc ha (.cells #[.slice A a.length ca, .int .i64 m] 40)) (.cells #[.slice B b.length cb, .int .i64 n] 40)) (SliceOf.alloc (SliceOf.alloc hb (.cells #[.slice A a.length ca, .int .i64 m] 40)) (.cells #[.slice B b.length cb, .int .i64 n] 40))
  generalize cmpL a b = z at *
  clear ha hb
  unfold timesA
  go_enter Tryz.func57, Tryz.ntmps57
  go_wp2_with (go_at_call 80; refine h.step ?_)
  go_ret
  exact ⟨rfl, _, by rw [Go.Sort.alloc_eq_grow, Go.Sort.alloc_eq_grow, Go.Sort.grow_grow]⟩
theorem wcompare_calls {w : World} {ra rb : Value} {a b : List ByteArray} (m n : Int) (ha : StrsIn w ra a) (hb : StrsIn w rb b) :
    GivesAt Tryz.prog 57 #[timesA (ra, m), timesA (rb, n)] w (.int .i64 (cmpL a b)) :=
  (wcompare_grows m n ha hb).mono fun _ _ ⟨he, os, hw⟩ => ⟨he, hw ▸ below_grow _ os⟩
theorem wnone_calls (A : Option Addr) (c p : Nat) (n : Int) : Gives Tryz.prog 56 #[.agg #[.slice A c p, .int .i64 n]] (.bool (n == 0)) := by
  intro w
  obtain ⟨hb, hB⟩ := start w
  generalize hz : (n == 0) = z
  cases z <;> (
    go_enter Tryz.func56, Tryz.ntmps56
    go_wp2
    go_ret
    exact ⟨rfl, hb.alloc hB _⟩)
theorem Tryz.infoWS9 : (Tryz.prog.info? 9).map (fun i => (i.zero, i.size, i.bytes)) = some (some (.string ⟨#[]⟩), 1, 16) := by kernel_rfl
/-- Texts in memory of the call's own. -/
def GivesOwnRow (P : Program) (f : FuncId) (args : Array Value) (w : World) (l : List ByteArray) : Prop :=
  Calls P f args w fun e w' => ∃ A p, e = .returned (.slice A l.length p) ∧ StrsIn w' (.slice A l.length p) l ∧ Fresh w.heap.size (.slice A l.length p) ∧ Below w.heap.size w w'
set_option maxHeartbeats 1000000 in
theorem clone_row_calls {w : World} {v : Value} {l : List ByteArray} (h : StrsIn w v l) (hl : l.length ≤ 1000000) : GivesOwnRow Tryz.prog 120 #[v] w l := by
  obtain ⟨i0, hi, hz0, hz1, hz2⟩ := info_parts Tryz.infoWS9
  obtain ⟨hb, hB⟩ := start w
  obtain ⟨A, c, rfl, hat⟩ := one_at h
  have H := Lib.hid h
  unfold GivesOwnRow
  cases A with
  | none =>
    have h0 : l = [] := by
      cases l with
      | nil => rfl
      | cons x l => obtain ⟨b, off, e, _⟩ := hat 0 (by simp); exact absurd e (by simp)
    subst h0
    clear hat h
    have q22 : ∀ (w : World) (a : Option Addr) (n c n' c' : Nat), (binOp .eql 26 (.slice a n c) (.slice none n' c')).run Tryz.prog w = .ok (.bool a.isNone) w := fun w a n c n' c' => Lib.run_eql_slice_nil w _ _ a n c n' c' Tryz.underlying26
    go_enter Tryz.func120, Tryz.ntmps120
    go_wp2
    go_ret
    exact ⟨_, _, rfl, SliceOf.nil_ _ _ _ _, fresh_nil _, hb⟩
  | some ad =>
    clear hat h
    have q22 : ∀ (w : World) (a : Option Addr) (n c n' c' : Nat), (binOp .eql 26 (.slice a n c) (.slice none n' c')).run Tryz.prog w = .ok (.bool a.isNone) w := fun w a n c n' c' => Lib.run_eql_slice_nil w _ _ a n c n' c' Tryz.underlying26
    go_enter Tryz.func120, Tryz.ntmps120
    go_wp2_with (at_builtin; refine wpList_append_src rfl (.tmp 5) (.tmp 6) 26 rfl 9 i0 (.string ⟨#[]⟩) 1 16 Tryz.underlying26 hi hz0 hz1 hz2 rfl (by decide) (B := w.heap.size) _ 0 [] rfl (own_empty 1 (Nat.le_refl _) (by simp)) _ l.length (l.map Value.string) rfl (SliceOf.alloc H.out _) (one_texts _) (by unfold maxLen; omega) (by omega) (by simp) ?_)
    intro v7 w7 hO7 hg7 _
    have hb7 := boxed_below hg7
    have hO : Own w7 w.heap.size 1 v7 l.length (l.map Value.string) := by simpa using hO7
    clear hO7 hg7 hb hB
    obtain ⟨A9, p9, rfl⟩ := hO.len
    have HF : Hid (Fresh w.heap.size (.slice A9 l.length p9)) := fun k hk => (hO.lt k hk).1
    have HS : Hid (StrsIn w7 (.slice A9 l.length p9) l) := hO.slice
    clear hO
    go_wp2
    go_ret
    exact ⟨_, _, rfl, HS.out, HF.out, hb7⟩
theorem clone_cells {w : World} {v : Value} {n : Nat} {xs : List Value} (h : SliceOf w 2 v n xs) : ∃ A c, v = .slice A n c ∧ (A = none → n = 0) := by
  obtain ⟨A, c, e, hat⟩ := h.at_
  refine ⟨A, c, e, fun h0 => ?_⟩
  rcases Nat.eq_zero_or_pos n with hn | hn
  · exact hn
  · obtain ⟨b, off, e1, _⟩ := hat hn
    rw [h0] at e1; cases e1
/-- Cells in memory of the call's own. -/
def GivesOwnCells (P : Program) (f : FuncId) (args : Array Value) (w : World) (n : Nat) (xs : List Value) : Prop :=
  Calls P f args w fun e w' => ∃ v, e = .returned v ∧ Own w' w.heap.size 2 v n xs ∧ Below w.heap.size w w'
end Go.Proofs.YtofepmdfciijeaaGreat
