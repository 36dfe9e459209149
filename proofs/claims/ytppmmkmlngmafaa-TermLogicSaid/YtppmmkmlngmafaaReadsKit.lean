/- Two tapes of one text, and calls that read off either: the forms of the '..Reads' laws; no program. -/
import Derived.Test.YtppmmkmlngmafaaStrs
namespace Go.Proofs.Ytppmmkmlngmafaa
open Go Go.RowKit

theorem two_tapes (w : World) (s : ByteArray) (T1 T2 : TypeId) :
    TapeIn T1 ((w.alloc (.cells #[.string s, .bool false] T1)).alloc (.cells #[.string s, .bool false] T2)) w.heap.size s false ∧
    TapeIn T2 ((w.alloc (.cells #[.string s, .bool false] T1)).alloc (.cells #[.string s, .bool false] T2)) (w.heap.size + 1) s false ∧
    Below w.heap.size w ((w.alloc (.cells #[.string s, .bool false] T1)).alloc (.cells #[.string s, .bool false] T2)) := by
  have h1 := box_tape w s false T1
  have h2 := box_tape (w.alloc (.cells #[.string s, .bool false] T1)) s false T2
  refine ⟨h1.alloc _, by simpa using h2, ((Below.refl _ w).alloc (Nat.le_refl _) _).alloc (by simp) _⟩

/-- A tape's call that gives texts, or none: the texts, what is left, whether the tape is bad. -/
def ReadsStrs (P : Program) (T : TypeId) (f : FuncId) (more : List Value) (b : Nat) (s : ByteArray) (l : List ByteArray) (r : ByteArray) (bad : Bool) : Prop :=
  ∀ w : World, TapeIn T w b s false → Calls P f (Value.pointer (some ⟨b, 0, none⟩) :: more).toArray w fun e w' => ∃ v s', e = .returned v ∧ StrsIn w' v l ∧ Fresh w.heap.size v ∧ TapeIn T w' b s' bad ∧ w.grownBy w' (some b) ∧ (bad = false → s' = r)
theorem TakesStrs.reads {P : Program} {T : TypeId} {f : FuncId} {more : List Value} {b : Nat} {s s' : ByteArray} {l : List ByteArray} (h : TakesStrs P T f more b s l s') : ReadsStrs P T f more b s l s' false :=
  fun w hT => (h w hT).mono fun _ _ ⟨v, he, hi, hf, hT', hg⟩ => ⟨v, s', he, hi, hf, hT', hg, fun _ => rfl⟩
theorem Takes.reads {P : Program} {T : TypeId} {f : FuncId} {more : List Value} {b : Nat} {s s' r : ByteArray} (h : Takes P T f more b s false (.slice none 0 0) s' true) : ReadsStrs P T f more b s [] r true :=
  fun w hT => (h w hT).mono fun _ _ ⟨he, hT', hg⟩ => ⟨_, s', he, SliceOf.nil_ _ _ _ _, fresh_nil _, hT', hg, fun h => absurd h (by decide)⟩
theorem TakesNone.reads {P : Program} {T : TypeId} {f : FuncId} {more : List Value} {b : Nat} {s r : ByteArray} (h : TakesNone P T f more b s false (.slice none 0 0)) : ReadsStrs P T f more b s [] r true :=
  fun w hT => (h w hT).mono fun _ _ ⟨s', he, hT', hg⟩ => ⟨_, s', he, SliceOf.nil_ _ _ _ _, fresh_nil _, hT', hg, fun h => absurd h (by decide)⟩
end Go.Proofs.Ytppmmkmlngmafaa
