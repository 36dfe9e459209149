/- Tapes: lemmas for all layers above; no law. -/
import Derived.Test.YtoamnoafamoldaaGVary
import Derived.Test.YtoamnoafamoldaaGZVaryPrintRef
import Derived.Deep.RegionWith
import Derived.Deep.QuietTactic
import Derived.BigQuiet
import Derived.Laws.Rows
import Derived.Lib.Strings
/- Contracts of first and of a tape's methods. -/
namespace Go.Proofs.Ytoamnoafamoldaa
open Go Go.RowKit

def firstR (s : ByteArray) : Value := .tuple #[.int .u64 (((nextNum s.data.toList).getD (0, 0)).1 : Nat), .int .i64 (((nextNum s.data.toList).getD (0, 0)).2 : Nat)]
theorem firstR_of (s : ByteArray) (o : Option (Nat × Nat)) (h : nextNum s.data.toList = o) : Ending.returned (.tuple #[.int .u64 ((o.getD (0, 0)).1 : Nat), .int .i64 ((o.getD (0, 0)).2 : Nat)]) = .returned (firstR s) := by subst h; rfl

def accNat (l : List UInt8) (k : Nat) : Nat := val7 (l.take k) % 18446744073709551616
def accN (l : List UInt8) (k : Nat) : Int := (accNat l k : Int)

theorem byte_at (s : ByteArray) (k : Nat) (h : k < s.size) : s.data.toList[k]? = some s[k] := by
  have h' : k < s.data.toList.length := by rw [Array.length_toList]; exact h
  rw [List.getElem?_eq_getElem h']
  rfl
theorem wrap_lt (n : Nat) (h : n < 18446744073709551616) : IntKind.u64.wrap (n : Int) = (n : Int) := by rw [IntKind.wrap_u64]; omega
theorem acc_step (s : ByteArray) (k : Nat) (h : k < s.size) (h9 : k < 10) :
    bits .or .u64 (accN s.data.toList k) (IntKind.u64.wrap (IntKind.u64.wrap (bits .andNot .u8 (s[k].toNat : Int) 128) * 2 ^ (7 * k))) = accN s.data.toList (k + 1) := by
  obtain ⟨h1, h2⟩ := val7_or s.data.toList k s[k] (byte_at s k h) h9
  rw [not_128, wrap_lt _ (by omega)]
  have e1 : ((s[k].toNat % 128 : Nat) : Int) * 2 ^ (7 * k) = ((s[k].toNat % 128 * 2 ^ (7 * k) : Nat) : Int) := by simp
  rw [e1, IntKind.wrap_u64]
  have e2 : ((s[k].toNat % 128 * 2 ^ (7 * k) : Nat) : Int) % 18446744073709551616 = ((s[k].toNat % 128 * 2 ^ (7 * k) % 18446744073709551616 : Nat) : Int) := by simp
  rw [e2]
  unfold accN accNat
  rw [← h1, Nat.mod_eq_of_lt (a := val7 (List.take k s.data.toList)) (by omega), Nat.shiftLeft_eq]
  exact bits_or_u64_nat _ _ (by omega) (Nat.mod_lt _ (by decide))
theorem print_test (s : ByteArray) (k : Nat) :
    (vp (accNat s.data.toList (k + 1)) = s.data.toList.take (k + 1) → ((printB (accNat s.data.toList (k + 1))).toList == (s.extract 0 (k + 1)).toList) = true ∧ ((printB (accNat s.data.toList (k + 1))).toList != (s.extract 0 (k + 1)).toList) = false) ∧
    (¬ vp (accNat s.data.toList (k + 1)) = s.data.toList.take (k + 1) → ((printB (accNat s.data.toList (k + 1))).toList == (s.extract 0 (k + 1)).toList) = false ∧ ((printB (accNat s.data.toList (k + 1))).toList != (s.extract 0 (k + 1)).toList) = true) := by
  have e1 : (printB (accNat s.data.toList (k + 1))).toList = vp (accNat s.data.toList (k + 1)) := by rw [ByteArray.toList_eq]; rfl
  have e2 : (s.extract 0 (k + 1)).toList = s.data.toList.take (k + 1) := by rw [Lib.extract_toList]; simp
  rw [e1, e2]
  constructor
  · intro hv; rw [hv]; simp
  · intro hv; simp [hv]
theorem acc_zero (l : List UInt8) : accN l 0 = 0 := rfl

end Go.Proofs.Ytoamnoafamoldaa
/- Contracts of a tape's methods, of the layer and of its answer. -/
namespace Go.Proofs.Ytoamnoafamoldaa
open Go Go.RowKit

/-- A tape lies in a block. -/
def TapeIn (T : TypeId) (w : World) (b : Nat) (s : ByteArray) (bad : Bool) : Prop := w.heap[b]? = some (.cells #[.string s, .bool bad] T (0, 0))
theorem TapeIn.c0 {T : TypeId} {w : World} {b : Nat} {s : ByteArray} {bad : Bool} (h : TapeIn T w b s bad) : w.cell? ⟨b, 0, none⟩ = some (.string s) := cell_of_row w b 0 _ T _ h
theorem TapeIn.c1 {T : TypeId} {w : World} {b : Nat} {s : ByteArray} {bad : Bool} (h : TapeIn T w b s bad) : w.cell? ⟨b, 1, none⟩ = some (.bool bad) := cell_of_row w b 1 _ T _ h
theorem TapeIn.f0 {T : TypeId} {w : World} {b : Nat} {s : ByteArray} {bad : Bool} (h : TapeIn T w b s bad) (i : Nat) : w.frozen? ⟨b, i, none⟩ = false := frozen_of_row w b i _ T h
theorem TapeIn.lt {T : TypeId} {w : World} {b : Nat} {s : ByteArray} {bad : Bool} (h : TapeIn T w b s bad) : b < w.heap.size := lt_of_block h
theorem TapeIn.set0 {T : TypeId} {w : World} {b : Nat} {s : ByteArray} {bad : Bool} (h : TapeIn T w b s bad) (s' : ByteArray) : TapeIn T (w.setCell ⟨b, 0, none⟩ (.string s')) b s' bad := by
  unfold TapeIn; rw [heap_setCell_same w b 0 _ T _ h]; rfl
theorem TapeIn.set1 {T : TypeId} {w : World} {b : Nat} {s : ByteArray} {bad : Bool} (h : TapeIn T w b s bad) (c : Bool) : TapeIn T (w.setCell ⟨b, 1, none⟩ (.bool c)) b s c := by
  unfold TapeIn; rw [heap_setCell_same w b 1 _ T _ h]; rfl
theorem TapeIn.kept {T : TypeId} {w w' : World} {b : Nat} {s : ByteArray} {bad : Bool} (h : TapeIn T w b s bad) (hb : Below w.heap.size w w') : TapeIn T w' b s bad := by
  unfold TapeIn; rw [hb.block b h.lt]; exact h
theorem TapeIn.other {T : TypeId} {w w' : World} {b c : Nat} {s : ByteArray} {bad : Bool} (h : TapeIn T w b s bad) (hg : w.grownBy w' (some c)) (hn : b ≠ c) : TapeIn T w' b s bad := by
  unfold TapeIn; rw [hg.block b h.lt (by simpa using hn)]; exact h
theorem grown_refl (w : World) (row : Option Nat) : w.grownBy w row := ⟨rfl, rfl, rfl, Nat.le_refl _, fun _ _ _ => rfl⟩
theorem grown_below {w w' : World} (h : Below w.heap.size w w') (row : Option Nat) : w.grownBy w' row := ⟨h.os, h.tape, h.output, h.size, fun k hk _ => h.block k hk⟩
theorem grown_trans {a b c : World} {row : Option Nat} (h : a.grownBy b row) (k : b.grownBy c row) : a.grownBy c row :=
  ⟨k.os.trans h.os, k.tape.trans h.tape, k.output.trans h.output, Nat.le_trans h.size k.size, fun i hi hr => (k.block i (Nat.lt_of_lt_of_le hi h.size) hr).trans (h.block i hi hr)⟩
theorem grown_set {a w : World} {b : Nat} (h : a.grownBy w (some b)) (i : Nat) (v : Value) : a.grownBy (w.setCell ⟨b, i, none⟩ v) (some b) :=
  grown_trans h ⟨rfl, rfl, rfl, by simp, fun k _ hr => heap_setCell_other w _ k v (by intro e; exact hr (by rw [e]))⟩

/-- What a call does to a tape: a result, what is left, whether it is bad. -/
def Takes (P : Program) (T : TypeId) (f : FuncId) (more : List Value) (b : Nat) (s : ByteArray) (bad : Bool) (v : Value) (s' : ByteArray) (bad' : Bool) : Prop :=
  ∀ w : World, TapeIn T w b s bad → Calls P f (Value.pointer (some ⟨b, 0, none⟩) :: more).toArray w fun e w' => e = .returned v ∧ TapeIn T w' b s' bad' ∧ w.grownBy w' (some b)

theorem Gives.tape {P : Program} {f : FuncId} {args : Array Value} {v : Value} (h : Gives P f args v) {T : TypeId} {w0 w : World} {b : Nat} {s : ByteArray} {bad : Bool} (hT : TapeIn T w b s bad)
    (hg : w0.grownBy w (some b)) {R : Ending → World → Prop} (k : ∀ w', TapeIn T w' b s bad → w0.grownBy w' (some b) → R (.returned v) w') : Calls P f args w R :=
  (h w).mono fun _ _ ⟨he, hw⟩ => he ▸ k _ (hT.kept hw) (grown_trans hg (grown_below hw _))

/-- What the next number is, what is left, whether the tape is bad. -/
def numT (s : ByteArray) (bad : Bool) (m : Int) : Nat × ByteArray × Bool :=
  if bad then (0, s, true) else match nextNum s.data.toList with
    | none => (0, s, true)
    | some (n, k) => if (n : Int) ≤ m then (n, s.extract k s.size, false) else (0, s, true)

theorem numT_lt (s : ByteArray) (bad : Bool) (m : Int) : (numT s bad m).1 < 18446744073709551616 := by
  unfold numT
  cases bad with
  | true => exact (by decide : (0 : Nat) < 18446744073709551616)
  | false =>
    cases h : nextNum s.data.toList with
    | none => exact (by decide : (0 : Nat) < 18446744073709551616)
    | some p =>
      obtain ⟨n, k⟩ := p
      have := (nextNum_some h).2.2.2.1
      simp only [Bool.false_eq_true, if_false]
      split
      · exact this
      · exact (by decide : (0 : Nat) < 18446744073709551616)

theorem Takes.step {P : Program} {T : TypeId} {f : FuncId} {more : List Value} {b : Nat} {s s' : ByteArray} {bad bad' : Bool} {v : Value} (h : Takes P T f more b s bad v s' bad')
    {w0 w : World} (hT : TapeIn T w b s bad) (hg : w0.grownBy w (some b)) {R : Ending → World → Prop} (k : ∀ w', TapeIn T w' b s' bad' → w0.grownBy w' (some b) → R (.returned v) w') :
    Calls P f (Value.pointer (some ⟨b, 0, none⟩) :: more).toArray w R :=
  (h w hT).mono fun _ _ ⟨he, hT', hw⟩ => he ▸ k _ hT' (grown_trans hg hw)

def maxU : Int := 18446744073709551615
/-- The next bytes, what is left, whether the tape is bad. -/
def textT (s : ByteArray) (bad : Bool) (n : Nat) : ByteArray × ByteArray × Bool :=
  if bad then (⟨#[]⟩, s, true) else if n ≤ s.size then (s.extract 0 n, s.extract n s.size, false) else (⟨#[]⟩, s, true)

theorem wrap_size (s : ByteArray) (hs : s.size ≤ 9223372036854775807) : IntKind.u64.wrap (s.size : Int) = (s.size : Int) := wrap_lt _ (by omega)
end Go.Proofs.Ytoamnoafamoldaa
/- Contracts of a tape's methods, of the answer. -/
namespace Go.Proofs.Ytoamnoafamoldaa
open Go Go.RowKit

theorem byte_ge (s : ByteArray) (k : Nat) (hk : k < s.size) (ha : ∀ x ∈ s.data.toList.take k, 128 ≤ x.toNat) (h : ¬ s[k].toNat < 128) : ∀ x ∈ s.data.toList.take (k + 1), 128 ≤ x.toNat := by
  intro x hx
  rw [take_form _ _ _ (byte_at s k hk)] at hx
  rcases List.mem_append.1 hx with hx | hx
  · exact ha x hx
  · simp at hx; subst hx; omega
theorem numT_none (s : ByteArray) (m : Int) (h : nextNum s.data.toList = none) : numT s false m = (0, s, true) := by unfold numT; rw [h]; rfl
theorem numT_over (s : ByteArray) (m : Int) (n k : Nat) (h : nextNum s.data.toList = some (n, k)) (hm : m < n) : numT s false m = (0, s, true) := by
  unfold numT; rw [h]; simp only [Bool.false_eq_true, if_false]; rw [if_neg (by omega)]
theorem numT_ok (s : ByteArray) (m : Int) (n k : Nat) (h : nextNum s.data.toList = some (n, k)) (hm : (n : Int) ≤ m) : numT s false m = (n, s.extract k s.size, false) := by
  unfold numT; rw [h]; simp only [Bool.false_eq_true, if_false]; rw [if_pos hm]
theorem ref_step (s : ByteArray) (k : Nat) (h : k < s.size) (h9 : k < 10) :
    bits .or .u64 (accN s.data.toList k) (IntKind.u64.wrap (IntKind.u64.wrap (bits .and .u8 (s[k].toNat : Int) 127) * 2 ^ (7 * k))) = accN s.data.toList (k + 1) := by
  rw [and_127, ← not_128]
  exact acc_step s k h h9

end Go.Proofs.Ytoamnoafamoldaa
/- Contracts of a tape's further methods, of the answer. -/
namespace Go.Proofs.Ytoamnoafamoldaa
open Go Go.RowKit

end Go.Proofs.Ytoamnoafamoldaa
namespace Go.Proofs.Ytoamnoafamoldaa
open Go Go.RowKit

theorem box_tape (w : World) (s : ByteArray) (bad : Bool) (T : TypeId) : TapeIn T (w.alloc (.cells #[.string s, .bool bad] T)) w.heap.size s bad := heap_alloc_new w _
theorem TapeIn.alloc {T : TypeId} {w : World} {b : Nat} {s : ByteArray} {bad : Bool} (h : TapeIn T w b s bad) (o : Obj) : TapeIn T (w.alloc o) b s bad := h.kept (Below.alloc (.refl _ _) (Nat.le_refl _) o)
theorem Takes.stepB {P : Program} {T : TypeId} {f : FuncId} {more : List Value} {b : Nat} {s s' : ByteArray} {bad bad' : Bool} {v : Value} (h : Takes P T f more b s bad v s' bad')
    {w0 w : World} {B : Nat} (hT : TapeIn T w b s bad) (hb : Below B w0 w) (hB : B ≤ w.heap.size) (hr : B ≤ b) {R : Ending → World → Prop}
    (k : ∀ w', TapeIn T w' b s' bad' → Below B w0 w' → B ≤ w'.heap.size → w.grownBy w' (some b) → R (.returned v) w') :
    Calls P f (Value.pointer (some ⟨b, 0, none⟩) :: more).toArray w R :=
  (h w hT).mono fun _ _ ⟨he, hT', hw⟩ => he ▸ k _ hT' (hb.grown hw hB (fun k hk => by cases hk; exact hr)) (Nat.le_trans hB hw.size) hw
theorem nextNum_of (l : List UInt8) (n : Nat) (h : n < 18446744073709551616) (p r : List UInt8) (hp : vp n = p) (hl : l = p ++ r) : nextNum l = some (n, p.length) := by
  subst hp; subst hl; exact nextNum_vp n h r
theorem vp_128 : vp 128 = [128, 1] := by rw [vp_great (by decide), vp_small (by decide)]; rfl
theorem vp_5 : vp 5 = [5] := by rw [vp_small (by decide)]; rfl
theorem vp_7 : vp 7 = [7] := by rw [vp_small (by decide)]; rfl
theorem vp_0 : vp 0 = [0] := by rw [vp_small (by decide)]; rfl
theorem print_len (n : Nat) : (printB n).size = (vp n).length := by
  show (vp n).toArray.size = _
  exact List.size_toArray
theorem print_data (n : Nat) : (printB n).data.toList = vp n := rfl
theorem bytes_ext {a b : ByteArray} (h : a.data.toList = b.data.toList) : a = b := by
  cases a with | mk x => cases b with | mk y => cases x; cases y; cases h; rfl
theorem data_append (a b : ByteArray) : (a ++ b).data.toList = a.data.toList ++ b.data.toList := by simp
theorem data_extract (s : ByteArray) (a b : Nat) : (s.extract a b).data.toList = (s.data.toList.drop a).take (b - a) := by
  have := Lib.extract_toList s a b
  rwa [ByteArray.toList_eq] at this
theorem data_size (s : ByteArray) : s.data.toList.length = s.size := Array.length_toList
theorem extract_front (a b : ByteArray) : (a ++ b).extract a.size (a ++ b).size = b := by
  apply bytes_ext
  rw [data_extract, data_append]
  have h1 := data_size a
  have h2 := data_size (a ++ b)
  rw [data_append, List.length_append] at h2
  rw [← h1, List.drop_left, List.take_of_length_le]
  rw [h1] at h2 ⊢
  omega

theorem numT_print (n : Nat) (h : n < 18446744073709551616) (r : ByteArray) (m : Int) (hm : (n : Int) ≤ m) : numT (printB n ++ r) false m = (n, r, false) := by
  have e : nextNum (printB n ++ r).data.toList = some (n, (vp n).length) := by rw [data_append]; exact nextNum_vp n h _
  rw [numT_ok _ m _ _ e hm, ← print_len, extract_front]

theorem TapeIn.drew {T : TypeId} {w : World} {b : Nat} {s : ByteArray} {bad : Bool} (h : TapeIn T w b s bad) : TapeIn T w.drew b s bad := h
theorem Takes.step2 {P : Program} {T T2 : TypeId} {f : FuncId} {more : List Value} {b b2 : Nat} {s s' s2 : ByteArray} {bad bad' bad2 : Bool} {v : Value} (h : Takes P T f more b s bad v s' bad')
    {w0 w : World} {B : Nat} (hT : TapeIn T w b s bad) (hT2 : TapeIn T2 w b2 s2 bad2) (hn : b2 ≠ b) (hb : Below B w0 w) (hB : B ≤ w.heap.size) (hr : B ≤ b) {R : Ending → World → Prop}
    (k : ∀ w', TapeIn T w' b s' bad' → TapeIn T2 w' b2 s2 bad2 → Below B w0 w' → B ≤ w'.heap.size → R (.returned v) w') :
    Calls P f (Value.pointer (some ⟨b, 0, none⟩) :: more).toArray w R :=
  h.stepB hT hb hB hr fun w' a b c d => k w' a (hT2.other d hn) b c

theorem numT_size (s : ByteArray) (bad : Bool) (m : Int) : (numT s bad m).2.1.size ≤ s.size := by
  unfold numT
  cases bad with
  | true => exact Nat.le_refl _
  | false =>
    cases h : nextNum s.data.toList with
    | none => exact Nat.le_refl _
    | some p =>
      obtain ⟨n, k⟩ := p
      simp only [Bool.false_eq_true, if_false]
      split
      · rw [ByteArray.size_extract]; omega
      · exact Nat.le_refl _
theorem textT_size (s : ByteArray) (bad : Bool) (n : Nat) : (textT s bad n).2.1.size ≤ s.size := by
  unfold textT
  split
  · exact Nat.le_refl _
  · split
    · show (s.extract n s.size).size ≤ _; rw [ByteArray.size_extract]; omega
    · exact Nat.le_refl _

theorem TapeIn.drewN {T : TypeId} {w : World} {b : Nat} {s : ByteArray} {bad : Bool} (h : TapeIn T w b s bad) (n : Nat) : TapeIn T (w.drewN n) b s bad := h
theorem below_drewN {B : Nat} {a w : World} (h : Below B a w) (n : Nat) : Below B a (w.drewN n) := ⟨h.os, h.tape, h.output, h.size, h.block⟩
theorem vp_low (n k : Nat) (h0 : 0 < k) (h : k < (vp n).length) : 128 ^ k ≤ n := by
  refine Nat.le_of_not_lt fun hn => ?_
  have := vp_len_le n k h0 hn
  omega
theorem vp_mono {a b : Nat} (h : a ≤ b) : (vp a).length ≤ (vp b).length := vp_len_le a _ (vp_pos b) (Nat.lt_of_le_of_lt h (vp_lt b))
theorem vp_inj {a b : Nat} (h : vp a = vp b) : a = b := by rw [← val7_vp a, h, val7_vp]
theorem print_eq (a b : Nat) : ((printB a).toList == (printB b).toList) = ((a : Int) == (b : Int)) := by
  rw [ByteArray.toList_eq, ByteArray.toList_eq, print_data, print_data, Bool.eq_iff_iff, beq_iff_eq, beq_iff_eq]
  constructor
  · intro h; rw [vp_inj h]
  · intro h; rw [show a = b by omega]

end Go.Proofs.Ytoamnoafamoldaa
