/- Tapes: lemmas for all layers above; no law. -/
import Derived.Test.YtppmmkmlngmafaaVaryReadRef2
namespace Go.Proofs.Ytppmmkmlngmafaa
open Go Go.RowKit

theorem box_tape (w : World) (s : ByteArray) (bad : Bool) (T : TypeId) : TapeIn T (w.alloc (.cells #[.string s, .bool bad] T)) w.heap.size s bad := heap_alloc_new w _
theorem TapeIn.alloc {T : TypeId} {w : World} {b : Nat} {s : ByteArray} {bad : Bool} (h : TapeIn T w b s bad) (o : Obj) : TapeIn T (w.alloc o) b s bad := h.kept (Below.alloc (.refl _ _) (Nat.le_refl _) o)
theorem Takes.stepB {P : Program} {T : TypeId} {f : FuncId} {more : List Value} {b : Nat} {s s' : ByteArray} {bad bad' : Bool} {v : Value} (h : Takes P T f more b s bad v s' bad')
    {w0 w : World} {B : Nat} (hT : TapeIn T w b s bad) (hb : Below B w0 w) (hB : B ≤ w.heap.size) (hr : B ≤ b) {R : Ending → World → Prop}
    (k : ∀ w', TapeIn T w' b s' bad' → Below B w0 w' → B ≤ w'.heap.size → w.grownBy w' (some b) → R (.returned v) w') :
    Calls P f (Value.pointer (some ⟨b, 0, none⟩) :: more).toArray w R :=
  (h w hT).mono fun _ _ ⟨he, hT', hw⟩ => he ▸ k _ hT' (hb.grown hw hB (fun k hk => by cases hk; exact hr)) (Nat.le_trans hB hw.size) hw
theorem nextNum_of (l : List UInt8) (n : Nat) (h : n < 18446744073709551616) (p r : List UInt8) (hp : vp n = p) (hl : l = p ++ r) : nextNum l = some (n, p.length) := by
  subst hp; subst hl; exact nextNum_vp n h r
theorem vp_128 : vp 128 = [128, 1] := by rw [vp_great (by decide), vp_small (by decide)]; rfl
theorem vp_5 : vp 5 = [5] := by rw [vp_small (by decide)]; rfl
theorem vp_7 : vp 7 = [7] := by rw [vp_small (by decide)]; rfl
theorem vp_0 : vp 0 = [0] := by rw [vp_small (by decide)]; rfl
theorem print_len (n : Nat) : (printB n).size = (vp n).length := by
  show (vp n).toArray.size = _
  exact List.size_toArray
theorem print_data (n : Nat) : (printB n).data.toList = vp n := rfl
theorem bytes_ext {a b : ByteArray} (h : a.data.toList = b.data.toList) : a = b := by
  cases a with | mk x => cases b with | mk y => cases x; cases y; cases h; rfl
theorem data_append (a b : ByteArray) : (a ++ b).data.toList = a.data.toList ++ b.data.toList := by simp
theorem data_extract (s : ByteArray) (a b : Nat) : (s.extract a b).data.toList = (s.data.toList.drop a).take (b - a) := by
  have := Lib.extract_toList s a b
  rwa [ByteArray.toList_eq] at this
theorem data_size (s : ByteArray) : s.data.toList.length = s.size := Array.length_toList
theorem extract_front (a b : ByteArray) : (a ++ b).extract a.size (a ++ b).size = b := by
  apply bytes_ext
  rw [data_extract, data_append]
  have h1 := data_size a
  have h2 := data_size (a ++ b)
  rw [data_append, List.length_append] at h2
  rw [← h1, List.drop_left, List.take_of_length_le]
  rw [h1] at h2 ⊢
  omega

theorem numT_print (n : Nat) (h : n < 18446744073709551616) (r : ByteArray) (m : Int) (hm : (n : Int) ≤ m) : numT (printB n ++ r) false m = (n, r, false) := by
  have e : nextNum (printB n ++ r).data.toList = some (n, (vp n).length) := by rw [data_append]; exact nextNum_vp n h _
  rw [numT_ok _ m _ _ e hm, ← print_len, extract_front]

theorem TapeIn.drew {T : TypeId} {w : World} {b : Nat} {s : ByteArray} {bad : Bool} (h : TapeIn T w b s bad) : TapeIn T w.drew b s bad := h
theorem Takes.step2 {P : Program} {T T2 : TypeId} {f : FuncId} {more : List Value} {b b2 : Nat} {s s' s2 : ByteArray} {bad bad' bad2 : Bool} {v : Value} (h : Takes P T f more b s bad v s' bad')
    {w0 w : World} {B : Nat} (hT : TapeIn T w b s bad) (hT2 : TapeIn T2 w b2 s2 bad2) (hn : b2 ≠ b) (hb : Below B w0 w) (hB : B ≤ w.heap.size) (hr : B ≤ b) {R : Ending → World → Prop}
    (k : ∀ w', TapeIn T w' b s' bad' → TapeIn T2 w' b2 s2 bad2 → Below B w0 w' → B ≤ w'.heap.size → R (.returned v) w') :
    Calls P f (Value.pointer (some ⟨b, 0, none⟩) :: more).toArray w R :=
  h.stepB hT hb hB hr fun w' a b c d => k w' a (hT2.other d hn) b c

theorem numT_size (s : ByteArray) (bad : Bool) (m : Int) : (numT s bad m).2.1.size ≤ s.size := by
  unfold numT
  cases bad with
  | true => exact Nat.le_refl _
  | false =>
    cases h : nextNum s.data.toList with
    | none => exact Nat.le_refl _
    | some p =>
      obtain ⟨n, k⟩ := p
      simp only [Bool.false_eq_true, if_false]
      split
      · rw [ByteArray.size_extract]; omega
      · exact Nat.le_refl _
theorem textT_size (s : ByteArray) (bad : Bool) (n : Nat) : (textT s bad n).2.1.size ≤ s.size := by
  unfold textT
  split
  · exact Nat.le_refl _
  · split
    · show (s.extract n s.size).size ≤ _; rw [ByteArray.size_extract]; omega
    · exact Nat.le_refl _

theorem TapeIn.drewN {T : TypeId} {w : World} {b : Nat} {s : ByteArray} {bad : Bool} (h : TapeIn T w b s bad) (n : Nat) : TapeIn T (w.drewN n) b s bad := h
theorem below_drewN {B : Nat} {a w : World} (h : Below B a w) (n : Nat) : Below B a (w.drewN n) := ⟨h.os, h.tape, h.output, h.size, h.block⟩
theorem vp_low (n k : Nat) (h0 : 0 < k) (h : k < (vp n).length) : 128 ^ k ≤ n := by
  refine Nat.le_of_not_lt fun hn => ?_
  have := vp_len_le n k h0 hn
  omega
theorem vp_mono {a b : Nat} (h : a ≤ b) : (vp a).length ≤ (vp b).length := vp_len_le a _ (vp_pos b) (Nat.lt_of_le_of_lt h (vp_lt b))
theorem vp_inj {a b : Nat} (h : vp a = vp b) : a = b := by rw [← val7_vp a, h, val7_vp]
theorem print_eq (a b : Nat) : ((printB a).toList == (printB b).toList) = ((a : Int) == (b : Int)) := by
  rw [ByteArray.toList_eq, ByteArray.toList_eq, print_data, print_data, Bool.eq_iff_iff, beq_iff_eq, beq_iff_eq]
  constructor
  · intro h; rw [vp_inj h]
  · intro h; rw [show a = b by omega]

end Go.Proofs.Ytppmmkmlngmafaa
