/- The walks of the laws of layer 2. -/
import Derived.Test.YtfbcagadghlglaaVaryReadRef2
namespace Go.Proofs.Ytfbcagadghlglaa
open Go Go.RowKit

theorem box_tape (w : World) (s : ByteArray) (bad : Bool) (T : TypeId) : TapeIn T (w.alloc (.cells #[.string s, .bool bad] T)) w.heap.size s bad := heap_alloc_new w _
theorem TapeIn.alloc {T : TypeId} {w : World} {b : Nat} {s : ByteArray} {bad : Bool} (h : TapeIn T w b s bad) (o : Obj) : TapeIn T (w.alloc o) b s bad := h.kept (Below.alloc (.refl _ _) (Nat.le_refl _) o)
theorem Takes.stepB {P : Program} {T : TypeId} {f : FuncId} {more : List Value} {b : Nat} {s s' : ByteArray} {bad bad' : Bool} {v : Value} (h : Takes P T f more b s bad v s' bad')
    {w0 w : World} {B : Nat} (hT : TapeIn T w b s bad) (hb : Below B w0 w) (hB : B ≤ w.heap.size) (hr : B ≤ b) {R : Ending → World → Prop}
    (k : ∀ w', TapeIn T w' b s' bad' → Below B w0 w' → B ≤ w'.heap.size → w.grownBy w' (some b) → R (.returned v) w') :
    Calls P f (Value.pointer (some ⟨b, 0, none⟩) :: more).toArray w R :=
  (h w hT).mono fun _ _ ⟨he, hT', hw⟩ => he ▸ k _ hT' (hb.grown hw hB (fun k hk => by cases hk; exact hr)) (Nat.le_trans hB hw.size) hw
theorem Gives.stepB {P : Program} {f : FuncId} {args : Array Value} {v : Value} (h : Gives P f args v) {B : Nat} {w0 w : World} (hb : Below B w0 w) (hB : B ≤ w.heap.size)
    {R : Ending → World → Prop} (k : ∀ w', Below B w0 w' → B ≤ w'.heap.size → Below w.heap.size w w' → R (.returned v) w') : Calls P f args w R :=
  (h w).mono fun _ _ ⟨he, hw⟩ => he ▸ k _ (hb.trans (hw.mono hB)) (Nat.le_trans hB hw.size) hw

theorem nextNum_of (l : List UInt8) (n : Nat) (h : n < 18446744073709551616) (p r : List UInt8) (hp : vp n = p) (hl : l = p ++ r) : nextNum l = some (n, p.length) := by
  subst hp; subst hl; exact nextNum_vp n h r
theorem vp_128 : vp 128 = [128, 1] := by rw [vp_great (by decide), vp_small (by decide)]; rfl
theorem vp_5 : vp 5 = [5] := by rw [vp_small (by decide)]; rfl
theorem vp_7 : vp 7 = [7] := by rw [vp_small (by decide)]; rfl
theorem vp_0 : vp 0 = [0] := by rw [vp_small (by decide)]; rfl
theorem aw1 (b : Nat) : Takes Try.prog 31 15 [.int .u64 1000] b ⟨#[128, 1, 5, 97, 98, 88]⟩ false (.int .u64 128) ⟨#[5, 97, 98, 88]⟩ false :=
  num_ok b _ _ 128 2 (nextNum_of _ 128 (by decide) _ [5, 97, 98, 88] vp_128 rfl) (by decide)
theorem aw2 (b : Nat) : Takes Try.prog 31 17 [] b ⟨#[5, 97, 98, 88]⟩ false (.int .i64 (-3)) ⟨#[97, 98, 88]⟩ false := by
  have h := int_calls b ⟨#[5, 97, 98, 88]⟩ false
  rw [numT_ok _ _ 5 1 (nextNum_of _ 5 (by decide) _ [97, 98, 88] vp_5 rfl) (by decide)] at h
  exact h
theorem aw3 (b : Nat) : Takes Try.prog 31 19 [.int .u64 2] b ⟨#[97, 98, 88]⟩ false (.string ⟨#[97, 98]⟩) ⟨#[88]⟩ false :=
  text_calls b ⟨#[97, 98, 88]⟩ false 2 (by decide)
theorem aw4 (b : Nat) : Takes Try.prog 31 15 [.int .u64 1000] b ⟨#[128, 0]⟩ false (.int .u64 0) ⟨#[128, 0]⟩ true :=
  num_none b _ _ (nextNum_not [128, 0] 1 0 rfl (by decide) (.inr (by decide)))
theorem aw5 (b : Nat) : Takes Try.prog 31 15 [.int .u64 6] b ⟨#[7]⟩ false (.int .u64 0) ⟨#[7]⟩ true :=
  num_over b _ _ 7 1 (nextNum_of _ 7 (by decide) _ [] vp_7 rfl) (by decide)
theorem aw6 : Gives Try.prog 9 #[.int .u64 128] (.string ⟨#[128, 1]⟩) := by
  have h := print_calls 128 (by decide)
  unfold printB at h
  rw [vp_128] at h
  exact h
theorem aw7 : Gives Try.prog 9 #[.int .u64 0] (.string ⟨#[0]⟩) := by
  have h := print_calls 0 (by decide)
  unfold printB at h
  rw [vp_0] at h
  exact h
theorem aw8 (w : World) : Calls Try.prog 11 #[.int .i64 (-3)] w fun e w' => e = .returned (.int .u64 5) ∧ w = w' := fold_calls (-3) (by decide) (by decide) w
theorem aw9 (w : World) : Calls Try.prog 13 #[.int .u64 5] w fun e w' => e = .returned (.int .i64 (-3)) ∧ w = w' := open_calls 5 (by decide) w
def great : Int := 18446744073709551615
theorem aw10 (w : World) : Calls Try.prog 11 #[.int .i64 (-9223372036854775808)] w fun e w' => e = .returned (.int .u64 great) ∧ w = w' := fold_calls (-9223372036854775808) (by decide) (by decide) w
theorem aw11 (w : World) : Calls Try.prog 13 #[.int .u64 great] w fun e w' => e = .returned (.int .i64 (-9223372036854775808)) ∧ w = w' := open_calls 18446744073709551615 (by decide) w

theorem aw_0 : (⟨#[0]⟩ : ByteArray).toList = [0] := by rw [ByteArray.toList_eq]
theorem aw_1 : (⟨#[128, 1]⟩ : ByteArray).toList = [128, 1] := by rw [ByteArray.toList_eq]
theorem aw_2 : (⟨#[97, 98]⟩ : ByteArray).toList = [97, 98] := by rw [ByteArray.toList_eq]
theorem aw_3 (b : Nat) (w : World) (h : TapeIn 31 w b ⟨#[88]⟩ false) : Calls Try.prog 21 #[.pointer (some ⟨b, 0, none⟩)] w fun e w' => e = .returned (.bool false) ∧ w = w' := by
  have k := done_calls b _ _ w h
  rw [ByteArray.toList_eq] at k
  exact k

set_option maxHeartbeats 1000000 in
set_option maxRecDepth 100000 in
theorem awake_calls : Gives Try.prog 8 #[] (.bool true) := by
  intro w
  obtain ⟨hb, hB⟩ := start w
  have e0 := aw_0
  have e1 := aw_1
  have e2 := aw_2
  go_enter Try.func8, Try.ntmps8
  go_wp2_with (go_at_call 15; refine (aw1 _).stepB (w0 := w) (B := w.heap.size) (box_tape w _ _ _) (by go_grown) (by go_size) (Nat.le_refl _) ?_; clear hb hB; intro w1 hT1 hb hB _)
  go_wp2_with (go_at_call 17; refine (aw2 _).stepB hT1 hb hB (Nat.le_refl _) ?_; clear hT1 hb hB; intro w2 hT1 hb hB _)
  go_wp2_with (go_at_call 19; refine (aw3 _).stepB hT1 hb hB (Nat.le_refl _) ?_; clear hT1 hb hB; intro w3 hT1 hb hB _)
  go_wp2_with (go_at_call_of 15 (Value.pointer (some ⟨w3.heap.size, 0, none⟩)); refine (aw4 _).stepB (w0 := w) (B := w.heap.size) (box_tape w3 _ _ _) (by go_grown) (by go_size) hB ?_; intro w4 hT2 hb4 hB4 hg4)
  have hT1' := (hT1.alloc (.cells #[.string ⟨#[128, 0]⟩, .bool false] 31)).other hg4 (Nat.ne_of_lt hT1.lt)
  clear hT1 hg4 hb hB
  go_wp2_with (go_at_call_of 15 (Value.pointer (some ⟨w4.heap.size, 0, none⟩)); refine (aw5 _).stepB (w0 := w) (B := w.heap.size) (box_tape w4 _ _ _) (by go_grown) (by go_size) hB4 ?_; intro w5 hT3 hb hB hg5)
  have hT1 := (hT1'.alloc (.cells #[.string ⟨#[7]⟩, .bool false] 31)).other hg5 (Nat.ne_of_lt hT1'.lt)
  have hT2' := (hT2.alloc (.cells #[.string ⟨#[7]⟩, .bool false] 31)).other hg5 (Nat.ne_of_lt hT2.lt)
  clear hT1' hT2 hg5 hb4 hB4
  go_wp2_with (go_at_call_of 9 (Value.int .u64 128); refine aw6.stepB hb hB ?_; clear hb hB; intro w6 hb hB hk)
  have hT1' := hT1.kept hk
  have hT2 := hT2'.kept hk
  have hT3' := hT3.kept hk
  clear hT1 hT2' hT3 hk
  go_wp2_with (go_at_call_of 9 (Value.int .u64 0); refine aw7.stepB hb hB ?_; clear hb hB; intro w7 hb hB hk)
  have hT1 := hT1'.kept hk
  have hT2' := hT2.kept hk
  have hT3 := hT3'.kept hk
  clear hT1' hT2 hT3' hk
  have c1 := hT1.c1
  have c2 := hT2'.c1
  have c3 := hT3.c1
  go_wp2_with (first | (go_at_call 11; (first | (with_reducible refine (aw8 _).mono ?_) | (with_reducible refine (aw10 _).mono ?_)); rintro e w' ⟨rfl, rfl⟩) | (go_at_call 13; (first | (with_reducible refine (aw9 _).mono ?_) | (with_reducible refine (aw11 _).mono ?_)); rintro e w' ⟨rfl, rfl⟩) | (go_at_call 21; refine (aw_3 _ _ hT1).mono ?_; rintro e w' ⟨rfl, rfl⟩))
  go_ret
  exact ⟨rfl, by go_grown⟩
end Go.Proofs.Ytfbcagadghlglaa
