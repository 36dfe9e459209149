/- The walk of the law VaryReads. -/
import Derived.Test.YtfbcagadghlglaaVaryLaws
import Derived.Deep.Cut
import Derived.Deep.CutRange
namespace Go.Proofs.Ytfbcagadghlglaa
open Go Go.RowKit

/-- A list of pairs of numbers lies there. -/
structure PairsAt (w : World) (b off n : Nat) (X Y : Nat → Nat) : Prop where
  lt : b < w.heap.size
  x : ∀ i, i < n → w.cell? ⟨b, off + i * 2, none⟩ = some (.int .u64 (X i))
  y : ∀ i, i < n → w.cell? ⟨b, off + i * 2 + 1, none⟩ = some (.int .u64 (Y i))

theorem TapeIn.drew {T : TypeId} {w : World} {b : Nat} {s : ByteArray} {bad : Bool} (h : TapeIn T w b s bad) : TapeIn T w.drew b s bad := h
theorem Takes.step2 {P : Program} {T T2 : TypeId} {f : FuncId} {more : List Value} {b b2 : Nat} {s s' s2 : ByteArray} {bad bad' bad2 : Bool} {v : Value} (h : Takes P T f more b s bad v s' bad')
    {w0 w : World} {B : Nat} (hT : TapeIn T w b s bad) (hT2 : TapeIn T2 w b2 s2 bad2) (hn : b2 ≠ b) (hb : Below B w0 w) (hB : B ≤ w.heap.size) (hr : B ≤ b) {R : Ending → World → Prop}
    (k : ∀ w', TapeIn T w' b s' bad' → TapeIn T2 w' b2 s2 bad2 → Below B w0 w' → B ≤ w'.heap.size → R (.returned v) w') :
    Calls P f (Value.pointer (some ⟨b, 0, none⟩) :: more).toArray w R :=
  h.stepB hT hb hB hr fun w' a b c d => k w' a (hT2.other d hn) b c

theorem numT_size (s : ByteArray) (bad : Bool) (m : Int) : (numT s bad m).2.1.size ≤ s.size := by
  unfold numT
  cases bad with
  | true => exact Nat.le_refl _
  | false =>
    cases h : nextNum s.data.toList with
    | none => exact Nat.le_refl _
    | some p =>
      obtain ⟨n, k⟩ := p
      simp only [Bool.false_eq_true, if_false]
      split
      · rw [ByteArray.size_extract]; omega
      · exact Nat.le_refl _
theorem textT_size (s : ByteArray) (bad : Bool) (n : Nat) : (textT s bad n).2.1.size ≤ s.size := by
  unfold textT
  split
  · exact Nat.le_refl _
  · split
    · show (s.extract n s.size).size ≤ _; rw [ByteArray.size_extract]; omega
    · exact Nat.le_refl _

theorem TapeIn.drewN {T : TypeId} {w : World} {b : Nat} {s : ByteArray} {bad : Bool} (h : TapeIn T w b s bad) (n : Nat) : TapeIn T (w.drewN n) b s bad := h
theorem below_drewN {B : Nat} {a w : World} (h : Below B a w) (n : Nat) : Below B a (w.drewN n) := ⟨h.os, h.tape, h.output, h.size, h.block⟩
theorem done_quiet (b : Nat) (s : ByteArray) (bad : Bool) (w : World) (n : Nat) (hT : TapeIn 31 w b s bad) :
    Calls Try.prog 21 #[.pointer (some ⟨b, 0, none⟩)] (w.drewN n) fun e w' => e = .returned (.bool (!bad && s.toList.isEmpty)) ∧ ∃ m, w' = w.drewN m :=
  Calls.quiet_of_same ((done_calls b s bad _ (hT.drewN n)).mono fun _ _ ⟨x, y⟩ => ⟨x, y.symm⟩)
theorem ref_done_quiet (b : Nat) (s : ByteArray) (bad : Bool) (w : World) (n : Nat) (hT : TapeIn 33 w b s bad) :
    Calls Try.prog 22 #[.pointer (some ⟨b, 0, none⟩)] (w.drewN n) fun e w' => e = .returned (.bool (!bad && s.toList.isEmpty)) ∧ ∃ m, w' = w.drewN m :=
  Calls.quiet_of_same ((ref_done_calls b s bad _ (hT.drewN n)).mono fun _ _ ⟨x, y⟩ => ⟨x, y.symm⟩)

def Both (f g : FuncId) (more : List Value) (r : ByteArray) (bad : Bool) (v : Value) (r' : ByteArray) (bad' : Bool) : Prop :=
  ∀ b, Takes Try.prog 31 f more b r bad v r' bad' ∧ Takes Try.prog 33 g more b r bad v r' bad'
theorem both_num (r : ByteArray) (bad : Bool) (m : Int) (h : r.size ≤ 300) :
    ∃ v r' bad', r'.size ≤ 300 ∧ Both 15 16 [.int .u64 m] r bad (.int .u64 v) r' bad' :=
  ⟨_, _, _, Nat.le_trans (numT_size r bad m) h, fun b => ⟨num_calls b r bad m, ref_num_calls b r bad m⟩⟩
theorem both_int (r : ByteArray) (bad : Bool) (h : r.size ≤ 300) :
    ∃ v r' bad', r'.size ≤ 300 ∧ Both 17 18 [] r bad (.int .i64 v) r' bad' :=
  ⟨_, _, _, Nat.le_trans (numT_size r bad maxU) h, fun b => ⟨int_calls b r bad, ref_int_calls b r bad⟩⟩
theorem both_text (r : ByteArray) (bad : Bool) (n : Nat) (h : r.size ≤ 300) :
    ∃ v r' bad', r'.size ≤ 300 ∧ Both 19 20 [.int .u64 n] r bad (.string v) r' bad' :=
  ⟨_, _, _, Nat.le_trans (textT_size r bad n) h, fun b => ⟨text_calls b r bad n (by omega), ref_text_calls b r bad n (by omega)⟩⟩

set_option maxHeartbeats 8000000 in
set_option maxRecDepth 100000 in
theorem varyReads_some (s : ByteArray) (b off n cap : Nat) (X Y : Nat → Nat) (w : World) (hs : s.size ≤ 300) (hn : n ≤ 40) (hP : PairsAt w b off n X Y) (hX : ∀ i, i < n → X i < 18446744073709551616) :
    Calls Try.prog 4 #[.string s, .slice (some ⟨b, off, none⟩) n cap] w fun e w' => e = .returned (.bool true) ∧ Below w.heap.size w w' := by
  obtain ⟨hb, hB⟩ := start w
  have HP := Lib.hid hP
  have HX := Lib.hid hX
  clear hP hX
  go_enter Try.func4, Try.ntmps4
  go_wp2
  go_loopw [7] (fun i wr => ∃ (k : Nat) (r : ByteArray) (bad : Bool), k ≤ n ∧ i = .int .i64 k ∧ r.size ≤ 300 ∧ TapeIn 31 wr w.heap.size r bad ∧ TapeIn 33 wr (w.heap.size + 1) r bad ∧ Below w.heap.size w wr) (fun i _ => n - (intOf i).toNat)
  case atStart =>
    refine ⟨0, s, false, Nat.zero_le _, rfl, hs, ?_, ?_, by go_grown⟩
    · exact (box_tape w s false 31).alloc _
    · have := box_tape (w.alloc (.cells #[.string s, .bool false] 31)) s false 33
      simpa using this
  case round =>
    obtain ⟨k, r, bad, hk, rfl, hr, hT1, hT2, hb⟩ := hrel
    have hB : w.heap.size ≤ wr.heap.size := hb.size
    by_cases hlt : k < n
    · have hx := (hb.cell (p := ⟨b, off + k * 2, none⟩) HP.out.lt).trans (HP.out.x k hlt)
      have hy := (hb.cell (p := ⟨b, off + k * 2 + 1, none⟩) HP.out.lt).trans (HP.out.y k hlt)
      have HY := Lib.hid (HP.out.y k hlt)
      have HLT := Lib.hid HP.out.lt
      have hxl := HX.out k hlt
      generalize X k = x at hx hxl
      generalize Y k = y at hy HY
      have hxc : x = 0 ∨ x = 1 ∨ 2 ≤ x := by omega
      clear hxl
      rcases hxc with rfl | rfl | hx2
      · obtain ⟨v, r', bad', hr', hA⟩ := both_num r bad y hr
        have A1 := Lib.hid (hA w.heap.size).1
        have A2 := Lib.hid (hA (w.heap.size + 1)).2
        have H0 := Lib.hid hr'
        clear hA hr hr'
        go_upto_region 11 with fail
        go_cut [65] from 23 to 106 (fun sl wx => sl = .bool false ∧ TapeIn 31 wx w.heap.size r' bad' ∧ TapeIn 33 wx (w.heap.size + 1) r' bad' ∧ Below w.heap.size w wx)
        case first =>
          go_region_with (first | (go_at_call 15; first | (refine Takes.step2 (w0 := w) (B := w.heap.size) A1.out hT1 hT2 (by omega) hb hB (by omega) ?_; clear hT1 hT2 hb hB hy; intro w' hT1 hT2 hb hB; have hy := (hb.cell (p := ⟨b, off + k * 2 + 1, none⟩) HLT.out).trans HY.out) | (refine Takes.step2 (w0 := w) (B := w.heap.size) A1.out hT1.drew hT2.drew (by omega) hb.drew hB (by omega) ?_; clear hT1 hT2 hb hB hy; intro w' hT1 hT2 hb hB; have hy := (hb.cell (p := ⟨b, off + k * 2 + 1, none⟩) HLT.out).trans HY.out)) | (go_at_call 16; first | (refine Takes.step2 (w0 := w) (B := w.heap.size) A2.out hT2 hT1 (by omega) hb hB (by omega) ?_; clear hT1 hT2 hb hB hy; intro w' hT2 hT1 hb hB; have hy := (hb.cell (p := ⟨b, off + k * 2 + 1, none⟩) HLT.out).trans HY.out) | (refine Takes.step2 (w0 := w) (B := w.heap.size) A2.out hT2.drew hT1.drew (by omega) hb.drew hB (by omega) ?_; clear hT1 hT2 hb hB hy; intro w' hT2 hT1 hb hB; have hy := (hb.cell (p := ⟨b, off + k * 2 + 1, none⟩) HLT.out).trans HY.out)))
          all_goals
            go_wp2_with fail
            go_meet
            exact ⟨rfl, hT1, hT2, hb⟩
        case rest =>
          clear hT1 hT2 hb hB hy
          obtain ⟨rfl, hT1, hT2, hb⟩ := hcut
          cases bad'
          all_goals
            have c0 := hT1.c0
            have c1 := hT1.c1
            have d0 := hT2.c0
            have d1 := hT2.c1
            go_wp2_with fail
            go_quiet ((first | (go_at_call 21; exact done_quiet _ _ _ _ _ hT1) | (go_at_call 22; exact ref_done_quiet _ _ _ _ _ hT2)))
            go_wp2
            go_roundw
            case rel => exact ⟨k + 1, r', _, by omega, by go_num, H0.out, hT1.drewN _, hT2.drewN _, below_drewN hb _⟩
            case measure => simp [intOf]; omega
      · obtain ⟨v, r', bad', hr', hA⟩ := both_int r bad hr
        have A1 := Lib.hid (hA w.heap.size).1
        have A2 := Lib.hid (hA (w.heap.size + 1)).2
        have H0 := Lib.hid hr'
        clear hA hr hr'
        have hx1 : wr.cell? ⟨b, off + k * 2, none⟩ = some (.int .u64 1) := hx
        clear hx
        go_upto_region 16 with (first | (go_at_call 17; first | (refine Takes.step2 (w0 := w) (B := w.heap.size) A1.out hT1 hT2 (by omega) hb hB (by omega) ?_; clear hT1 hT2 hb hB hy; intro w' hT1 hT2 hb hB; have hy := (hb.cell (p := ⟨b, off + k * 2 + 1, none⟩) HLT.out).trans HY.out) | (refine Takes.step2 (w0 := w) (B := w.heap.size) A1.out hT1.drew hT2.drew (by omega) hb.drew hB (by omega) ?_; clear hT1 hT2 hb hB hy; intro w' hT1 hT2 hb hB; have hy := (hb.cell (p := ⟨b, off + k * 2 + 1, none⟩) HLT.out).trans HY.out)) | (go_at_call 18; first | (refine Takes.step2 (w0 := w) (B := w.heap.size) A2.out hT2 hT1 (by omega) hb hB (by omega) ?_; clear hT1 hT2 hb hB hy; intro w' hT2 hT1 hb hB; have hy := (hb.cell (p := ⟨b, off + k * 2 + 1, none⟩) HLT.out).trans HY.out) | (refine Takes.step2 (w0 := w) (B := w.heap.size) A2.out hT2.drew hT1.drew (by omega) hb.drew hB (by omega) ?_; clear hT1 hT2 hb hB hy; intro w' hT2 hT1 hb hB; have hy := (hb.cell (p := ⟨b, off + k * 2 + 1, none⟩) HLT.out).trans HY.out)))
        cases bad'
        all_goals
          have c0 := hT1.c0
          have c1 := hT1.c1
          have d0 := hT2.c0
          have d1 := hT2.c1
          go_wp2_with fail
          go_quiet ((first | (go_at_call 21; exact done_quiet _ _ _ _ _ hT1) | (go_at_call 22; exact ref_done_quiet _ _ _ _ _ hT2)))
          go_wp2
          go_roundw
          case rel => exact ⟨k + 1, r', _, by omega, by go_num, H0.out, hT1.drewN _, hT2.drewN _, below_drewN hb _⟩
          case measure => simp [intOf]; omega
      · obtain ⟨v, r', bad', hr', hA⟩ := both_text r bad y hr
        have A1 := Lib.hid (hA w.heap.size).1
        have A2 := Lib.hid (hA (w.heap.size + 1)).2
        have H0 := Lib.hid hr'
        clear hA hr hr'
        have hx0 : ((x : Int) == 0) = false := by rw [beq_eq_false_iff_ne]; omega
        have hx1 : ((x : Int) == 1) = false := by rw [beq_eq_false_iff_ne]; omega
        go_upto_region 8 with fail
        go_cut [48] from 23 to 106 (fun sl wx => sl = .bool false ∧ TapeIn 31 wx w.heap.size r' bad' ∧ TapeIn 33 wx (w.heap.size + 1) r' bad' ∧ Below w.heap.size w wx)
        case first =>
          go_region_with (first | (go_at_call 19; first | (refine Takes.step2 (w0 := w) (B := w.heap.size) A1.out hT1 hT2 (by omega) hb hB (by omega) ?_; clear hT1 hT2 hb hB hy; intro w' hT1 hT2 hb hB; have hy := (hb.cell (p := ⟨b, off + k * 2 + 1, none⟩) HLT.out).trans HY.out) | (refine Takes.step2 (w0 := w) (B := w.heap.size) A1.out hT1.drew hT2.drew (by omega) hb.drew hB (by omega) ?_; clear hT1 hT2 hb hB hy; intro w' hT1 hT2 hb hB; have hy := (hb.cell (p := ⟨b, off + k * 2 + 1, none⟩) HLT.out).trans HY.out)) | (go_at_call 20; first | (refine Takes.step2 (w0 := w) (B := w.heap.size) A2.out hT2 hT1 (by omega) hb hB (by omega) ?_; clear hT1 hT2 hb hB hy; intro w' hT2 hT1 hb hB; have hy := (hb.cell (p := ⟨b, off + k * 2 + 1, none⟩) HLT.out).trans HY.out) | (refine Takes.step2 (w0 := w) (B := w.heap.size) A2.out hT2.drew hT1.drew (by omega) hb.drew hB (by omega) ?_; clear hT1 hT2 hb hB hy; intro w' hT2 hT1 hb hB; have hy := (hb.cell (p := ⟨b, off + k * 2 + 1, none⟩) HLT.out).trans HY.out)))
          all_goals
            go_wp2_with fail
            go_meet
            exact ⟨rfl, hT1, hT2, hb⟩
        case rest =>
          clear hT1 hT2 hb hB hy
          obtain ⟨rfl, hT1, hT2, hb⟩ := hcut
          cases bad'
          all_goals
            have c0 := hT1.c0
            have c1 := hT1.c1
            have d0 := hT2.c0
            have d1 := hT2.c1
            go_wp2_with fail
            go_quiet ((first | (go_at_call 21; exact done_quiet _ _ _ _ _ hT1) | (go_at_call 22; exact ref_done_quiet _ _ _ _ _ hT2)))
            go_wp2
            go_roundw
            case rel => exact ⟨k + 1, r', _, by omega, by go_num, H0.out, hT1.drewN _, hT2.drewN _, below_drewN hb _⟩
            case measure => simp [intOf]; omega
    · go_wp2_with (go_at_call 8; refine awake_calls.step (w0 := w) (B := w.heap.size) hb hB ?_; clear hb hB; intro w' hb hB)
      go_ret
      exact ⟨rfl, by go_grown⟩

end Go.Proofs.Ytfbcagadghlglaa
