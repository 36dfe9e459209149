/- The law TermTells of layer 15. -/
import Derived.Test.YtppmmkmlngmafaaTermAwake
import Derived.Test.YtppmmkmlngmafaaTermLawKit
import Derived.Test.YtppmmkmlngmafaaLawKit
namespace Go.Proofs.Ytppmmkmlngmafaa
open Go Go.RowKit

set_option maxHeartbeats 8000000 in
theorem termTells_calls {w : World} {vt vr vi : Value} {t : Trm} {row : List ByteArray} {to : List Int} (ht : TermIn w vt t) (hr : StrsIn w vr row) (hi : IntsIn w vi to) (hto : ∀ x ∈ to, -9223372036854775808 ≤ x ∧ x ≤ 9223372036854775807) : GivesAt Try.prog 3 #[vt, vr, vi] w (.bool true) := by
  have hmr := hr.len
  have hmi := hi.len
  unfold maxLen at hmr hmi
  have HAW := Lib.hid awake15_calls
  have HT := Lib.hid ht
  have HR := Lib.hid hr
  have HI := Lib.hid hi
  have HTO := Lib.hid hto
  have HG : Hid (∀ W, Below w.heap.size w W → GivesAt Try.prog 8 #[vt, .int .i64 0] W (.bool (greatT 0 t))) := fun W hW => great15_calls t W vt 0 (by decide) (ht.kept hW)
  have HSM : Hid (∀ W, Below w.heap.size w W → Reads Try.prog 9 #[vr] W (.bool (smallS row))) := fun W hW => small15_calls (StrsIn.kept hr hW)
  obtain ⟨A, cap, rfl⟩ := ht.parts
  obtain ⟨Ar, pr, rfl, -⟩ := one_at hr
  obtain ⟨Ai, pi, rfl, -⟩ := one_at hi
  have hb : Below w.heap.size w (w.alloc (.cells #[.int .u8 t.op, .int .i64 t.col, .string t.cell, .slice A t.kids.length cap] 24)) := Below.alloc (.refl w.heap.size w) (Nat.le_refl _) _
  have hB := hb.size
  have HX := Lib.hid (trmbox_lit w 24 t.op t.col t.cell (.slice A t.kids.length cap))
  clear ht hr hi hto
  unfold GivesAt
  cases hg : greatT 0 t with
  | true =>
    rw [hg] at HG
    clear hg
    go_enter Try.func3, Try.ntmps3
    go_wp2_with (first | (go_at_call 8; refine (HG.out _ hb).step (w0 := w) (B := w.heap.size) hb hB ?_; clear hb hB; intro wg hb hB) | (go_at_call 10; refine HAW.out.step (w0 := w) (B := w.heap.size) hb hB ?_; clear hb hB; intro wa hb hB))
    go_ret
    exact ⟨rfl, hb⟩
  | false =>
    have HF := Lib.hid (great_few t 0 hg)
    rw [hg] at HG
    clear hg
    cases hs : smallS row with
    | false =>
      rw [hs] at HSM
      clear hs
      go_enter Try.func3, Try.ntmps3
      go_wp2_with (first | (go_at_call 8; refine (HG.out _ hb).step (w0 := w) (B := w.heap.size) hb hB ?_; clear hb hB; intro wg hb hB) | (go_at_call 9; refine (HSM.out _ hb).step ?_) | (go_at_call 10; refine HAW.out.step (w0 := w) (B := w.heap.size) hb hB ?_; clear hb hB; intro wa hb hB))
      go_ret
      exact ⟨rfl, hb⟩
    | true =>
      rw [hs] at HSM
      clear hs
      by_cases h20 : to.length ≤ 20
      · have d20 : decide ((20 : Int) < (to.length : Int)) = false := decide_eq_false (by omega)
        go_enter Try.func3, Try.ntmps3
        go_wp2_with fail
        refine (HG.out _ hb).stepB (w0 := w) (B := w.heap.size) hb hB ?_
        clear hb hB
        intro wg hb hB hqg
        have HXg := Lib.hid (HX.out.later hqg)
        have HTg := Lib.hid (HT.out.kept hb)
        have HIg := Lib.hid (IntsIn.kept HI.out hb)
        have HB := Lib.hid hb
        obtain ⟨y0, y1, y2, y3, _⟩ := HXg.out.cells
        clear hqg HX
        go_wp2_with (go_at_call 9; refine (HSM.out _ hb).step ?_)
        refine Calls.mono (term_shift_calls HTO.out t HF.out HTg.out HIg.out) ?_
        clear y0 y1 y2 y3 hb hB
        intro e w2 hend
        obtain ⟨A2, c2, rfl, hx2, hq2⟩ := hend.out
        obtain ⟨b, hbb⟩ : ∃ b, (shiftT to t).isSome = b := ⟨_, rfl⟩
        have HBB := Lib.hid hbb
        obtain ⟨x, hx⟩ : ∃ x, resT (shiftT to t) = x := ⟨_, rfl⟩
        have HXX := Lib.hid hx
        rw [hbb]
        rw [hx] at hx2 ⊢
        clear hbb hx hend
        have ha2 := Below.alloc (.refl w2.heap.size w2) (Nat.le_refl _) (.cells #[.int .u8 x.op, .int .i64 x.col, .string x.cell, .slice A2 x.kids.length c2] 24)
        have hq3 := hq2.trans (ha2.mono hq2.size)
        have HX2 := Lib.hid (trmbox_lit w2 24 x.op x.col x.cell (.slice A2 x.kids.length c2))
        have HT2 := Lib.hid (hx2.kept ha2)
        have HXh := Lib.hid (HXg.out.later hq3)
        have HTh := Lib.hid (HTg.out.kept hq3)
        have HIh := Lib.hid (IntsIn.kept HIg.out hq3)
        have HBh := Lib.hid (HB.out.trans (hq3.mono HB.out.size))
        obtain ⟨y0, y1, y2, y3, _⟩ := HXh.out.cells
        clear hx2 hq2 ha2 hq3 HXg HTg HIg HB
        go_wp2_with fail
        clear y0 y1 y2 y3
        generalize w2.alloc _ = w3 at *
        generalize w2.heap.size = O2 at *
        refine Calls.mono (ref_shift_calls HTO.out t HF.out w3 _ _ HTh.out HIh.out) ?_
        intro e w4 hend
        obtain ⟨A4, c4, rfl, hx4, hq4⟩ := (ShiftEnd.any hend).out
        rw [HBB.out]
        rw [HXX.out] at hx4 ⊢
        clear hend HXX HBB
        have ha4 := Below.alloc (.refl w4.heap.size w4) (Nat.le_refl _) (.cells #[.int .u8 x.op, .int .i64 x.col, .string x.cell, .slice A4 x.kids.length c4] 24)
        have hq5 := hq4.trans (ha4.mono hq4.size)
        have HX4 := Lib.hid (trmbox_lit w4 24 x.op x.col x.cell (.slice A4 x.kids.length c4))
        have HT4 := Lib.hid (hx4.kept ha4)
        have HT2i := Lib.hid (HT2.out.kept hq5)
        have HX2i := Lib.hid (HX2.out.later hq5)
        have HXi := Lib.hid (HXh.out.later hq5)
        have HTi := Lib.hid (HTh.out.kept hq5)
        have HBi := Lib.hid (HBh.out.trans (hq5.mono HBh.out.size))
        have HRi := Lib.hid (StrsIn.kept HR.out HBi.out)
        clear hx4 hq4 ha4 hq5 HXh HTh HIh HBh HT2 HX2
        go_wp2_with fail
        generalize w4.alloc _ = w5 at *
        generalize w4.heap.size = O4 at *
        have HE1 : Hid (∀ W, Below w5.heap.size w5 W → GivesAt Try.prog 13 #[.agg #[.int .u8 t.op, .int .i64 t.col, .string t.cell, .slice A t.kids.length cap], .slice Ar row.length pr] W (.string (evalT row t))) := fun W hW => term_eval_calls t (HTi.out.kept hW) (StrsIn.kept HRi.out hW)
        have HE2 : Hid (∀ W, Below w5.heap.size w5 W → GivesAt Try.prog 14 #[.agg #[.int .u8 t.op, .int .i64 t.col, .string t.cell, .slice A t.kids.length cap], .slice Ar row.length pr] W (.string (evalT row t))) := fun W hW => ref_eval_calls t W _ _ (HTi.out.kept hW) (StrsIn.kept HRi.out hW)
        have HZ1 : Hid (∀ W, Below w5.heap.size w5 W → GivesAt Try.prog 15 #[.agg #[.int .u8 t.op, .int .i64 t.col, .string t.cell, .slice A t.kids.length cap]] W (.int .i64 (wrap64 (sizeT t : Nat)))) := fun W hW => term_size_calls t (HTi.out.kept hW)
        have HZ2 : Hid (∀ W, Below w5.heap.size w5 W → GivesAt Try.prog 16 #[.agg #[.int .u8 t.op, .int .i64 t.col, .string t.cell, .slice A t.kids.length cap]] W (.int .i64 (wrap64 (sizeT t : Nat)))) := fun W hW => ref_size_calls t W _ (HTi.out.kept hW)
        have HSA : Hid (∀ W, Below w5.heap.size w5 W → GivesAt Try.prog 17 #[.agg #[.int .u8 x.op, .int .i64 x.col, .string x.cell, .slice A2 x.kids.length c2], .agg #[.int .u8 x.op, .int .i64 x.col, .string x.cell, .slice A4 x.kids.length c4]] W (.bool true)) := fun W hW => ref_same15_calls x W _ _ (HT2i.out.kept hW) (HT4.out.kept hW)
        generalize evalT row t = ev at *
        generalize wrap64 (sizeT t : Nat) = sz at *
        refine wp_region_calm (offC w5) (fun _ => false) (fun _ => false) anyE false (by kernel_rfl) (by kernel_rfl) (by kernel_rfl) (by kernel_rfl) (by intro m hm; revert hm; simp; try omega) (offC_stable _) (offC_start _) ?_
        refine calm_fixA rfl rfl ?_
        apply Exists.intro
        refine ⟨fun a wz hc hk hf K hK => ?_, ?_⟩
        · have hb : Below w5.heap.size w5 wz := hc rfl
          clear hk hf hc
          go_simp
          refine Calls.mono (HAW.out wz) ?_
          rintro e w1 ⟨rfl, hq⟩
          exact hK _ _ hq rfl
        refine calm_fixA rfl rfl ?_
        apply Exists.intro
        refine ⟨fun a wz hc hk hf K hK => ?_, ?_⟩
        · have h36 := held_isV hf 0 rfl (by kernel_rfl)
          clear hk hf hc
          go_simp
          exact hK _ _ (Below.refl _ _) rfl
        refine calm_fixA rfl rfl ?_
        apply Exists.intro
        refine ⟨fun a wz hc hk hf K hK => ?_, ?_⟩
        · have hb : Below w5.heap.size w5 wz := hc rfl
          have h3 := hk 3 (by kernel_rfl)
          have h37 := held_isV hf 0 rfl (by kernel_rfl)
          clear hk hf hc
          obtain ⟨y0, y1, y2, y3, _⟩ := (HXi.out.later hb).cells
          go_simp
          exact hK _ _ (Below.refl _ _) rfl
        refine calm_fixA rfl rfl ?_
        apply Exists.intro
        refine ⟨fun a wz hc hk hf K hK => ?_, ?_⟩
        · have h1 := hk 1 (by kernel_rfl)
          have h37 := held_isV hf 1 rfl (by kernel_rfl)
          clear hk hf hc
          go_simp
          exact hK _ _ (Below.refl _ _) rfl
        refine calm_fixA rfl rfl ?_
        apply Exists.intro
        refine ⟨fun a wz hc hk hf K hK => ?_, ?_⟩
        · have hb : Below w5.heap.size w5 wz := hc rfl
          have h38 := held_isV hf 1 rfl (by kernel_rfl)
          have h39 := held_isV hf 0 rfl (by kernel_rfl)
          have h37 := held_isV hf 2 rfl (by kernel_rfl)
          clear hk hf hc
          go_simp
          refine Calls.mono (HE1.out wz hb) ?_
          rintro e w1 ⟨rfl, hq⟩
          exact hK _ _ hq rfl
        refine calm_fixA rfl rfl ?_
        apply Exists.intro
        refine ⟨fun a wz hc hk hf K hK => ?_, ?_⟩
        · have hb : Below w5.heap.size w5 wz := hc rfl
          have h3 := hk 3 (by kernel_rfl)
          have h37 := held_isV hf 3 rfl (by kernel_rfl)
          clear hk hf hc
          obtain ⟨y0, y1, y2, y3, _⟩ := (HXi.out.later hb).cells
          go_simp
          exact hK _ _ (Below.refl _ _) rfl
        refine calm_fixA rfl rfl ?_
        apply Exists.intro
        refine ⟨fun a wz hc hk hf K hK => ?_, ?_⟩
        · have h1 := hk 1 (by kernel_rfl)
          have h37 := held_isV hf 4 rfl (by kernel_rfl)
          clear hk hf hc
          go_simp
          exact hK _ _ (Below.refl _ _) rfl
        refine calm_fixA rfl rfl ?_
        apply Exists.intro
        refine ⟨fun a wz hc hk hf K hK => ?_, ?_⟩
        · have hb : Below w5.heap.size w5 wz := hc rfl
          have h41 := held_isV hf 1 rfl (by kernel_rfl)
          have h42 := held_isV hf 0 rfl (by kernel_rfl)
          have h37 := held_isV hf 5 rfl (by kernel_rfl)
          clear hk hf hc
          go_simp
          refine Calls.mono (HE2.out wz hb) ?_
          rintro e w1 ⟨rfl, hq⟩
          exact hK _ _ hq rfl
        refine calm_fixA rfl rfl ?_
        apply Exists.intro
        refine ⟨fun a wz hc hk hf K hK => ?_, ?_⟩
        · have h40 := held_isV hf 3 rfl (by kernel_rfl)
          have h43 := held_isV hf 0 rfl (by kernel_rfl)
          have h37 := held_isV hf 6 rfl (by kernel_rfl)
          clear hk hf hc
          go_simp
          exact hK _ _ (Below.refl _ _) rfl
        refine calm_fixA rfl rfl ?_
        apply Exists.intro
        refine ⟨fun a wz hc hk hf K hK => ?_, ?_⟩
        · have h37 := held_isV hf 7 rfl (by kernel_rfl)
          have h44 := held_isV hf 0 rfl (by kernel_rfl)
          clear hk hf hc
          go_simp
          exact hK _ _ (Below.refl _ _) rfl
        refine calm_fixA rfl rfl ?_
        apply Exists.intro
        refine ⟨fun a wz hc hk hf K hK => ?_, ?_⟩
        · have h45 := held_isV hf 0 rfl (by kernel_rfl)
          clear hk hf hc
          go_simp
          exact hK _ _ (Below.refl _ _) rfl
        refine calm_fixA rfl rfl ?_
        apply Exists.intro
        refine ⟨fun a wz hc hk hf K hK => ?_, ?_⟩
        · have hb : Below w5.heap.size w5 wz := hc rfl
          have h3 := hk 3 (by kernel_rfl)
          have h46 := held_isV hf 0 rfl (by kernel_rfl)
          clear hk hf hc
          obtain ⟨y0, y1, y2, y3, _⟩ := (HXi.out.later hb).cells
          go_simp
          exact hK _ _ (Below.refl _ _) rfl
        refine calm_fixA rfl rfl ?_
        apply Exists.intro
        refine ⟨fun a wz hc hk hf K hK => ?_, ?_⟩
        · have hb : Below w5.heap.size w5 wz := hc rfl
          have h47 := held_isV hf 0 rfl (by kernel_rfl)
          have h46 := held_isV hf 1 rfl (by kernel_rfl)
          clear hk hf hc
          go_simp
          refine Calls.mono (HZ1.out wz hb) ?_
          rintro e w1 ⟨rfl, hq⟩
          exact hK _ _ hq rfl
        refine calm_fixA rfl rfl ?_
        apply Exists.intro
        refine ⟨fun a wz hc hk hf K hK => ?_, ?_⟩
        · have hb : Below w5.heap.size w5 wz := hc rfl
          have h3 := hk 3 (by kernel_rfl)
          have h46 := held_isV hf 2 rfl (by kernel_rfl)
          clear hk hf hc
          obtain ⟨y0, y1, y2, y3, _⟩ := (HXi.out.later hb).cells
          go_simp
          exact hK _ _ (Below.refl _ _) rfl
        refine calm_fixA rfl rfl ?_
        apply Exists.intro
        refine ⟨fun a wz hc hk hf K hK => ?_, ?_⟩
        · have hb : Below w5.heap.size w5 wz := hc rfl
          have h49 := held_isV hf 0 rfl (by kernel_rfl)
          have h46 := held_isV hf 3 rfl (by kernel_rfl)
          clear hk hf hc
          go_simp
          refine Calls.mono (HZ2.out wz hb) ?_
          rintro e w1 ⟨rfl, hq⟩
          exact hK _ _ hq rfl
        refine calm_fixA rfl rfl ?_
        apply Exists.intro
        refine ⟨fun a wz hc hk hf K hK => ?_, ?_⟩
        · have h48 := held_isV hf 2 rfl (by kernel_rfl)
          have h50 := held_isV hf 0 rfl (by kernel_rfl)
          have h46 := held_isV hf 4 rfl (by kernel_rfl)
          clear hk hf hc
          go_simp
          exact hK _ _ (Below.refl _ _) rfl
        refine calm_fixA rfl rfl ?_
        apply Exists.intro
        refine ⟨fun a wz hc hk hf K hK => ?_, ?_⟩
        · have h46 := held_isV hf 5 rfl (by kernel_rfl)
          have h51 := held_isV hf 0 rfl (by kernel_rfl)
          clear hk hf hc
          go_simp
          exact hK _ _ (Below.refl _ _) rfl
        refine calm_fixA rfl rfl ?_
        apply Exists.intro
        refine ⟨fun a wz hc hk hf K hK => ?_, ?_⟩
        · have h52 := held_isV hf 0 rfl (by kernel_rfl)
          clear hk hf hc
          go_simp
          exact hK _ _ (Below.refl _ _) rfl
        refine calm_fixA rfl rfl ?_
        apply Exists.intro
        refine ⟨fun a wz hc hk hf K hK => ?_, ?_⟩
        · have hb : Below w5.heap.size w5 wz := hc rfl
          have h7 := hk 7 (by kernel_rfl)
          have h53 := held_isV hf 0 rfl (by kernel_rfl)
          clear hk hf hc
          obtain ⟨y0, y1, y2, y3, _⟩ := (HX2i.out.later hb).cells
          go_simp
          exact hK _ _ (Below.refl _ _) rfl
        refine calm_fixA rfl rfl ?_
        apply Exists.intro
        refine ⟨fun a wz hc hk hf K hK => ?_, ?_⟩
        · have hb : Below w5.heap.size w5 wz := hc rfl
          have h9 := hk 9 (by kernel_rfl)
          have h53 := held_isV hf 1 rfl (by kernel_rfl)
          clear hk hf hc
          obtain ⟨y0, y1, y2, y3, _⟩ := (HX4.out.later hb).cells
          go_simp
          exact hK _ _ (Below.refl _ _) rfl
        refine calm_fixA rfl rfl ?_
        apply Exists.intro
        refine ⟨fun a wz hc hk hf K hK => ?_, ?_⟩
        · have hb : Below w5.heap.size w5 wz := hc rfl
          have h54 := held_isV hf 1 rfl (by kernel_rfl)
          have h55 := held_isV hf 0 rfl (by kernel_rfl)
          have h53 := held_isV hf 2 rfl (by kernel_rfl)
          clear hk hf hc
          go_simp
          refine Calls.mono (HSA.out wz hb) ?_
          rintro e w1 ⟨rfl, hq⟩
          exact hK _ _ hq rfl
        refine calm_fixA rfl rfl ?_
        apply Exists.intro
        refine ⟨fun a wz hc hk hf K hK => ?_, ?_⟩
        · have h53 := held_isV hf 3 rfl (by kernel_rfl)
          have h56 := held_isV hf 0 rfl (by kernel_rfl)
          clear hk hf hc
          go_simp
          exact hK _ _ (Below.refl _ _) rfl
        refine calm_fixA rfl rfl ?_
        apply Exists.intro
        refine ⟨fun a wz hc hk hf K hK => ?_, ?_⟩
        · have h57 := held_isV hf 0 rfl (by kernel_rfl)
          clear hk hf hc
          go_simp
          exact hK _ _ (Below.refl _ _) rfl
        refine calm_fixA rfl rfl ?_
        apply Exists.intro
        refine ⟨fun a wz hc hk hf K hK => ?_, ?_⟩
        · have h8 := hk 8 (by kernel_rfl)
          have h58 := held_isV hf 0 rfl (by kernel_rfl)
          clear hk hf hc
          go_simp
          exact hK _ _ (Below.refl _ _) rfl
        refine calm_fixA rfl rfl ?_
        apply Exists.intro
        refine ⟨fun a wz hc hk hf K hK => ?_, ?_⟩
        · have h10 := hk 10 (by kernel_rfl)
          have h58 := held_isV hf 1 rfl (by kernel_rfl)
          clear hk hf hc
          go_simp
          exact hK _ _ (Below.refl _ _) rfl
        refine calm_fixA rfl rfl ?_
        apply Exists.intro
        refine ⟨fun a wz hc hk hf K hK => ?_, ?_⟩
        · have h59 := held_isV hf 1 rfl (by kernel_rfl)
          have h60 := held_isV hf 0 rfl (by kernel_rfl)
          have h58 := held_isV hf 2 rfl (by kernel_rfl)
          clear hk hf hc
          go_simp
          exact hK _ _ (Below.refl _ _) rfl
        refine calm_fixA rfl rfl ?_
        apply Exists.intro
        refine ⟨fun a wz hc hk hf K hK => ?_, ?_⟩
        · have h58 := held_isV hf 3 rfl (by kernel_rfl)
          have h61 := held_isV hf 0 rfl (by kernel_rfl)
          clear hk hf hc
          go_simp
          exact hK _ _ (Below.refl _ _) rfl
        refine calm_fixA rfl rfl ?_
        apply Exists.intro
        refine ⟨fun a wz hc hk hf K hK => ?_, ?_⟩
        · have h62 := held_isV hf 0 rfl (by kernel_rfl)
          clear hk hf hc
          go_simp
          exact hK _ _ (Below.refl _ _) rfl
        refine calm_nil ?_
        refine ⟨keeps_none, ?_⟩
        intro wE hc
        simp only [lexL, calmEnd]
        rintro _ rfl _ rfl _ rfl _ rfl _ rfl _ rfl _ rfl _ rfl _ rfl _ rfl _ rfl _ rfl _ rfl _ rfl _ rfl _ rfl _ rfl _ rfl _ rfl _ rfl _ rfl _ rfl _ rfl _ rfl _ rfl _ rfl _ rfl _ rfl
        have hb := HBi.out.trans (Below.mono (show Below w5.heap.size w5 wE from hc rfl) HBi.out.size)
        clear hc
        simp only [Act.put, List.setIfInBounds_toArray, List.set_cons_zero, List.set_cons_succ]
        go_wp2
        go_ret
        exact ⟨rfl, hb⟩
      · have d20 : decide ((20 : Int) < (to.length : Int)) = true := decide_eq_true (by omega)
        go_enter Try.func3, Try.ntmps3
        go_wp2_with (first | (go_at_call 8; refine (HG.out _ hb).step (w0 := w) (B := w.heap.size) hb hB ?_; clear hb hB; intro wg hb hB) | (go_at_call 9; refine (HSM.out _ hb).step ?_) | (go_at_call 10; refine HAW.out.step (w0 := w) (B := w.heap.size) hb hB ?_; clear hb hB; intro wa hb hB))
        go_ret
        exact ⟨rfl, hb⟩
end Go.Proofs.Ytppmmkmlngmafaa
