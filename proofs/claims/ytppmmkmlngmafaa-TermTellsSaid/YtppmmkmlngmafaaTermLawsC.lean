/- The law TermLogic of layer 15. -/
import Derived.Test.YtppmmkmlngmafaaTermAwake
import Derived.Test.YtppmmkmlngmafaaTermLawKit
import Derived.Test.YtppmmkmlngmafaaLawKit
namespace Go.Proofs.Ytppmmkmlngmafaa
open Go Go.RowKit

set_option maxHeartbeats 16000000 in
set_option maxRecDepth 100000 in
theorem termLogic_calls {w : World} {va vb vr : Value} {ta tb : Trm} {row : List ByteArray} (ha : TermIn w va ta) (hbt : TermIn w vb tb) (hr : StrsIn w vr row) : GivesAt Try.prog 4 #[va, vb, vr] w (.bool true) := by
  have hmr := hr.len
  unfold maxLen at hmr
  have HAW := Lib.hid awake15_calls
  have HGA : Hid (∀ W, Below w.heap.size w W → GivesAt Try.prog 8 #[va, .int .i64 1] W (.bool (greatT 1 ta))) := fun W hW => great15_calls ta W va 1 (by decide) (ha.kept hW)
  have HGB : Hid (∀ W, Below w.heap.size w W → GivesAt Try.prog 8 #[vb, .int .i64 1] W (.bool (greatT 1 tb))) := fun W hW => great15_calls tb W vb 1 (by decide) (hbt.kept hW)
  have HSM : Hid (∀ W, Below w.heap.size w W → Reads Try.prog 9 #[vr] W (.bool (smallS row))) := fun W hW => small15_calls (StrsIn.kept hr hW)
  obtain ⟨A, cap, rfl⟩ := ha.parts
  obtain ⟨D, dap, rfl⟩ := hbt.parts
  obtain ⟨Ar, pr, rfl, -⟩ := one_at hr
  have ha1 := Below.alloc (.refl w.heap.size w) (Nat.le_refl _) (.cells #[.int .u8 ta.op, .int .i64 ta.col, .string ta.cell, .slice A ta.kids.length cap] 24)
  have ha2 := Below.alloc (.refl (w.alloc (.cells #[.int .u8 ta.op, .int .i64 ta.col, .string ta.cell, .slice A ta.kids.length cap] 24)).heap.size (w.alloc (.cells #[.int .u8 ta.op, .int .i64 ta.col, .string ta.cell, .slice A ta.kids.length cap] 24))) (Nat.le_refl _) (.cells #[.int .u8 tb.op, .int .i64 tb.col, .string tb.cell, .slice D tb.kids.length dap] 24)
  have hb := ha1.trans (ha2.mono ha1.size)
  have hB := hb.size
  have HXA := Lib.hid ((trmbox_lit w 24 ta.op ta.col ta.cell (.slice A ta.kids.length cap)).later ha2)
  have hy := trmbox_lit (w.alloc (.cells #[.int .u8 ta.op, .int .i64 ta.col, .string ta.cell, .slice A ta.kids.length cap] 24)) 24 tb.op tb.col tb.cell (.slice D tb.kids.length dap)
  rw [show (w.alloc (.cells #[.int .u8 ta.op, .int .i64 ta.col, .string ta.cell, .slice A ta.kids.length cap] 24)).heap.size = w.heap.size + 1 by simp] at hy
  have HXB := Lib.hid hy
  have HTA := Lib.hid (ha.kept hb)
  have HTB := Lib.hid (hbt.kept hb)
  have HRW := Lib.hid (StrsIn.kept hr hb)
  clear ha hbt hr ha1 ha2 hy
  unfold GivesAt
  cases hga : greatT 1 ta with
  | true =>
    rw [hga] at HGA
    clear hga
    go_enter Try.func4, Try.ntmps4
    go_wp2_with (first | (go_at_call 8; refine (HGA.out _ hb).step (w0 := w) (B := w.heap.size) hb hB ?_; clear hb hB; intro wg hb hB) | (go_at_call 10; refine HAW.out.step (w0 := w) (B := w.heap.size) hb hB ?_; clear hb hB; intro wa hb hB))
    go_ret
    exact ⟨rfl, hb⟩
  | false =>
    rw [hga] at HGA
    clear hga
    cases hgb : greatT 1 tb with
    | true =>
      rw [hgb] at HGB
      clear hgb
      go_enter Try.func4, Try.ntmps4
      go_wp2_with fail
      refine (HGA.out _ hb).stepB (w0 := w) (B := w.heap.size) hb hB ?_
      clear hb hB
      intro wg hb hB hqg
      obtain ⟨z0, z1, z2, z3, _⟩ := (HXB.out.later hqg).cells
      clear hqg
      go_wp2_with (first | (go_at_call 8; refine (HGB.out _ hb).step (w0 := w) (B := w.heap.size) hb hB ?_; clear hb hB; intro wg hb hB) | (go_at_call 10; refine HAW.out.step (w0 := w) (B := w.heap.size) hb hB ?_; clear hb hB; intro wa hb hB))
      go_ret
      exact ⟨rfl, hb⟩
    | false =>
      rw [hgb] at HGB
      clear hgb
      cases hs : smallS row with
      | false =>
        rw [hs] at HSM
        clear hs
        go_enter Try.func4, Try.ntmps4
        go_wp2_with fail
        refine (HGA.out _ hb).stepB (w0 := w) (B := w.heap.size) hb hB ?_
        clear hb hB
        intro wg hb hB hqg
        obtain ⟨z0, z1, z2, z3, _⟩ := (HXB.out.later hqg).cells
        clear hqg
        go_wp2_with (first | (go_at_call 8; refine (HGB.out _ hb).step (w0 := w) (B := w.heap.size) hb hB ?_; clear hb hB; intro wg hb hB) | (go_at_call 9; refine (HSM.out _ hb).step ?_) | (go_at_call 10; refine HAW.out.step (w0 := w) (B := w.heap.size) hb hB ?_; clear hb hB; intro wa hb hB))
        go_ret
        exact ⟨rfl, hb⟩
      | true =>
        rw [hs] at HSM
        clear hs
        obtain ⟨yv, hyv⟩ : ∃ y, evalT row ta = y := ⟨_, rfl⟩
        obtain ⟨zv, hzv⟩ : ∃ y, evalT row tb = y := ⟨_, rfl⟩
        have HYV := Lib.hid hyv
        obtain ⟨xv, hxv⟩ : ∃ x, notC (notC yv) = x := ⟨_, rfl⟩
        have HXV : Hid (evalT row (oneT15 33 (oneT15 33 ta)) = xv) := Lib.hid (by rw [eval_not, eval_not, hyv, hxv])
        have HXY : Hid (yv = noC ∨ yv = yesC ∨ yv = nayC → xv = yv) := fun h => by rw [← hxv]; exact not_not h
        obtain ⟨bv, hbv⟩ : ∃ x, bothC yv zv = x := ⟨_, rfl⟩
        obtain ⟨ev, hev⟩ : ∃ x, notC (bothC (notC yv) (notC zv)) = x := ⟨_, rfl⟩
        have HBV : Hid (evalT row (twoT15 38 ta tb) = bv) := Lib.hid (by rw [eval_and, hyv, hzv, hbv])
        have HEV : Hid (evalT row (twoT15 124 ta tb) = ev) := Lib.hid (by rw [eval_or, hyv, hzv, hev])
        have HOV : Hid (evalT row (oneT15 33 (twoT15 38 (oneT15 33 ta) (oneT15 33 tb))) = ev) := Lib.hid (by rw [eval_not, eval_and, eval_not, eval_not, hyv, hzv, hev])
        have HBS : Hid (evalT row (twoT15 38 tb ta) = bv) := Lib.hid (by rw [eval_and, hyv, hzv, both_swap, hbv])
        have HES : Hid (evalT row (twoT15 124 tb ta) = ev) := Lib.hid (by rw [eval_or, hyv, hzv, both_swap, hev])
        have HQV : Hid (evalT row (oneT15 63 ta) = boolCell yv.toList.isEmpty) := Lib.hid (by rw [eval_is, hyv])
        rcases str_ne_cases bv (boolCell true) with ⟨j1, j2, j3⟩ | ⟨j1, j2, j3⟩
        case' inl =>
          have jx : ev = boolCell true := by rw [← hev]; exact both_is_yes (hbv.trans j1)
          clear hyv hzv hxv hbv hev j2 j3
          subst j1
          subst jx
        case' inr => clear hyv hzv hxv hbv hev j1
        all_goals
          go_enter Try.func4, Try.ntmps4
          go_wp2_with fail
          refine (HGA.out _ hb).stepB (w0 := w) (B := w.heap.size) hb hB ?_
          clear hb hB
          intro wg hb hB hq
          replace HXA := Lib.hid (HXA.out.later hq)
          replace HXB := Lib.hid (HXB.out.later hq)
          replace HTA := Lib.hid (HTA.out.kept hq)
          replace HTB := Lib.hid (HTB.out.kept hq)
          replace HRW := Lib.hid (StrsIn.kept HRW.out hq)
          clear hq
          obtain ⟨z0, z1, z2, z3, _⟩ := HXB.out.cells
          go_wp2_with fail
          clear z0 z1 z2 z3
          refine (HGB.out _ hb).stepB (w0 := w) (B := w.heap.size) hb hB ?_
          clear hb hB
          intro w2 hb hB hq
          replace HXA := Lib.hid (HXA.out.later hq)
          replace HXB := Lib.hid (HXB.out.later hq)
          replace HTA := Lib.hid (HTA.out.kept hq)
          replace HTB := Lib.hid (HTB.out.kept hq)
          replace HRW := Lib.hid (StrsIn.kept HRW.out hq)
          clear hq
          clear hB HGA HGB
          go_wp2_with (go_at_call 9; refine (HSM.out _ hb).step ?_)
          go_wp2_with fail
          have HB := Lib.hid hb
          clear hb
          refine wp_region_calm (offC w2) (fun _ => false) (fun _ => false) anyE false (by kernel_rfl) (by kernel_rfl) (by kernel_rfl) (by kernel_rfl) (by intro m hm; revert hm; simp; try omega) (offC_stable _) (offC_start _) ?_
          refine calm_fixA rfl rfl ?_
          apply Exists.intro
          refine ⟨fun a wz hc hk hf K hK => ?_, ?_⟩
          · have hb : Below w2.heap.size w2 wz := hc rfl
            have h3 := hk 3 (by kernel_rfl)
            clear hk hf hc
            obtain ⟨y0, y1, y2, y3, _⟩ := (HXA.out.later hb).cells
            go_simp
            exact hK _ _ (Below.refl _ _) rfl
          refine calm_varA (TrmP (oneT15 33 (ta)) 33 0 ⟨#[]⟩ 1) rfl rfl TrmP.kept (fun a wz hc hk hf K hK => ?_) ?_
          · have hb : Below w2.heap.size w2 wz := hc rfl
            have h24 := held_isV hf 0 rfl (by kernel_rfl)
            clear hk hf hc
            go_simp
            refine Calls.mono (one15_calls 33 (by decide) (by decide) (HTA.out.kept hb)) ?_
            intro e w1 hend
            obtain ⟨A1, c1, e1, ht, hq⟩ := TermEnd.out hend
            have e2 : e = .returned (.agg #[.int .u8 33, .int .i64 0, .string ⟨#[]⟩, .slice A1 1 c1]) := e1
            subst e2
            exact hK _ _ hq (fun _ => ⟨A1, c1, rfl, ht⟩)
          refine calm_varA (TrmP (oneT15 33 (oneT15 33 ta)) 33 0 ⟨#[]⟩ 1) rfl rfl TrmP.kept (fun a wz hc hk hf K hK => ?_) ?_
          · have hb : Below w2.heap.size w2 wz := hc rfl
            obtain ⟨v25, h25, S25⟩ := held_at hf 0 rfl (by kernel_rfl)
            clear hk hf hc
            obtain ⟨A25, p25, rfl, s25⟩ := S25 rfl
            go_simp
            refine Calls.mono (one15_calls 33 (by decide) (by decide) s25) ?_
            intro e w1 hend
            obtain ⟨A1, c1, e1, ht, hq⟩ := TermEnd.out hend
            have e2 : e = .returned (.agg #[.int .u8 33, .int .i64 0, .string ⟨#[]⟩, .slice A1 1 c1]) := e1
            subst e2
            exact hK _ _ hq (fun _ => ⟨A1, c1, rfl, ht⟩)
          refine calm_fixA rfl rfl ?_
          apply Exists.intro
          refine ⟨fun a wz hc hk hf K hK => ?_, ?_⟩
          · have h2 := hk 2 (by kernel_rfl)
            clear hk hf hc
            go_simp
            exact hK _ _ (Below.refl _ _) rfl
          refine calm_fixA rfl rfl ?_
          apply Exists.intro
          refine ⟨fun a wz hc hk hf K hK => ?_, ?_⟩
          · have hb : Below w2.heap.size w2 wz := hc rfl
            obtain ⟨v26, h26, S26⟩ := held_at hf 1 rfl (by kernel_rfl)
            have h27 := held_isV hf 0 rfl (by kernel_rfl)
            clear hk hf hc
            obtain ⟨A26, p26, rfl, s26⟩ := S26 rfl
            have hs := term_eval_calls (oneT15 33 (oneT15 33 ta)) s26 (StrsIn.kept HRW.out hb)
            rw [HXV.out] at hs
            go_simp
            refine Calls.mono (hs) ?_
            rintro e w1 ⟨rfl, hq⟩
            exact hK _ _ hq rfl
          refine calm_fixA rfl rfl ?_
          apply Exists.intro
          refine ⟨fun a wz hc hk hf K hK => ?_, ?_⟩
          · have hb : Below w2.heap.size w2 wz := hc rfl
            have h3 := hk 3 (by kernel_rfl)
            clear hk hf hc
            obtain ⟨y0, y1, y2, y3, _⟩ := (HXA.out.later hb).cells
            go_simp
            exact hK _ _ (Below.refl _ _) rfl
          refine calm_fixA rfl rfl ?_
          apply Exists.intro
          refine ⟨fun a wz hc hk hf K hK => ?_, ?_⟩
          · have h2 := hk 2 (by kernel_rfl)
            clear hk hf hc
            go_simp
            exact hK _ _ (Below.refl _ _) rfl
          refine calm_fixA rfl rfl ?_
          apply Exists.intro
          refine ⟨fun a wz hc hk hf K hK => ?_, ?_⟩
          · have hb : Below w2.heap.size w2 wz := hc rfl
            have h29 := held_isV hf 1 rfl (by kernel_rfl)
            have h30 := held_isV hf 0 rfl (by kernel_rfl)
            clear hk hf hc
            have hs := term_eval_calls (ta) (HTA.out.kept hb) (StrsIn.kept HRW.out hb)
            rw [HYV.out] at hs
            go_simp
            refine Calls.mono (hs) ?_
            rintro e w1 ⟨rfl, hq⟩
            exact hK _ _ hq rfl
          refine calm_fixA rfl rfl ?_
          apply Exists.intro
          refine ⟨fun a wz hc hk hf K hK => ?_, ?_⟩
          · have h28 := held_isV hf 3 rfl (by kernel_rfl)
            clear hk hf hc
            go_simp
            exact hK _ _ (Below.refl _ _) rfl
          refine calm_fixA rfl rfl ?_
          apply Exists.intro
          refine ⟨fun a wz hc hk hf K hK => ?_, ?_⟩
          · have h31 := held_isV hf 1 rfl (by kernel_rfl)
            clear hk hf hc
            go_simp
            exact hK _ _ (Below.refl _ _) rfl
          refine calm_nil ?_
          refine ⟨keeps_none, ?_⟩
          intro w3 hc
          simp only [lexL, calmEnd]
          rintro _ rfl v25 S25 v26 S26 _ rfl _ rfl _ rfl _ rfl _ rfl _ rfl _ rfl
          have hq : Below w2.heap.size w2 w3 := hc rfl
          have hb := HB.out
          clear hc S25 S26
          simp only [Act.put, List.setIfInBounds_toArray, List.set_cons_zero, List.set_cons_succ]
          replace HXA := Lib.hid (HXA.out.later hq)
          replace HXB := Lib.hid (HXB.out.later hq)
          replace HTA := Lib.hid (HTA.out.kept hq)
          replace HTB := Lib.hid (HTB.out.kept hq)
          replace HRW := Lib.hid (StrsIn.kept HRW.out hq)
          replace hb := hb.trans (hq.mono hb.size)
          clear hq
          rcases str_ne_cases xv yv with ⟨h1, h2, h3⟩ | ⟨h1, h2, h3⟩
          · clear h1
            go_wp2_with fail
            have HB := Lib.hid hb
            clear hb
            refine wp_region_calm (offC w3) (fun _ => false) (fun _ => false) anyE false (by kernel_rfl) (by kernel_rfl) (by kernel_rfl) (by kernel_rfl) (by intro m hm; revert hm; simp; try omega) (offC_stable _) (offC_start _) ?_
            refine calm_fixA rfl rfl ?_
            apply Exists.intro
            refine ⟨fun a wz hc hk hf K hK => ?_, ?_⟩
            · have hb : Below w3.heap.size w3 wz := hc rfl
              have h3 := hk 3 (by kernel_rfl)
              clear hk hf hc
              obtain ⟨y0, y1, y2, y3, _⟩ := (HXA.out.later hb).cells
              go_simp
              exact hK _ _ (Below.refl _ _) rfl
            refine calm_fixA rfl rfl ?_
            apply Exists.intro
            refine ⟨fun a wz hc hk hf K hK => ?_, ?_⟩
            · have hb : Below w3.heap.size w3 wz := hc rfl
              have h4 := hk 4 (by kernel_rfl)
              clear hk hf hc
              obtain ⟨y0, y1, y2, y3, _⟩ := (HXB.out.later hb).cells
              go_simp
              exact hK _ _ (Below.refl _ _) rfl
            refine calm_varA (TrmP (twoT15 38 (ta) (tb)) 38 0 ⟨#[]⟩ 2) rfl rfl TrmP.kept (fun a wz hc hk hf K hK => ?_) ?_
            · have hb : Below w3.heap.size w3 wz := hc rfl
              have h49 := held_isV hf 1 rfl (by kernel_rfl)
              have h50 := held_isV hf 0 rfl (by kernel_rfl)
              clear hk hf hc
              go_simp
              refine Calls.mono (two15_calls 38 (by decide) (by decide) (HTA.out.kept hb) (HTB.out.kept hb)) ?_
              intro e w1 hend
              obtain ⟨A1, c1, e1, ht, hq⟩ := TermEnd.out hend
              have e2 : e = .returned (.agg #[.int .u8 38, .int .i64 0, .string ⟨#[]⟩, .slice A1 2 c1]) := e1
              subst e2
              exact hK _ _ hq (fun _ => ⟨A1, c1, rfl, ht⟩)
            refine calm_fixA rfl rfl ?_
            apply Exists.intro
            refine ⟨fun a wz hc hk hf K hK => ?_, ?_⟩
            · have h2 := hk 2 (by kernel_rfl)
              clear hk hf hc
              go_simp
              exact hK _ _ (Below.refl _ _) rfl
            refine calm_fixA rfl rfl ?_
            apply Exists.intro
            refine ⟨fun a wz hc hk hf K hK => ?_, ?_⟩
            · have hb : Below w3.heap.size w3 wz := hc rfl
              obtain ⟨v51, h51, S51⟩ := held_at hf 1 rfl (by kernel_rfl)
              have h52 := held_isV hf 0 rfl (by kernel_rfl)
              clear hk hf hc
              obtain ⟨A51, p51, rfl, s51⟩ := S51 rfl
              have hs := term_eval_calls (twoT15 38 ta tb) s51 (StrsIn.kept HRW.out hb)
              rw [HBV.out] at hs
              go_simp
              refine Calls.mono (hs) ?_
              rintro e w1 ⟨rfl, hq⟩
              exact hK _ _ hq rfl
            refine calm_fixA rfl rfl ?_
            apply Exists.intro
            refine ⟨fun a wz hc hk hf K hK => ?_, ?_⟩
            · have hb : Below w3.heap.size w3 wz := hc rfl
              have h3 := hk 3 (by kernel_rfl)
              clear hk hf hc
              obtain ⟨y0, y1, y2, y3, _⟩ := (HXA.out.later hb).cells
              go_simp
              exact hK _ _ (Below.refl _ _) rfl
            refine calm_fixA rfl rfl ?_
            apply Exists.intro
            refine ⟨fun a wz hc hk hf K hK => ?_, ?_⟩
            · have hb : Below w3.heap.size w3 wz := hc rfl
              have h4 := hk 4 (by kernel_rfl)
              clear hk hf hc
              obtain ⟨y0, y1, y2, y3, _⟩ := (HXB.out.later hb).cells
              go_simp
              exact hK _ _ (Below.refl _ _) rfl
            refine calm_varA (TrmP (twoT15 124 (ta) (tb)) 124 0 ⟨#[]⟩ 2) rfl rfl TrmP.kept (fun a wz hc hk hf K hK => ?_) ?_
            · have hb : Below w3.heap.size w3 wz := hc rfl
              have h54 := held_isV hf 1 rfl (by kernel_rfl)
              have h55 := held_isV hf 0 rfl (by kernel_rfl)
              clear hk hf hc
              go_simp
              refine Calls.mono (two15_calls 124 (by decide) (by decide) (HTA.out.kept hb) (HTB.out.kept hb)) ?_
              intro e w1 hend
              obtain ⟨A1, c1, e1, ht, hq⟩ := TermEnd.out hend
              have e2 : e = .returned (.agg #[.int .u8 124, .int .i64 0, .string ⟨#[]⟩, .slice A1 2 c1]) := e1
              subst e2
              exact hK _ _ hq (fun _ => ⟨A1, c1, rfl, ht⟩)
            refine calm_fixA rfl rfl ?_
            apply Exists.intro
            refine ⟨fun a wz hc hk hf K hK => ?_, ?_⟩
            · have h2 := hk 2 (by kernel_rfl)
              clear hk hf hc
              go_simp
              exact hK _ _ (Below.refl _ _) rfl
            refine calm_fixA rfl rfl ?_
            apply Exists.intro
            refine ⟨fun a wz hc hk hf K hK => ?_, ?_⟩
            · have hb : Below w3.heap.size w3 wz := hc rfl
              obtain ⟨v56, h56, S56⟩ := held_at hf 1 rfl (by kernel_rfl)
              have h57 := held_isV hf 0 rfl (by kernel_rfl)
              clear hk hf hc
              obtain ⟨A56, p56, rfl, s56⟩ := S56 rfl
              have hs := term_eval_calls (twoT15 124 ta tb) s56 (StrsIn.kept HRW.out hb)
              rw [HEV.out] at hs
              go_simp
              refine Calls.mono (hs) ?_
              rintro e w1 ⟨rfl, hq⟩
              exact hK _ _ hq rfl
            refine calm_fixA rfl rfl ?_
            apply Exists.intro
            refine ⟨fun a wz hc hk hf K hK => ?_, ?_⟩
            · have h53 := held_isV hf 5 rfl (by kernel_rfl)
              clear hk hf hc
              go_simp
              exact hK _ _ (Below.refl _ _) rfl
            refine calm_fixA rfl rfl ?_
            apply Exists.intro
            refine ⟨fun a wz hc hk hf K hK => ?_, ?_⟩
            · have h58 := held_isV hf 1 rfl (by kernel_rfl)
              clear hk hf hc
              go_simp
              exact hK _ _ (Below.refl _ _) rfl
            refine calm_nil ?_
            refine ⟨keeps_none, ?_⟩
            intro w6 hc
            simp only [lexL, calmEnd]
            rintro _ rfl _ rfl v51 S51 _ rfl _ rfl _ rfl _ rfl v56 S56 _ rfl _ rfl _ rfl _ rfl
            have hq : Below w3.heap.size w3 w6 := hc rfl
            have hb := HB.out
            clear hc S51 S56
            simp only [Act.put, List.setIfInBounds_toArray, List.set_cons_zero, List.set_cons_succ]
            replace HXA := Lib.hid (HXA.out.later hq)
            replace HXB := Lib.hid (HXB.out.later hq)
            replace HTA := Lib.hid (HTA.out.kept hq)
            replace HTB := Lib.hid (HTB.out.kept hq)
            replace HRW := Lib.hid (StrsIn.kept HRW.out hq)
            replace hb := hb.trans (hq.mono hb.size)
            clear hq
            go_wp2_with fail
            have HB := Lib.hid hb
            clear hb
            refine wp_region_calm (offC w6) (fun _ => false) (fun _ => false) anyE false (by kernel_rfl) (by kernel_rfl) (by kernel_rfl) (by kernel_rfl) (by intro m hm; revert hm; simp; try omega) (offC_stable _) (offC_start _) ?_
            refine calm_fixA rfl rfl ?_
            apply Exists.intro
            refine ⟨fun a wz hc hk hf K hK => ?_, ?_⟩
            · have hb : Below w6.heap.size w6 wz := hc rfl
              have h3 := hk 3 (by kernel_rfl)
              clear hk hf hc
              obtain ⟨y0, y1, y2, y3, _⟩ := (HXA.out.later hb).cells
              go_simp
              exact hK _ _ (Below.refl _ _) rfl
            refine calm_varA (TrmP (oneT15 33 (ta)) 33 0 ⟨#[]⟩ 1) rfl rfl TrmP.kept (fun a wz hc hk hf K hK => ?_) ?_
            · have hb : Below w6.heap.size w6 wz := hc rfl
              have h59 := held_isV hf 0 rfl (by kernel_rfl)
              clear hk hf hc
              go_simp
              refine Calls.mono (one15_calls 33 (by decide) (by decide) (HTA.out.kept hb)) ?_
              intro e w1 hend
              obtain ⟨A1, c1, e1, ht, hq⟩ := TermEnd.out hend
              have e2 : e = .returned (.agg #[.int .u8 33, .int .i64 0, .string ⟨#[]⟩, .slice A1 1 c1]) := e1
              subst e2
              exact hK _ _ hq (fun _ => ⟨A1, c1, rfl, ht⟩)
            refine calm_fixA rfl rfl ?_
            apply Exists.intro
            refine ⟨fun a wz hc hk hf K hK => ?_, ?_⟩
            · have hb : Below w6.heap.size w6 wz := hc rfl
              have h4 := hk 4 (by kernel_rfl)
              clear hk hf hc
              obtain ⟨y0, y1, y2, y3, _⟩ := (HXB.out.later hb).cells
              go_simp
              exact hK _ _ (Below.refl _ _) rfl
            refine calm_varA (TrmP (oneT15 33 (tb)) 33 0 ⟨#[]⟩ 1) rfl rfl TrmP.kept (fun a wz hc hk hf K hK => ?_) ?_
            · have hb : Below w6.heap.size w6 wz := hc rfl
              have h61 := held_isV hf 0 rfl (by kernel_rfl)
              clear hk hf hc
              go_simp
              refine Calls.mono (one15_calls 33 (by decide) (by decide) (HTB.out.kept hb)) ?_
              intro e w1 hend
              obtain ⟨A1, c1, e1, ht, hq⟩ := TermEnd.out hend
              have e2 : e = .returned (.agg #[.int .u8 33, .int .i64 0, .string ⟨#[]⟩, .slice A1 1 c1]) := e1
              subst e2
              exact hK _ _ hq (fun _ => ⟨A1, c1, rfl, ht⟩)
            refine calm_varA (TrmP (twoT15 38 (oneT15 33 ta) (oneT15 33 tb)) 38 0 ⟨#[]⟩ 2) rfl rfl TrmP.kept (fun a wz hc hk hf K hK => ?_) ?_
            · have hb : Below w6.heap.size w6 wz := hc rfl
              obtain ⟨v60, h60, S60⟩ := held_at hf 2 rfl (by kernel_rfl)
              obtain ⟨v62, h62, S62⟩ := held_at hf 0 rfl (by kernel_rfl)
              clear hk hf hc
              obtain ⟨A60, p60, rfl, s60⟩ := S60 rfl
              obtain ⟨A62, p62, rfl, s62⟩ := S62 rfl
              go_simp
              refine Calls.mono (two15_calls 38 (by decide) (by decide) s60 s62) ?_
              intro e w1 hend
              obtain ⟨A1, c1, e1, ht, hq⟩ := TermEnd.out hend
              have e2 : e = .returned (.agg #[.int .u8 38, .int .i64 0, .string ⟨#[]⟩, .slice A1 2 c1]) := e1
              subst e2
              exact hK _ _ hq (fun _ => ⟨A1, c1, rfl, ht⟩)
            refine calm_varA (TrmP (oneT15 33 (twoT15 38 (oneT15 33 ta) (oneT15 33 tb))) 33 0 ⟨#[]⟩ 1) rfl rfl TrmP.kept (fun a wz hc hk hf K hK => ?_) ?_
            · have hb : Below w6.heap.size w6 wz := hc rfl
              obtain ⟨v63, h63, S63⟩ := held_at hf 0 rfl (by kernel_rfl)
              clear hk hf hc
              obtain ⟨A63, p63, rfl, s63⟩ := S63 rfl
              go_simp
              refine Calls.mono (one15_calls 33 (by decide) (by decide) s63) ?_
              intro e w1 hend
              obtain ⟨A1, c1, e1, ht, hq⟩ := TermEnd.out hend
              have e2 : e = .returned (.agg #[.int .u8 33, .int .i64 0, .string ⟨#[]⟩, .slice A1 1 c1]) := e1
              subst e2
              exact hK _ _ hq (fun _ => ⟨A1, c1, rfl, ht⟩)
            refine calm_fixA rfl rfl ?_
            apply Exists.intro
            refine ⟨fun a wz hc hk hf K hK => ?_, ?_⟩
            · have h2 := hk 2 (by kernel_rfl)
              clear hk hf hc
              go_simp
              exact hK _ _ (Below.refl _ _) rfl
            refine calm_fixA rfl rfl ?_
            apply Exists.intro
            refine ⟨fun a wz hc hk hf K hK => ?_, ?_⟩
            · have hb : Below w6.heap.size w6 wz := hc rfl
              obtain ⟨v64, h64, S64⟩ := held_at hf 1 rfl (by kernel_rfl)
              have h65 := held_isV hf 0 rfl (by kernel_rfl)
              clear hk hf hc
              obtain ⟨A64, p64, rfl, s64⟩ := S64 rfl
              have hs := term_eval_calls (oneT15 33 (twoT15 38 (oneT15 33 ta) (oneT15 33 tb))) s64 (StrsIn.kept HRW.out hb)
              rw [HOV.out] at hs
              go_simp
              refine Calls.mono (hs) ?_
              rintro e w1 ⟨rfl, hq⟩
              exact hK _ _ hq rfl
            refine calm_fixA rfl rfl ?_
            apply Exists.intro
            refine ⟨fun a wz hc hk hf K hK => ?_, ?_⟩
            · have h66 := held_isV hf 0 rfl (by kernel_rfl)
              clear hk hf hc
              go_simp
              exact hK _ _ (Below.refl _ _) rfl
            refine calm_nil ?_
            refine ⟨keeps_none, ?_⟩
            intro w7 hc
            simp only [lexL, calmEnd]
            rintro _ rfl v60 S60 _ rfl v62 S62 v63 S63 v64 S64 _ rfl _ rfl _ rfl
            have hq : Below w6.heap.size w6 w7 := hc rfl
            have hb := HB.out
            clear hc S60 S62 S63 S64
            simp only [Act.put, List.setIfInBounds_toArray, List.set_cons_zero, List.set_cons_succ]
            replace HXA := Lib.hid (HXA.out.later hq)
            replace HXB := Lib.hid (HXB.out.later hq)
            replace HTA := Lib.hid (HTA.out.kept hq)
            replace HTB := Lib.hid (HTB.out.kept hq)
            replace HRW := Lib.hid (StrsIn.kept HRW.out hq)
            replace hb := hb.trans (hq.mono hb.size)
            clear hq
            go_wp2_with fail
            refine Calls.mono (HAW.out w7) ?_
            rintro e w8 ⟨rfl, hq⟩
            replace HXA := Lib.hid (HXA.out.later hq)
            replace HXB := Lib.hid (HXB.out.later hq)
            replace HTA := Lib.hid (HTA.out.kept hq)
            replace HTB := Lib.hid (HTB.out.kept hq)
            replace HRW := Lib.hid (StrsIn.kept HRW.out hq)
            replace hb := hb.trans (hq.mono hb.size)
            clear hq
            obtain ⟨y0, y1, y2, y3, _⟩ := HXA.out.cells
            obtain ⟨z0, z1, z2, z3, _⟩ := HXB.out.cells
            go_wp2_with fail
            clear y0 y1 y2 y3
            clear z0 z1 z2 z3
            refine Calls.mono (two15_calls 38 (by decide) (by decide) HTB.out HTA.out) ?_
            intro e w9 hend
            obtain ⟨A9, c9, e1, ht9, hq⟩ := TermEnd.out hend
            have e2 : e = .returned (.agg #[.int .u8 38, .int .i64 0, .string ⟨#[]⟩, .slice A9 2 c9]) := e1
            subst e2
            have HT9 := Lib.hid ht9
            clear hend e1 ht9
            replace HXA := Lib.hid (HXA.out.later hq)
            replace HXB := Lib.hid (HXB.out.later hq)
            replace HTA := Lib.hid (HTA.out.kept hq)
            replace HTB := Lib.hid (HTB.out.kept hq)
            replace HRW := Lib.hid (StrsIn.kept HRW.out hq)
            replace hb := hb.trans (hq.mono hb.size)
            clear hq
            go_wp2_with fail
            have hs := term_eval_calls _ HT9.out HRW.out
            rw [HBS.out] at hs
            clear HT9
            refine Calls.mono (hs) ?_
            rintro e w10 ⟨rfl, hq⟩
            clear hs
            replace HXA := Lib.hid (HXA.out.later hq)
            replace HXB := Lib.hid (HXB.out.later hq)
            replace HTA := Lib.hid (HTA.out.kept hq)
            replace HTB := Lib.hid (HTB.out.kept hq)
            replace HRW := Lib.hid (StrsIn.kept HRW.out hq)
            replace hb := hb.trans (hq.mono hb.size)
            clear hq
            obtain ⟨y0, y1, y2, y3, _⟩ := HXA.out.cells
            obtain ⟨z0, z1, z2, z3, _⟩ := HXB.out.cells
            go_wp2_with fail
            clear y0 y1 y2 y3
            clear z0 z1 z2 z3
            refine Calls.mono (two15_calls 124 (by decide) (by decide) HTB.out HTA.out) ?_
            intro e w11 hend
            obtain ⟨A9, c9, e1, ht9, hq⟩ := TermEnd.out hend
            have e2 : e = .returned (.agg #[.int .u8 124, .int .i64 0, .string ⟨#[]⟩, .slice A9 2 c9]) := e1
            subst e2
            have HT9 := Lib.hid ht9
            clear hend e1 ht9
            replace HXA := Lib.hid (HXA.out.later hq)
            replace HXB := Lib.hid (HXB.out.later hq)
            replace HTA := Lib.hid (HTA.out.kept hq)
            replace HTB := Lib.hid (HTB.out.kept hq)
            replace HRW := Lib.hid (StrsIn.kept HRW.out hq)
            replace hb := hb.trans (hq.mono hb.size)
            clear hq
            go_wp2_with fail
            have hs := term_eval_calls _ HT9.out HRW.out
            rw [HES.out] at hs
            clear HT9
            refine Calls.mono (hs) ?_
            rintro e w12 ⟨rfl, hq⟩
            clear hs
            replace HXA := Lib.hid (HXA.out.later hq)
            replace HXB := Lib.hid (HXB.out.later hq)
            replace HTA := Lib.hid (HTA.out.kept hq)
            replace HTB := Lib.hid (HTB.out.kept hq)
            replace HRW := Lib.hid (StrsIn.kept HRW.out hq)
            replace hb := hb.trans (hq.mono hb.size)
            clear hq
            go_wp2_with fail
            refine Calls.mono (bool_calls _ w12) ?_
            rintro e w13 ⟨rfl, hq⟩
            replace HXA := Lib.hid (HXA.out.later hq)
            replace HXB := Lib.hid (HXB.out.later hq)
            replace HTA := Lib.hid (HTA.out.kept hq)
            replace HTB := Lib.hid (HTB.out.kept hq)
            replace HRW := Lib.hid (StrsIn.kept HRW.out hq)
            replace hb := hb.trans (hq.mono hb.size)
            clear hq
            obtain ⟨y0, y1, y2, y3, _⟩ := HXA.out.cells
            go_wp2_with fail
            clear y0 y1 y2 y3
            refine Calls.mono (one15_calls 63 (by decide) (by decide) HTA.out) ?_
            intro e w14 hend
            obtain ⟨A9, c9, e1, ht9, hq⟩ := TermEnd.out hend
            have e2 : e = .returned (.agg #[.int .u8 63, .int .i64 0, .string ⟨#[]⟩, .slice A9 1 c9]) := e1
            subst e2
            have HT9 := Lib.hid ht9
            clear hend e1 ht9
            replace HXA := Lib.hid (HXA.out.later hq)
            replace HXB := Lib.hid (HXB.out.later hq)
            replace HTA := Lib.hid (HTA.out.kept hq)
            replace HTB := Lib.hid (HTB.out.kept hq)
            replace HRW := Lib.hid (StrsIn.kept HRW.out hq)
            replace hb := hb.trans (hq.mono hb.size)
            clear hq
            go_wp2_with fail
            have hs := term_eval_calls _ HT9.out HRW.out
            rw [HQV.out] at hs
            clear HT9
            refine Calls.mono (hs) ?_
            rintro e w15 ⟨rfl, hq⟩
            clear hs
            replace HXA := Lib.hid (HXA.out.later hq)
            replace HXB := Lib.hid (HXB.out.later hq)
            replace HTA := Lib.hid (HTA.out.kept hq)
            replace HTB := Lib.hid (HTB.out.kept hq)
            replace HRW := Lib.hid (StrsIn.kept HRW.out hq)
            replace hb := hb.trans (hq.mono hb.size)
            clear hq
            go_wp2_with fail
            refine Calls.mono (bool_calls _ w15) ?_
            rintro e w16 ⟨rfl, hq⟩
            replace HXA := Lib.hid (HXA.out.later hq)
            replace HXB := Lib.hid (HXB.out.later hq)
            replace HTA := Lib.hid (HTA.out.kept hq)
            replace HTB := Lib.hid (HTB.out.kept hq)
            replace HRW := Lib.hid (StrsIn.kept HRW.out hq)
            replace hb := hb.trans (hq.mono hb.size)
            clear hq
            go_wp2
            go_ret
            exact ⟨rfl, hb⟩
          · have hn : ¬ (yv = noC ∨ yv = yesC ∨ yv = nayC) := fun h => h1 (HXY.out h)
            have k1 : yv.toList.isEmpty = false := by
              rcases no_cases yv with ⟨h, _, _⟩ | ⟨_, h, _⟩
              · exact absurd (.inl h) hn
              · exact h
            have k2 : (yv.toList == (boolCell true).toList) = false := by
              rcases str_ne_cases yv (boolCell true) with ⟨h, _, _⟩ | ⟨_, h, _⟩
              · exact absurd (.inr (.inl h)) hn
              · exact h
            have k3 : (yv.toList == (boolCell false).toList) = false := by
              rcases str_ne_cases yv (boolCell false) with ⟨h, _, _⟩ | ⟨_, h, _⟩
              · exact absurd (.inr (.inr h)) hn
              · exact h
            clear hn h1
            go_wp2_with fail
            refine Calls.mono (bool_calls _ w3) ?_
            rintro e w4 ⟨rfl, hq⟩
            replace HXA := Lib.hid (HXA.out.later hq)
            replace HXB := Lib.hid (HXB.out.later hq)
            replace HTA := Lib.hid (HTA.out.kept hq)
            replace HTB := Lib.hid (HTB.out.kept hq)
            replace HRW := Lib.hid (StrsIn.kept HRW.out hq)
            replace hb := hb.trans (hq.mono hb.size)
            clear hq
            go_wp2_with fail
            refine Calls.mono (bool_calls _ w4) ?_
            rintro e w5 ⟨rfl, hq⟩
            replace HXA := Lib.hid (HXA.out.later hq)
            replace HXB := Lib.hid (HXB.out.later hq)
            replace HTA := Lib.hid (HTA.out.kept hq)
            replace HTB := Lib.hid (HTB.out.kept hq)
            replace HRW := Lib.hid (StrsIn.kept HRW.out hq)
            replace hb := hb.trans (hq.mono hb.size)
            clear hq
            go_wp2_with fail
            have HB := Lib.hid hb
            clear hb
            refine wp_region_calm (offC w5) (fun _ => false) (fun _ => false) anyE false (by kernel_rfl) (by kernel_rfl) (by kernel_rfl) (by kernel_rfl) (by intro m hm; revert hm; simp; try omega) (offC_stable _) (offC_start _) ?_
            refine calm_fixA rfl rfl ?_
            apply Exists.intro
            refine ⟨fun a wz hc hk hf K hK => ?_, ?_⟩
            · have hb : Below w5.heap.size w5 wz := hc rfl
              have h3 := hk 3 (by kernel_rfl)
              clear hk hf hc
              obtain ⟨y0, y1, y2, y3, _⟩ := (HXA.out.later hb).cells
              go_simp
              exact hK _ _ (Below.refl _ _) rfl
            refine calm_fixA rfl rfl ?_
            apply Exists.intro
            refine ⟨fun a wz hc hk hf K hK => ?_, ?_⟩
            · have hb : Below w5.heap.size w5 wz := hc rfl
              have h4 := hk 4 (by kernel_rfl)
              clear hk hf hc
              obtain ⟨y0, y1, y2, y3, _⟩ := (HXB.out.later hb).cells
              go_simp
              exact hK _ _ (Below.refl _ _) rfl
            refine calm_varA (TrmP (twoT15 38 (ta) (tb)) 38 0 ⟨#[]⟩ 2) rfl rfl TrmP.kept (fun a wz hc hk hf K hK => ?_) ?_
            · have hb : Below w5.heap.size w5 wz := hc rfl
              have h49 := held_isV hf 1 rfl (by kernel_rfl)
              have h50 := held_isV hf 0 rfl (by kernel_rfl)
              clear hk hf hc
              go_simp
              refine Calls.mono (two15_calls 38 (by decide) (by decide) (HTA.out.kept hb) (HTB.out.kept hb)) ?_
              intro e w1 hend
              obtain ⟨A1, c1, e1, ht, hq⟩ := TermEnd.out hend
              have e2 : e = .returned (.agg #[.int .u8 38, .int .i64 0, .string ⟨#[]⟩, .slice A1 2 c1]) := e1
              subst e2
              exact hK _ _ hq (fun _ => ⟨A1, c1, rfl, ht⟩)
            refine calm_fixA rfl rfl ?_
            apply Exists.intro
            refine ⟨fun a wz hc hk hf K hK => ?_, ?_⟩
            · have h2 := hk 2 (by kernel_rfl)
              clear hk hf hc
              go_simp
              exact hK _ _ (Below.refl _ _) rfl
            refine calm_fixA rfl rfl ?_
            apply Exists.intro
            refine ⟨fun a wz hc hk hf K hK => ?_, ?_⟩
            · have hb : Below w5.heap.size w5 wz := hc rfl
              obtain ⟨v51, h51, S51⟩ := held_at hf 1 rfl (by kernel_rfl)
              have h52 := held_isV hf 0 rfl (by kernel_rfl)
              clear hk hf hc
              obtain ⟨A51, p51, rfl, s51⟩ := S51 rfl
              have hs := term_eval_calls (twoT15 38 ta tb) s51 (StrsIn.kept HRW.out hb)
              rw [HBV.out] at hs
              go_simp
              refine Calls.mono (hs) ?_
              rintro e w1 ⟨rfl, hq⟩
              exact hK _ _ hq rfl
            refine calm_fixA rfl rfl ?_
            apply Exists.intro
            refine ⟨fun a wz hc hk hf K hK => ?_, ?_⟩
            · have hb : Below w5.heap.size w5 wz := hc rfl
              have h3 := hk 3 (by kernel_rfl)
              clear hk hf hc
              obtain ⟨y0, y1, y2, y3, _⟩ := (HXA.out.later hb).cells
              go_simp
              exact hK _ _ (Below.refl _ _) rfl
            refine calm_fixA rfl rfl ?_
            apply Exists.intro
            refine ⟨fun a wz hc hk hf K hK => ?_, ?_⟩
            · have hb : Below w5.heap.size w5 wz := hc rfl
              have h4 := hk 4 (by kernel_rfl)
              clear hk hf hc
              obtain ⟨y0, y1, y2, y3, _⟩ := (HXB.out.later hb).cells
              go_simp
              exact hK _ _ (Below.refl _ _) rfl
            refine calm_varA (TrmP (twoT15 124 (ta) (tb)) 124 0 ⟨#[]⟩ 2) rfl rfl TrmP.kept (fun a wz hc hk hf K hK => ?_) ?_
            · have hb : Below w5.heap.size w5 wz := hc rfl
              have h54 := held_isV hf 1 rfl (by kernel_rfl)
              have h55 := held_isV hf 0 rfl (by kernel_rfl)
              clear hk hf hc
              go_simp
              refine Calls.mono (two15_calls 124 (by decide) (by decide) (HTA.out.kept hb) (HTB.out.kept hb)) ?_
              intro e w1 hend
              obtain ⟨A1, c1, e1, ht, hq⟩ := TermEnd.out hend
              have e2 : e = .returned (.agg #[.int .u8 124, .int .i64 0, .string ⟨#[]⟩, .slice A1 2 c1]) := e1
              subst e2
              exact hK _ _ hq (fun _ => ⟨A1, c1, rfl, ht⟩)
            refine calm_fixA rfl rfl ?_
            apply Exists.intro
            refine ⟨fun a wz hc hk hf K hK => ?_, ?_⟩
            · have h2 := hk 2 (by kernel_rfl)
              clear hk hf hc
              go_simp
              exact hK _ _ (Below.refl _ _) rfl
            refine calm_fixA rfl rfl ?_
            apply Exists.intro
            refine ⟨fun a wz hc hk hf K hK => ?_, ?_⟩
            · have hb : Below w5.heap.size w5 wz := hc rfl
              obtain ⟨v56, h56, S56⟩ := held_at hf 1 rfl (by kernel_rfl)
              have h57 := held_isV hf 0 rfl (by kernel_rfl)
              clear hk hf hc
              obtain ⟨A56, p56, rfl, s56⟩ := S56 rfl
              have hs := term_eval_calls (twoT15 124 ta tb) s56 (StrsIn.kept HRW.out hb)
              rw [HEV.out] at hs
              go_simp
              refine Calls.mono (hs) ?_
              rintro e w1 ⟨rfl, hq⟩
              exact hK _ _ hq rfl
            refine calm_fixA rfl rfl ?_
            apply Exists.intro
            refine ⟨fun a wz hc hk hf K hK => ?_, ?_⟩
            · have h53 := held_isV hf 5 rfl (by kernel_rfl)
              clear hk hf hc
              go_simp
              exact hK _ _ (Below.refl _ _) rfl
            refine calm_fixA rfl rfl ?_
            apply Exists.intro
            refine ⟨fun a wz hc hk hf K hK => ?_, ?_⟩
            · have h58 := held_isV hf 1 rfl (by kernel_rfl)
              clear hk hf hc
              go_simp
              exact hK _ _ (Below.refl _ _) rfl
            refine calm_nil ?_
            refine ⟨keeps_none, ?_⟩
            intro w6 hc
            simp only [lexL, calmEnd]
            rintro _ rfl _ rfl v51 S51 _ rfl _ rfl _ rfl _ rfl v56 S56 _ rfl _ rfl _ rfl _ rfl
            have hq : Below w5.heap.size w5 w6 := hc rfl
            have hb := HB.out
            clear hc S51 S56
            simp only [Act.put, List.setIfInBounds_toArray, List.set_cons_zero, List.set_cons_succ]
            replace HXA := Lib.hid (HXA.out.later hq)
            replace HXB := Lib.hid (HXB.out.later hq)
            replace HTA := Lib.hid (HTA.out.kept hq)
            replace HTB := Lib.hid (HTB.out.kept hq)
            replace HRW := Lib.hid (StrsIn.kept HRW.out hq)
            replace hb := hb.trans (hq.mono hb.size)
            clear hq
            go_wp2_with fail
            have HB := Lib.hid hb
            clear hb
            refine wp_region_calm (offC w6) (fun _ => false) (fun _ => false) anyE false (by kernel_rfl) (by kernel_rfl) (by kernel_rfl) (by kernel_rfl) (by intro m hm; revert hm; simp; try omega) (offC_stable _) (offC_start _) ?_
            refine calm_fixA rfl rfl ?_
            apply Exists.intro
            refine ⟨fun a wz hc hk hf K hK => ?_, ?_⟩
            · have hb : Below w6.heap.size w6 wz := hc rfl
              have h3 := hk 3 (by kernel_rfl)
              clear hk hf hc
              obtain ⟨y0, y1, y2, y3, _⟩ := (HXA.out.later hb).cells
              go_simp
              exact hK _ _ (Below.refl _ _) rfl
            refine calm_varA (TrmP (oneT15 33 (ta)) 33 0 ⟨#[]⟩ 1) rfl rfl TrmP.kept (fun a wz hc hk hf K hK => ?_) ?_
            · have hb : Below w6.heap.size w6 wz := hc rfl
              have h59 := held_isV hf 0 rfl (by kernel_rfl)
              clear hk hf hc
              go_simp
              refine Calls.mono (one15_calls 33 (by decide) (by decide) (HTA.out.kept hb)) ?_
              intro e w1 hend
              obtain ⟨A1, c1, e1, ht, hq⟩ := TermEnd.out hend
              have e2 : e = .returned (.agg #[.int .u8 33, .int .i64 0, .string ⟨#[]⟩, .slice A1 1 c1]) := e1
              subst e2
              exact hK _ _ hq (fun _ => ⟨A1, c1, rfl, ht⟩)
            refine calm_fixA rfl rfl ?_
            apply Exists.intro
            refine ⟨fun a wz hc hk hf K hK => ?_, ?_⟩
            · have hb : Below w6.heap.size w6 wz := hc rfl
              have h4 := hk 4 (by kernel_rfl)
              clear hk hf hc
              obtain ⟨y0, y1, y2, y3, _⟩ := (HXB.out.later hb).cells
              go_simp
              exact hK _ _ (Below.refl _ _) rfl
            refine calm_varA (TrmP (oneT15 33 (tb)) 33 0 ⟨#[]⟩ 1) rfl rfl TrmP.kept (fun a wz hc hk hf K hK => ?_) ?_
            · have hb : Below w6.heap.size w6 wz := hc rfl
              have h61 := held_isV hf 0 rfl (by kernel_rfl)
              clear hk hf hc
              go_simp
              refine Calls.mono (one15_calls 33 (by decide) (by decide) (HTB.out.kept hb)) ?_
              intro e w1 hend
              obtain ⟨A1, c1, e1, ht, hq⟩ := TermEnd.out hend
              have e2 : e = .returned (.agg #[.int .u8 33, .int .i64 0, .string ⟨#[]⟩, .slice A1 1 c1]) := e1
              subst e2
              exact hK _ _ hq (fun _ => ⟨A1, c1, rfl, ht⟩)
            refine calm_varA (TrmP (twoT15 38 (oneT15 33 ta) (oneT15 33 tb)) 38 0 ⟨#[]⟩ 2) rfl rfl TrmP.kept (fun a wz hc hk hf K hK => ?_) ?_
            · have hb : Below w6.heap.size w6 wz := hc rfl
              obtain ⟨v60, h60, S60⟩ := held_at hf 2 rfl (by kernel_rfl)
              obtain ⟨v62, h62, S62⟩ := held_at hf 0 rfl (by kernel_rfl)
              clear hk hf hc
              obtain ⟨A60, p60, rfl, s60⟩ := S60 rfl
              obtain ⟨A62, p62, rfl, s62⟩ := S62 rfl
              go_simp
              refine Calls.mono (two15_calls 38 (by decide) (by decide) s60 s62) ?_
              intro e w1 hend
              obtain ⟨A1, c1, e1, ht, hq⟩ := TermEnd.out hend
              have e2 : e = .returned (.agg #[.int .u8 38, .int .i64 0, .string ⟨#[]⟩, .slice A1 2 c1]) := e1
              subst e2
              exact hK _ _ hq (fun _ => ⟨A1, c1, rfl, ht⟩)
            refine calm_varA (TrmP (oneT15 33 (twoT15 38 (oneT15 33 ta) (oneT15 33 tb))) 33 0 ⟨#[]⟩ 1) rfl rfl TrmP.kept (fun a wz hc hk hf K hK => ?_) ?_
            · have hb : Below w6.heap.size w6 wz := hc rfl
              obtain ⟨v63, h63, S63⟩ := held_at hf 0 rfl (by kernel_rfl)
              clear hk hf hc
              obtain ⟨A63, p63, rfl, s63⟩ := S63 rfl
              go_simp
              refine Calls.mono (one15_calls 33 (by decide) (by decide) s63) ?_
              intro e w1 hend
              obtain ⟨A1, c1, e1, ht, hq⟩ := TermEnd.out hend
              have e2 : e = .returned (.agg #[.int .u8 33, .int .i64 0, .string ⟨#[]⟩, .slice A1 1 c1]) := e1
              subst e2
              exact hK _ _ hq (fun _ => ⟨A1, c1, rfl, ht⟩)
            refine calm_fixA rfl rfl ?_
            apply Exists.intro
            refine ⟨fun a wz hc hk hf K hK => ?_, ?_⟩
            · have h2 := hk 2 (by kernel_rfl)
              clear hk hf hc
              go_simp
              exact hK _ _ (Below.refl _ _) rfl
            refine calm_fixA rfl rfl ?_
            apply Exists.intro
            refine ⟨fun a wz hc hk hf K hK => ?_, ?_⟩
            · have hb : Below w6.heap.size w6 wz := hc rfl
              obtain ⟨v64, h64, S64⟩ := held_at hf 1 rfl (by kernel_rfl)
              have h65 := held_isV hf 0 rfl (by kernel_rfl)
              clear hk hf hc
              obtain ⟨A64, p64, rfl, s64⟩ := S64 rfl
              have hs := term_eval_calls (oneT15 33 (twoT15 38 (oneT15 33 ta) (oneT15 33 tb))) s64 (StrsIn.kept HRW.out hb)
              rw [HOV.out] at hs
              go_simp
              refine Calls.mono (hs) ?_
              rintro e w1 ⟨rfl, hq⟩
              exact hK _ _ hq rfl
            refine calm_fixA rfl rfl ?_
            apply Exists.intro
            refine ⟨fun a wz hc hk hf K hK => ?_, ?_⟩
            · have h66 := held_isV hf 0 rfl (by kernel_rfl)
              clear hk hf hc
              go_simp
              exact hK _ _ (Below.refl _ _) rfl
            refine calm_nil ?_
            refine ⟨keeps_none, ?_⟩
            intro w7 hc
            simp only [lexL, calmEnd]
            rintro _ rfl v60 S60 _ rfl v62 S62 v63 S63 v64 S64 _ rfl _ rfl _ rfl
            have hq : Below w6.heap.size w6 w7 := hc rfl
            have hb := HB.out
            clear hc S60 S62 S63 S64
            simp only [Act.put, List.setIfInBounds_toArray, List.set_cons_zero, List.set_cons_succ]
            replace HXA := Lib.hid (HXA.out.later hq)
            replace HXB := Lib.hid (HXB.out.later hq)
            replace HTA := Lib.hid (HTA.out.kept hq)
            replace HTB := Lib.hid (HTB.out.kept hq)
            replace HRW := Lib.hid (StrsIn.kept HRW.out hq)
            replace hb := hb.trans (hq.mono hb.size)
            clear hq
            go_wp2_with fail
            refine Calls.mono (HAW.out w7) ?_
            rintro e w8 ⟨rfl, hq⟩
            replace HXA := Lib.hid (HXA.out.later hq)
            replace HXB := Lib.hid (HXB.out.later hq)
            replace HTA := Lib.hid (HTA.out.kept hq)
            replace HTB := Lib.hid (HTB.out.kept hq)
            replace HRW := Lib.hid (StrsIn.kept HRW.out hq)
            replace hb := hb.trans (hq.mono hb.size)
            clear hq
            obtain ⟨y0, y1, y2, y3, _⟩ := HXA.out.cells
            obtain ⟨z0, z1, z2, z3, _⟩ := HXB.out.cells
            go_wp2_with fail
            clear y0 y1 y2 y3
            clear z0 z1 z2 z3
            refine Calls.mono (two15_calls 38 (by decide) (by decide) HTB.out HTA.out) ?_
            intro e w9 hend
            obtain ⟨A9, c9, e1, ht9, hq⟩ := TermEnd.out hend
            have e2 : e = .returned (.agg #[.int .u8 38, .int .i64 0, .string ⟨#[]⟩, .slice A9 2 c9]) := e1
            subst e2
            have HT9 := Lib.hid ht9
            clear hend e1 ht9
            replace HXA := Lib.hid (HXA.out.later hq)
            replace HXB := Lib.hid (HXB.out.later hq)
            replace HTA := Lib.hid (HTA.out.kept hq)
            replace HTB := Lib.hid (HTB.out.kept hq)
            replace HRW := Lib.hid (StrsIn.kept HRW.out hq)
            replace hb := hb.trans (hq.mono hb.size)
            clear hq
            go_wp2_with fail
            have hs := term_eval_calls _ HT9.out HRW.out
            rw [HBS.out] at hs
            clear HT9
            refine Calls.mono (hs) ?_
            rintro e w10 ⟨rfl, hq⟩
            clear hs
            replace HXA := Lib.hid (HXA.out.later hq)
            replace HXB := Lib.hid (HXB.out.later hq)
            replace HTA := Lib.hid (HTA.out.kept hq)
            replace HTB := Lib.hid (HTB.out.kept hq)
            replace HRW := Lib.hid (StrsIn.kept HRW.out hq)
            replace hb := hb.trans (hq.mono hb.size)
            clear hq
            obtain ⟨y0, y1, y2, y3, _⟩ := HXA.out.cells
            obtain ⟨z0, z1, z2, z3, _⟩ := HXB.out.cells
            go_wp2_with fail
            clear y0 y1 y2 y3
            clear z0 z1 z2 z3
            refine Calls.mono (two15_calls 124 (by decide) (by decide) HTB.out HTA.out) ?_
            intro e w11 hend
            obtain ⟨A9, c9, e1, ht9, hq⟩ := TermEnd.out hend
            have e2 : e = .returned (.agg #[.int .u8 124, .int .i64 0, .string ⟨#[]⟩, .slice A9 2 c9]) := e1
            subst e2
            have HT9 := Lib.hid ht9
            clear hend e1 ht9
            replace HXA := Lib.hid (HXA.out.later hq)
            replace HXB := Lib.hid (HXB.out.later hq)
            replace HTA := Lib.hid (HTA.out.kept hq)
            replace HTB := Lib.hid (HTB.out.kept hq)
            replace HRW := Lib.hid (StrsIn.kept HRW.out hq)
            replace hb := hb.trans (hq.mono hb.size)
            clear hq
            go_wp2_with fail
            have hs := term_eval_calls _ HT9.out HRW.out
            rw [HES.out] at hs
            clear HT9
            refine Calls.mono (hs) ?_
            rintro e w12 ⟨rfl, hq⟩
            clear hs
            replace HXA := Lib.hid (HXA.out.later hq)
            replace HXB := Lib.hid (HXB.out.later hq)
            replace HTA := Lib.hid (HTA.out.kept hq)
            replace HTB := Lib.hid (HTB.out.kept hq)
            replace HRW := Lib.hid (StrsIn.kept HRW.out hq)
            replace hb := hb.trans (hq.mono hb.size)
            clear hq
            go_wp2_with fail
            refine Calls.mono (bool_calls _ w12) ?_
            rintro e w13 ⟨rfl, hq⟩
            replace HXA := Lib.hid (HXA.out.later hq)
            replace HXB := Lib.hid (HXB.out.later hq)
            replace HTA := Lib.hid (HTA.out.kept hq)
            replace HTB := Lib.hid (HTB.out.kept hq)
            replace HRW := Lib.hid (StrsIn.kept HRW.out hq)
            replace hb := hb.trans (hq.mono hb.size)
            clear hq
            obtain ⟨y0, y1, y2, y3, _⟩ := HXA.out.cells
            go_wp2_with fail
            clear y0 y1 y2 y3
            refine Calls.mono (one15_calls 63 (by decide) (by decide) HTA.out) ?_
            intro e w14 hend
            obtain ⟨A9, c9, e1, ht9, hq⟩ := TermEnd.out hend
            have e2 : e = .returned (.agg #[.int .u8 63, .int .i64 0, .string ⟨#[]⟩, .slice A9 1 c9]) := e1
            subst e2
            have HT9 := Lib.hid ht9
            clear hend e1 ht9
            replace HXA := Lib.hid (HXA.out.later hq)
            replace HXB := Lib.hid (HXB.out.later hq)
            replace HTA := Lib.hid (HTA.out.kept hq)
            replace HTB := Lib.hid (HTB.out.kept hq)
            replace HRW := Lib.hid (StrsIn.kept HRW.out hq)
            replace hb := hb.trans (hq.mono hb.size)
            clear hq
            go_wp2_with fail
            have hs := term_eval_calls _ HT9.out HRW.out
            rw [HQV.out] at hs
            clear HT9
            refine Calls.mono (hs) ?_
            rintro e w15 ⟨rfl, hq⟩
            clear hs
            replace HXA := Lib.hid (HXA.out.later hq)
            replace HXB := Lib.hid (HXB.out.later hq)
            replace HTA := Lib.hid (HTA.out.kept hq)
            replace HTB := Lib.hid (HTB.out.kept hq)
            replace HRW := Lib.hid (StrsIn.kept HRW.out hq)
            replace hb := hb.trans (hq.mono hb.size)
            clear hq
            go_wp2_with fail
            refine Calls.mono (bool_calls _ w15) ?_
            rintro e w16 ⟨rfl, hq⟩
            replace HXA := Lib.hid (HXA.out.later hq)
            replace HXB := Lib.hid (HXB.out.later hq)
            replace HTA := Lib.hid (HTA.out.kept hq)
            replace HTB := Lib.hid (HTB.out.kept hq)
            replace HRW := Lib.hid (StrsIn.kept HRW.out hq)
            replace hb := hb.trans (hq.mono hb.size)
            clear hq
            go_wp2
            go_ret
            exact ⟨rfl, hb⟩
end Go.Proofs.Ytppmmkmlngmafaa
