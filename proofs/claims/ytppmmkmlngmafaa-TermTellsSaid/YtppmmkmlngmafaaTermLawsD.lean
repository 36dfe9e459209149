/- The law TermNothing of layer 15. -/
import Derived.Test.YtppmmkmlngmafaaTermAwake
import Derived.Test.YtppmmkmlngmafaaTermLawKit
import Derived.Test.YtppmmkmlngmafaaLawKit
namespace Go.Proofs.Ytppmmkmlngmafaa
open Go Go.RowKit

set_option maxHeartbeats 16000000 in
set_option maxRecDepth 100000 in
theorem termNothing_calls {w : World} {vt vr : Value} {t : Trm} {row : List ByteArray} (c : ByteArray) (ht : TermIn w vt t) (hr : StrsIn w vr row) : GivesAt Try.prog 7 #[vt, vr, .string c] w (.bool true) := by
  have hmr := hr.len
  unfold maxLen at hmr
  have HAW := Lib.hid awake15_calls
  have HT := Lib.hid ht
  have HR := Lib.hid hr
  have HG : Hid (∀ W, Below w.heap.size w W → GivesAt Try.prog 8 #[vt, .int .i64 2] W (.bool (greatT 2 t))) := fun W hW => great15_calls t W vt 2 (by decide) (ht.kept hW)
  have HSM : Hid (∀ W, Below w.heap.size w W → Reads Try.prog 9 #[vr] W (.bool (smallS row))) := fun W hW => small15_calls (StrsIn.kept hr hW)
  obtain ⟨A, cap, rfl⟩ := ht.parts
  obtain ⟨Ar, pr, rfl, -⟩ := one_at hr
  have hb : Below w.heap.size w (w.alloc (.cells #[.int .u8 t.op, .int .i64 t.col, .string t.cell, .slice A t.kids.length cap] 24)) := Below.alloc (.refl w.heap.size w) (Nat.le_refl _) _
  have hB := hb.size
  have HX := Lib.hid (trmbox_lit w 24 t.op t.col t.cell (.slice A t.kids.length cap))
  clear ht hr
  unfold GivesAt
  cases hg : greatT 2 t with
  | true =>
    rw [hg] at HG
    clear hg
    go_enter Try.func7, Try.ntmps7
    go_wp2_with (first | (go_at_call 8; refine (HG.out _ hb).step (w0 := w) (B := w.heap.size) hb hB ?_; clear hb hB; intro wg hb hB) | (go_at_call 10; refine HAW.out.step (w0 := w) (B := w.heap.size) hb hB ?_; clear hb hB; intro wa hb hB))
    go_ret
    exact ⟨rfl, hb⟩
  | false =>
    rw [hg] at HG
    clear hg
    cases hs : smallS row with
    | false =>
      rw [hs] at HSM
      clear hs
      go_enter Try.func7, Try.ntmps7
      go_wp2_with (first | (go_at_call 8; refine (HG.out _ hb).step (w0 := w) (B := w.heap.size) hb hB ?_; clear hb hB; intro wg hb hB) | (go_at_call 9; refine (HSM.out _ hb).step ?_) | (go_at_call 10; refine HAW.out.step (w0 := w) (B := w.heap.size) hb hB ?_; clear hb hB; intro wa hb hB))
      go_ret
      exact ⟨rfl, hb⟩
    | true =>
      rw [hs] at HSM
      clear hs
      by_cases h100 : c.size ≤ 100
      · have d20 : decide ((100 : Int) < (c.size : Int)) = false := decide_eq_false (by omega)
        have d21 : decide (100 < c.size) = false := decide_eq_false (by omega)
        have HE1 : Hid (evalT row (twoT15 61 t (constT ⟨#[]⟩)) = ⟨#[]⟩) := Lib.hid (by rw [eval_eq15, eval_const]; exact if_pos (.inr rfl))
        have HE2 : Hid (evalT row (twoT15 60 (constT ⟨#[]⟩) t) = ⟨#[]⟩) := Lib.hid (by rw [eval_lt15, eval_const]; exact if_pos (.inl rfl))
        have HE3 : Hid (evalT row (constT c) = c) := eval_const row c
        have HE4 : Hid (evalT [] (oneT15 63 (constT c)) = boolCell c.toList.isEmpty) := Lib.hid (by rw [eval_is, eval_const])
        have HZ2 : Hid (wrap64 (sizeT (twoT15 38 t (constT c)) : Nat) = IntKind.i64.wrap (wrap64 (sizeT t : Nat) + 2)) := Lib.hid (by rw [size_two, size_const, IntKind.wrap_i64, wrap_two]; unfold wrap64; rfl)
        have HQV : Hid (evalT row (oneT15 63 t) = boolCell (evalT row t).toList.isEmpty) := eval_is row t
        obtain ⟨sz, hsz⟩ : ∃ x, wrap64 (sizeT t : Nat) = x := ⟨_, rfl⟩
        have HZ1 := Lib.hid hsz
        rw [hsz] at HZ2
        obtain ⟨ev, hev⟩ : ∃ x, evalT row t = x := ⟨_, rfl⟩
        have HEV := Lib.hid hev
        rw [hev] at HQV
        clear hsz hev h100
        cases he : ev.toList.isEmpty with
        | false =>
          rw [he] at HQV
          go_enter Try.func7, Try.ntmps7
          go_wp2_with fail
          refine (HG.out _ hb).stepB (w0 := w) (B := w.heap.size) hb hB ?_
          clear hb hB
          intro wg hb hB hq
          replace HX := Lib.hid (HX.out.later hq)
          clear hq
          have HT := Lib.hid (HT.out.kept hb)
          have HR := Lib.hid (StrsIn.kept HR.out hb)
          have HSG := Lib.hid (HSM.out _ hb)
          have ha1 := Below.alloc (.refl wg.heap.size wg) (Nat.le_refl _) (.cells #[.int .u8 107, .int .i64 0, .string ⟨#[]⟩, .slice none 0 0] 24)
          have ha2 := Below.alloc (.refl (wg.alloc (.cells #[.int .u8 107, .int .i64 0, .string ⟨#[]⟩, .slice none 0 0] 24)).heap.size (wg.alloc (.cells #[.int .u8 107, .int .i64 0, .string ⟨#[]⟩, .slice none 0 0] 24))) (Nat.le_refl _) (.cells #[.int .u8 107, .int .i64 0, .string c, .slice none 0 0] 24)
          have hq := ha1.trans (ha2.mono ha1.size)
          have HN := Lib.hid ((trmbox_lit wg 24 107 0 ⟨#[]⟩ (.slice none 0 0)).later ha2)
          have hy := trmbox_lit (wg.alloc (.cells #[.int .u8 107, .int .i64 0, .string ⟨#[]⟩, .slice none 0 0] 24)) 24 107 0 c (.slice none 0 0)
          rw [show (wg.alloc (.cells #[.int .u8 107, .int .i64 0, .string ⟨#[]⟩, .slice none 0 0] 24)).heap.size = wg.heap.size + 1 by simp] at hy
          have HK := Lib.hid hy
          replace HX := Lib.hid (HX.out.later hq)
          replace HT := Lib.hid (HT.out.kept hq)
          replace HR := Lib.hid (StrsIn.kept HR.out hq)
          replace hb := hb.trans (hq.mono hb.size)
          obtain ⟨y0, y1, y2, y3, _⟩ := HX.out.cells
          clear ha1 ha2 hq hy hB HG
          go_wp2_with (go_at_call 9; refine HSG.out.step ?_)
          clear y0 y1 y2 y3
          generalize World.alloc (World.alloc wg _) _ = w3 at *
          refine Calls.mono (one15_calls 63 (by decide) (by decide) HT.out) ?_
          intro e w4 hend
          obtain ⟨A9, c9, e1, ht9, hq⟩ := TermEnd.out hend
          have e2 : e = .returned (.agg #[.int .u8 63, .int .i64 0, .string ⟨#[]⟩, .slice A9 1 c9]) := e1
          subst e2
          have HT9 := Lib.hid ht9
          clear hend e1 ht9
          replace HX := Lib.hid (HX.out.later hq)
          replace HN := Lib.hid (HN.out.later hq)
          replace HK := Lib.hid (HK.out.later hq)
          replace HT := Lib.hid (HT.out.kept hq)
          replace HR := Lib.hid (StrsIn.kept HR.out hq)
          replace hb := hb.trans (hq.mono hb.size)
          clear hq
          go_wp2_with fail
          have hs := term_eval_calls _ HT9.out HR.out
          rw [HQV.out] at hs
          clear HT9
          refine Calls.mono (hs) ?_
          rintro e w5 ⟨rfl, hq⟩
          clear hs
          replace HX := Lib.hid (HX.out.later hq)
          replace HN := Lib.hid (HN.out.later hq)
          replace HK := Lib.hid (HK.out.later hq)
          replace HT := Lib.hid (HT.out.kept hq)
          replace HR := Lib.hid (StrsIn.kept HR.out hq)
          replace hb := hb.trans (hq.mono hb.size)
          clear hq
          go_wp2_with fail
          have HB := Lib.hid hb
          clear hb
          refine wp_region_calm (offC w5) (fun _ => false) (fun _ => false) anyE false (by kernel_rfl) (by kernel_rfl) (by kernel_rfl) (by kernel_rfl) (by intro m hm; revert hm; simp; try omega) (offC_stable _) (offC_start _) ?_
          refine calm_fixA rfl rfl ?_
          apply Exists.intro
          refine ⟨fun a wz hc hk hf K hK => ?_, ?_⟩
          · have hb : Below w5.heap.size w5 wz := hc rfl
            clear hk hf hc
            go_simp
            refine Calls.mono (HAW.out wz) ?_
            rintro e w1 ⟨rfl, hq⟩
            exact hK _ _ hq rfl
          refine calm_fixA rfl rfl ?_
          apply Exists.intro
          refine ⟨fun a wz hc hk hf K hK => ?_, ?_⟩
          · have h30 := held_isV hf 0 rfl (by kernel_rfl)
            clear hk hf hc
            go_simp
            exact hK _ _ (Below.refl _ _) rfl
          refine calm_fixA rfl rfl ?_
          apply Exists.intro
          refine ⟨fun a wz hc hk hf K hK => ?_, ?_⟩
          · have hb : Below w5.heap.size w5 wz := hc rfl
            have h3 := hk 3 (by kernel_rfl)
            have h31 := held_isV hf 0 rfl (by kernel_rfl)
            clear hk hf hc
            obtain ⟨y0, y1, y2, y3, _⟩ := (HX.out.later hb).cells
            go_simp
            exact hK _ _ (Below.refl _ _) rfl
          refine calm_fixA rfl rfl ?_
          apply Exists.intro
          refine ⟨fun a wz hc hk hf K hK => ?_, ?_⟩
          · have hb : Below w5.heap.size w5 wz := hc rfl
            have h7 := hk 7 (by kernel_rfl)
            have h31 := held_isV hf 1 rfl (by kernel_rfl)
            clear hk hf hc
            obtain ⟨y0, y1, y2, y3, _⟩ := (HN.out.later hb).cells
            go_simp
            exact hK _ _ (Below.refl _ _) rfl
          refine calm_varA (TrmP (twoT15 61 (t) (constT ⟨#[]⟩)) 61 0 ⟨#[]⟩ 2) rfl rfl TrmP.kept (fun a wz hc hk hf K hK => ?_) ?_
          · have hb : Below w5.heap.size w5 wz := hc rfl
            have h32 := held_isV hf 1 rfl (by kernel_rfl)
            have h33 := held_isV hf 0 rfl (by kernel_rfl)
            have h31 := held_isV hf 2 rfl (by kernel_rfl)
            clear hk hf hc
            go_simp
            refine Calls.mono (two15_calls 61 (by decide) (by decide) (HT.out.kept hb) (constT_in wz ⟨#[]⟩)) ?_
            intro e w1 hend
            obtain ⟨A1, c1, e1, ht, hq⟩ := TermEnd.out hend
            have e2 : e = .returned (.agg #[.int .u8 61, .int .i64 0, .string ⟨#[]⟩, .slice A1 2 c1]) := e1
            subst e2
            exact hK _ _ hq (fun _ => ⟨A1, c1, rfl, ht⟩)
          refine calm_fixA rfl rfl ?_
          apply Exists.intro
          refine ⟨fun a wz hc hk hf K hK => ?_, ?_⟩
          · have h1 := hk 1 (by kernel_rfl)
            have h31 := held_isV hf 3 rfl (by kernel_rfl)
            clear hk hf hc
            go_simp
            exact hK _ _ (Below.refl _ _) rfl
          refine calm_fixA rfl rfl ?_
          apply Exists.intro
          refine ⟨fun a wz hc hk hf K hK => ?_, ?_⟩
          · have hb : Below w5.heap.size w5 wz := hc rfl
            obtain ⟨v34, h34, S34⟩ := held_at hf 1 rfl (by kernel_rfl)
            have h35 := held_isV hf 0 rfl (by kernel_rfl)
            have h31 := held_isV hf 4 rfl (by kernel_rfl)
            clear hk hf hc
            obtain ⟨A34, p34, rfl, s34⟩ := S34 rfl
            have hs := term_eval_calls (twoT15 61 (t) (constT ⟨#[]⟩)) s34 (StrsIn.kept HR.out hb)
            rw [HE1.out] at hs
            go_simp
            refine Calls.mono (hs) ?_
            rintro e w1 ⟨rfl, hq⟩
            exact hK _ _ hq rfl
          refine calm_fixA rfl rfl ?_
          apply Exists.intro
          refine ⟨fun a wz hc hk hf K hK => ?_, ?_⟩
          · have hb : Below w5.heap.size w5 wz := hc rfl
            have h36 := held_isV hf 0 rfl (by kernel_rfl)
            have h31 := held_isV hf 5 rfl (by kernel_rfl)
            clear hk hf hc
            have h00 : (⟨#[]⟩ : ByteArray).toList = [] := empty_toList
            have hyn : ((boolCell true).toList == (boolCell false).toList) = false := by decide +kernel
            have hny : ((boolCell false).toList == (boolCell true).toList) = false := by decide +kernel
            go_simp
            exact hK _ _ (Below.refl _ _) rfl
          refine calm_fixA rfl rfl ?_
          apply Exists.intro
          refine ⟨fun a wz hc hk hf K hK => ?_, ?_⟩
          · have h31 := held_isV hf 6 rfl (by kernel_rfl)
            have h37 := held_isV hf 0 rfl (by kernel_rfl)
            clear hk hf hc
            go_simp
            exact hK _ _ (Below.refl _ _) rfl
          refine calm_fixA rfl rfl ?_
          apply Exists.intro
          refine ⟨fun a wz hc hk hf K hK => ?_, ?_⟩
          · have h38 := held_isV hf 0 rfl (by kernel_rfl)
            clear hk hf hc
            go_simp
            exact hK _ _ (Below.refl _ _) rfl
          refine calm_fixA rfl rfl ?_
          apply Exists.intro
          refine ⟨fun a wz hc hk hf K hK => ?_, ?_⟩
          · have hb : Below w5.heap.size w5 wz := hc rfl
            have h7 := hk 7 (by kernel_rfl)
            have h39 := held_isV hf 0 rfl (by kernel_rfl)
            clear hk hf hc
            obtain ⟨y0, y1, y2, y3, _⟩ := (HN.out.later hb).cells
            go_simp
            exact hK _ _ (Below.refl _ _) rfl
          refine calm_fixA rfl rfl ?_
          apply Exists.intro
          refine ⟨fun a wz hc hk hf K hK => ?_, ?_⟩
          · have hb : Below w5.heap.size w5 wz := hc rfl
            have h3 := hk 3 (by kernel_rfl)
            have h39 := held_isV hf 1 rfl (by kernel_rfl)
            clear hk hf hc
            obtain ⟨y0, y1, y2, y3, _⟩ := (HX.out.later hb).cells
            go_simp
            exact hK _ _ (Below.refl _ _) rfl
          refine calm_varA (TrmP (twoT15 60 (constT ⟨#[]⟩) (t)) 60 0 ⟨#[]⟩ 2) rfl rfl TrmP.kept (fun a wz hc hk hf K hK => ?_) ?_
          · have hb : Below w5.heap.size w5 wz := hc rfl
            have h40 := held_isV hf 1 rfl (by kernel_rfl)
            have h41 := held_isV hf 0 rfl (by kernel_rfl)
            have h39 := held_isV hf 2 rfl (by kernel_rfl)
            clear hk hf hc
            go_simp
            refine Calls.mono (two15_calls 60 (by decide) (by decide) (constT_in wz ⟨#[]⟩) (HT.out.kept hb)) ?_
            intro e w1 hend
            obtain ⟨A1, c1, e1, ht, hq⟩ := TermEnd.out hend
            have e2 : e = .returned (.agg #[.int .u8 60, .int .i64 0, .string ⟨#[]⟩, .slice A1 2 c1]) := e1
            subst e2
            exact hK _ _ hq (fun _ => ⟨A1, c1, rfl, ht⟩)
          refine calm_fixA rfl rfl ?_
          apply Exists.intro
          refine ⟨fun a wz hc hk hf K hK => ?_, ?_⟩
          · have h1 := hk 1 (by kernel_rfl)
            have h39 := held_isV hf 3 rfl (by kernel_rfl)
            clear hk hf hc
            go_simp
            exact hK _ _ (Below.refl _ _) rfl
          refine calm_fixA rfl rfl ?_
          apply Exists.intro
          refine ⟨fun a wz hc hk hf K hK => ?_, ?_⟩
          · have hb : Below w5.heap.size w5 wz := hc rfl
            obtain ⟨v42, h42, S42⟩ := held_at hf 1 rfl (by kernel_rfl)
            have h43 := held_isV hf 0 rfl (by kernel_rfl)
            have h39 := held_isV hf 4 rfl (by kernel_rfl)
            clear hk hf hc
            obtain ⟨A42, p42, rfl, s42⟩ := S42 rfl
            have hs := term_eval_calls (twoT15 60 (constT ⟨#[]⟩) (t)) s42 (StrsIn.kept HR.out hb)
            rw [HE2.out] at hs
            go_simp
            refine Calls.mono (hs) ?_
            rintro e w1 ⟨rfl, hq⟩
            exact hK _ _ hq rfl
          refine calm_fixA rfl rfl ?_
          apply Exists.intro
          refine ⟨fun a wz hc hk hf K hK => ?_, ?_⟩
          · have hb : Below w5.heap.size w5 wz := hc rfl
            have h44 := held_isV hf 0 rfl (by kernel_rfl)
            have h39 := held_isV hf 5 rfl (by kernel_rfl)
            clear hk hf hc
            have h00 : (⟨#[]⟩ : ByteArray).toList = [] := empty_toList
            have hyn : ((boolCell true).toList == (boolCell false).toList) = false := by decide +kernel
            have hny : ((boolCell false).toList == (boolCell true).toList) = false := by decide +kernel
            go_simp
            exact hK _ _ (Below.refl _ _) rfl
          refine calm_fixA rfl rfl ?_
          apply Exists.intro
          refine ⟨fun a wz hc hk hf K hK => ?_, ?_⟩
          · have h39 := held_isV hf 6 rfl (by kernel_rfl)
            have h45 := held_isV hf 0 rfl (by kernel_rfl)
            clear hk hf hc
            go_simp
            exact hK _ _ (Below.refl _ _) rfl
          refine calm_fixA rfl rfl ?_
          apply Exists.intro
          refine ⟨fun a wz hc hk hf K hK => ?_, ?_⟩
          · have h46 := held_isV hf 0 rfl (by kernel_rfl)
            clear hk hf hc
            go_simp
            exact hK _ _ (Below.refl _ _) rfl
          refine calm_fixA rfl rfl ?_
          apply Exists.intro
          refine ⟨fun a wz hc hk hf K hK => ?_, ?_⟩
          · have h9 := hk 9 (by kernel_rfl)
            have h47 := held_isV hf 0 rfl (by kernel_rfl)
            clear hk hf hc
            go_simp
            exact hK _ _ (Below.refl _ _) rfl
          refine calm_fixA rfl rfl ?_
          apply Exists.intro
          refine ⟨fun a wz hc hk hf K hK => ?_, ?_⟩
          · have hb : Below w5.heap.size w5 wz := hc rfl
            have h47 := held_isV hf 1 rfl (by kernel_rfl)
            clear hk hf hc
            go_simp
            refine Calls.mono (bool_calls true wz) ?_
            rintro e w1 ⟨rfl, hq⟩
            exact hK _ _ hq rfl
          refine calm_fixA rfl rfl ?_
          apply Exists.intro
          refine ⟨fun a wz hc hk hf K hK => ?_, ?_⟩
          · have hb : Below w5.heap.size w5 wz := hc rfl
            have h48 := held_isV hf 1 rfl (by kernel_rfl)
            have h49 := held_isV hf 0 rfl (by kernel_rfl)
            have h47 := held_isV hf 2 rfl (by kernel_rfl)
            clear hk hf hc
            have h00 : (⟨#[]⟩ : ByteArray).toList = [] := empty_toList
            have hyn : ((boolCell true).toList == (boolCell false).toList) = false := by decide +kernel
            have hny : ((boolCell false).toList == (boolCell true).toList) = false := by decide +kernel
            go_simp
            exact hK _ _ (Below.refl _ _) rfl
          refine calm_fixA rfl rfl ?_
          apply Exists.intro
          refine ⟨fun a wz hc hk hf K hK => ?_, ?_⟩
          · have h50 := held_isV hf 0 rfl (by kernel_rfl)
            have h47 := held_isV hf 3 rfl (by kernel_rfl)
            clear hk hf hc
            go_simp
            exact hK _ _ (Below.refl _ _) rfl
          refine calm_fixA rfl rfl ?_
          apply Exists.intro
          refine ⟨fun a wz hc hk hf K hK => ?_, ?_⟩
          · have h9 := hk 9 (by kernel_rfl)
            have h51 := held_isV hf 0 rfl (by kernel_rfl)
            clear hk hf hc
            go_simp
            exact hK _ _ (Below.refl _ _) rfl
          refine calm_fixA rfl rfl ?_
          apply Exists.intro
          refine ⟨fun a wz hc hk hf K hK => ?_, ?_⟩
          · have hb : Below w5.heap.size w5 wz := hc rfl
            have h51 := held_isV hf 1 rfl (by kernel_rfl)
            clear hk hf hc
            go_simp
            refine Calls.mono (bool_calls false wz) ?_
            rintro e w1 ⟨rfl, hq⟩
            exact hK _ _ hq rfl
          refine calm_fixA rfl rfl ?_
          apply Exists.intro
          refine ⟨fun a wz hc hk hf K hK => ?_, ?_⟩
          · have hb : Below w5.heap.size w5 wz := hc rfl
            have h52 := held_isV hf 1 rfl (by kernel_rfl)
            have h53 := held_isV hf 0 rfl (by kernel_rfl)
            have h51 := held_isV hf 2 rfl (by kernel_rfl)
            clear hk hf hc
            have h00 : (⟨#[]⟩ : ByteArray).toList = [] := empty_toList
            have hyn : ((boolCell true).toList == (boolCell false).toList) = false := by decide +kernel
            have hny : ((boolCell false).toList == (boolCell true).toList) = false := by decide +kernel
            go_simp
            exact hK _ _ (Below.refl _ _) rfl
          refine calm_fixA rfl rfl ?_
          apply Exists.intro
          refine ⟨fun a wz hc hk hf K hK => ?_, ?_⟩
          · have h51 := held_isV hf 3 rfl (by kernel_rfl)
            have h54 := held_isV hf 0 rfl (by kernel_rfl)
            have h47 := held_isV hf 7 rfl (by kernel_rfl)
            clear hk hf hc
            go_simp
            exact hK _ _ (Below.refl _ _) rfl
          refine calm_fixA rfl rfl ?_
          apply Exists.intro
          refine ⟨fun a wz hc hk hf K hK => ?_, ?_⟩
          · have h47 := held_isV hf 8 rfl (by kernel_rfl)
            have h55 := held_isV hf 0 rfl (by kernel_rfl)
            clear hk hf hc
            go_simp
            exact hK _ _ (Below.refl _ _) rfl
          refine calm_fixA rfl rfl ?_
          apply Exists.intro
          refine ⟨fun a wz hc hk hf K hK => ?_, ?_⟩
          · have h56 := held_isV hf 0 rfl (by kernel_rfl)
            clear hk hf hc
            go_simp
            exact hK _ _ (Below.refl _ _) rfl
          refine calm_fixA rfl rfl ?_
          apply Exists.intro
          refine ⟨fun a wz hc hk hf K hK => ?_, ?_⟩
          · have h9 := hk 9 (by kernel_rfl)
            have h57 := held_isV hf 0 rfl (by kernel_rfl)
            clear hk hf hc
            go_simp
            exact hK _ _ (Below.refl _ _) rfl
          refine calm_fixA rfl rfl ?_
          apply Exists.intro
          refine ⟨fun a wz hc hk hf K hK => ?_, ?_⟩
          · have hb : Below w5.heap.size w5 wz := hc rfl
            have h57 := held_isV hf 1 rfl (by kernel_rfl)
            clear hk hf hc
            go_simp
            refine Calls.mono (bool_calls true wz) ?_
            rintro e w1 ⟨rfl, hq⟩
            exact hK _ _ hq rfl
          refine calm_fixA rfl rfl ?_
          apply Exists.intro
          refine ⟨fun a wz hc hk hf K hK => ?_, ?_⟩
          · have hb : Below w5.heap.size w5 wz := hc rfl
            have h58 := held_isV hf 1 rfl (by kernel_rfl)
            have h59 := held_isV hf 0 rfl (by kernel_rfl)
            have h57 := held_isV hf 2 rfl (by kernel_rfl)
            clear hk hf hc
            have h00 : (⟨#[]⟩ : ByteArray).toList = [] := empty_toList
            have hyn : ((boolCell true).toList == (boolCell false).toList) = false := by decide +kernel
            have hny : ((boolCell false).toList == (boolCell true).toList) = false := by decide +kernel
            go_simp
            exact hK _ _ (Below.refl _ _) rfl
          refine calm_fixA rfl rfl ?_
          apply Exists.intro
          refine ⟨fun a wz hc hk hf K hK => ?_, ?_⟩
          · have hb : Below w5.heap.size w5 wz := hc rfl
            have h3 := hk 3 (by kernel_rfl)
            have h57 := held_isV hf 3 rfl (by kernel_rfl)
            clear hk hf hc
            obtain ⟨y0, y1, y2, y3, _⟩ := (HX.out.later hb).cells
            go_simp
            exact hK _ _ (Below.refl _ _) rfl
          refine calm_fixA rfl rfl ?_
          apply Exists.intro
          refine ⟨fun a wz hc hk hf K hK => ?_, ?_⟩
          · have h1 := hk 1 (by kernel_rfl)
            have h57 := held_isV hf 4 rfl (by kernel_rfl)
            clear hk hf hc
            go_simp
            exact hK _ _ (Below.refl _ _) rfl
          refine calm_fixA rfl rfl ?_
          apply Exists.intro
          refine ⟨fun a wz hc hk hf K hK => ?_, ?_⟩
          · have hb : Below w5.heap.size w5 wz := hc rfl
            have h61 := held_isV hf 1 rfl (by kernel_rfl)
            have h62 := held_isV hf 0 rfl (by kernel_rfl)
            have h57 := held_isV hf 5 rfl (by kernel_rfl)
            clear hk hf hc
            have hs := term_eval_calls (t) (HT.out.kept hb) (StrsIn.kept HR.out hb)
            rw [HEV.out] at hs
            go_simp
            refine Calls.mono (hs) ?_
            rintro e w1 ⟨rfl, hq⟩
            exact hK _ _ hq rfl
          refine calm_fixA rfl rfl ?_
          apply Exists.intro
          refine ⟨fun a wz hc hk hf K hK => ?_, ?_⟩
          · have hb : Below w5.heap.size w5 wz := hc rfl
            have h63 := held_isV hf 0 rfl (by kernel_rfl)
            have h57 := held_isV hf 6 rfl (by kernel_rfl)
            clear hk hf hc
            have h00 : (⟨#[]⟩ : ByteArray).toList = [] := empty_toList
            have hyn : ((boolCell true).toList == (boolCell false).toList) = false := by decide +kernel
            have hny : ((boolCell false).toList == (boolCell true).toList) = false := by decide +kernel
            go_simp
            exact hK _ _ (Below.refl _ _) rfl
          refine calm_fixA rfl rfl ?_
          apply Exists.intro
          refine ⟨fun a wz hc hk hf K hK => ?_, ?_⟩
          · have h60 := held_isV hf 4 rfl (by kernel_rfl)
            have h64 := held_isV hf 0 rfl (by kernel_rfl)
            have h57 := held_isV hf 7 rfl (by kernel_rfl)
            clear hk hf hc
            go_simp
            exact hK _ _ (Below.refl _ _) rfl
          refine calm_fixA rfl rfl ?_
          apply Exists.intro
          refine ⟨fun a wz hc hk hf K hK => ?_, ?_⟩
          · have h57 := held_isV hf 8 rfl (by kernel_rfl)
            have h65 := held_isV hf 0 rfl (by kernel_rfl)
            clear hk hf hc
            go_simp
            exact hK _ _ (Below.refl _ _) rfl
          refine calm_fixA rfl rfl ?_
          apply Exists.intro
          refine ⟨fun a wz hc hk hf K hK => ?_, ?_⟩
          · have h66 := held_isV hf 0 rfl (by kernel_rfl)
            clear hk hf hc
            go_simp
            exact hK _ _ (Below.refl _ _) rfl
          refine calm_fixA rfl rfl ?_
          apply Exists.intro
          refine ⟨fun a wz hc hk hf K hK => ?_, ?_⟩
          · have hb : Below w5.heap.size w5 wz := hc rfl
            have h8 := hk 8 (by kernel_rfl)
            have h67 := held_isV hf 0 rfl (by kernel_rfl)
            clear hk hf hc
            obtain ⟨y0, y1, y2, y3, _⟩ := (HK.out.later hb).cells
            go_simp
            exact hK _ _ (Below.refl _ _) rfl
          refine calm_fixA rfl rfl ?_
          apply Exists.intro
          refine ⟨fun a wz hc hk hf K hK => ?_, ?_⟩
          · have h1 := hk 1 (by kernel_rfl)
            have h67 := held_isV hf 1 rfl (by kernel_rfl)
            clear hk hf hc
            go_simp
            exact hK _ _ (Below.refl _ _) rfl
          refine calm_fixA rfl rfl ?_
          apply Exists.intro
          refine ⟨fun a wz hc hk hf K hK => ?_, ?_⟩
          · have hb : Below w5.heap.size w5 wz := hc rfl
            have h68 := held_isV hf 1 rfl (by kernel_rfl)
            have h69 := held_isV hf 0 rfl (by kernel_rfl)
            have h67 := held_isV hf 2 rfl (by kernel_rfl)
            clear hk hf hc
            have hs := term_eval_calls (constT c) (constT_in wz c) (StrsIn.kept HR.out hb)
            rw [HE3.out] at hs
            go_simp
            refine Calls.mono (hs) ?_
            rintro e w1 ⟨rfl, hq⟩
            exact hK _ _ hq rfl
          refine calm_fixA rfl rfl ?_
          apply Exists.intro
          refine ⟨fun a wz hc hk hf K hK => ?_, ?_⟩
          · have h2 := hk 2 (by kernel_rfl)
            have h67 := held_isV hf 3 rfl (by kernel_rfl)
            clear hk hf hc
            go_simp
            exact hK _ _ (Below.refl _ _) rfl
          refine calm_fixA rfl rfl ?_
          apply Exists.intro
          refine ⟨fun a wz hc hk hf K hK => ?_, ?_⟩
          · have hb : Below w5.heap.size w5 wz := hc rfl
            have h70 := held_isV hf 1 rfl (by kernel_rfl)
            have h71 := held_isV hf 0 rfl (by kernel_rfl)
            have h67 := held_isV hf 4 rfl (by kernel_rfl)
            clear hk hf hc
            have h00 : (⟨#[]⟩ : ByteArray).toList = [] := empty_toList
            have hyn : ((boolCell true).toList == (boolCell false).toList) = false := by decide +kernel
            have hny : ((boolCell false).toList == (boolCell true).toList) = false := by decide +kernel
            go_simp
            exact hK _ _ (Below.refl _ _) rfl
          refine calm_fixA rfl rfl ?_
          apply Exists.intro
          refine ⟨fun a wz hc hk hf K hK => ?_, ?_⟩
          · have h67 := held_isV hf 5 rfl (by kernel_rfl)
            have h72 := held_isV hf 0 rfl (by kernel_rfl)
            clear hk hf hc
            go_simp
            exact hK _ _ (Below.refl _ _) rfl
          refine calm_fixA rfl rfl ?_
          apply Exists.intro
          refine ⟨fun a wz hc hk hf K hK => ?_, ?_⟩
          · have h73 := held_isV hf 0 rfl (by kernel_rfl)
            clear hk hf hc
            go_simp
            exact hK _ _ (Below.refl _ _) rfl
          refine calm_fixA rfl rfl ?_
          apply Exists.intro
          refine ⟨fun a wz hc hk hf K hK => ?_, ?_⟩
          · have hb : Below w5.heap.size w5 wz := hc rfl
            have h8 := hk 8 (by kernel_rfl)
            have h74 := held_isV hf 0 rfl (by kernel_rfl)
            clear hk hf hc
            obtain ⟨y0, y1, y2, y3, _⟩ := (HK.out.later hb).cells
            go_simp
            exact hK _ _ (Below.refl _ _) rfl
          refine calm_varA (TrmP (oneT15 63 (constT c)) 63 0 ⟨#[]⟩ 1) rfl rfl TrmP.kept (fun a wz hc hk hf K hK => ?_) ?_
          · have hb : Below w5.heap.size w5 wz := hc rfl
            have h75 := held_isV hf 0 rfl (by kernel_rfl)
            have h74 := held_isV hf 1 rfl (by kernel_rfl)
            clear hk hf hc
            go_simp
            refine Calls.mono (one15_calls 63 (by decide) (by decide) (constT_in wz c)) ?_
            intro e w1 hend
            obtain ⟨A1, c1, e1, ht, hq⟩ := TermEnd.out hend
            have e2 : e = .returned (.agg #[.int .u8 63, .int .i64 0, .string ⟨#[]⟩, .slice A1 1 c1]) := e1
            subst e2
            exact hK _ _ hq (fun _ => ⟨A1, c1, rfl, ht⟩)
          refine calm_fixA rfl rfl ?_
          apply Exists.intro
          refine ⟨fun a wz hc hk hf K hK => ?_, ?_⟩
          · have hb : Below w5.heap.size w5 wz := hc rfl
            obtain ⟨v76, h76, S76⟩ := held_at hf 0 rfl (by kernel_rfl)
            have h74 := held_isV hf 2 rfl (by kernel_rfl)
            clear hk hf hc
            obtain ⟨A76, p76, rfl, s76⟩ := S76 rfl
            have hs := term_eval_calls (oneT15 63 (constT c)) s76 (show StrsIn wz (.slice none 0 0) [] from SliceOf.nil_ _ _ _ _)
            rw [HE4.out] at hs
            go_simp
            refine Calls.mono (hs) ?_
            rintro e w1 ⟨rfl, hq⟩
            exact hK _ _ hq rfl
          refine calm_fixA rfl rfl ?_
          apply Exists.intro
          refine ⟨fun a wz hc hk hf K hK => ?_, ?_⟩
          · have h2 := hk 2 (by kernel_rfl)
            have h74 := held_isV hf 3 rfl (by kernel_rfl)
            clear hk hf hc
            go_simp
            exact hK _ _ (Below.refl _ _) rfl
          refine calm_fixA rfl rfl ?_
          apply Exists.intro
          refine ⟨fun a wz hc hk hf K hK => ?_, ?_⟩
          · have hb : Below w5.heap.size w5 wz := hc rfl
            have h78 := held_isV hf 0 rfl (by kernel_rfl)
            have h74 := held_isV hf 4 rfl (by kernel_rfl)
            clear hk hf hc
            have h00 : (⟨#[]⟩ : ByteArray).toList = [] := empty_toList
            have hyn : ((boolCell true).toList == (boolCell false).toList) = false := by decide +kernel
            have hny : ((boolCell false).toList == (boolCell true).toList) = false := by decide +kernel
            go_simp
            exact hK _ _ (Below.refl _ _) rfl
          refine calm_fixA rfl rfl ?_
          apply Exists.intro
          refine ⟨fun a wz hc hk hf K hK => ?_, ?_⟩
          · have hb : Below w5.heap.size w5 wz := hc rfl
            have h79 := held_isV hf 0 rfl (by kernel_rfl)
            have h74 := held_isV hf 5 rfl (by kernel_rfl)
            clear hk hf hc
            go_simp
            refine Calls.mono (bool_calls _ wz) ?_
            rintro e w1 ⟨rfl, hq⟩
            exact hK _ _ hq rfl
          refine calm_fixA rfl rfl ?_
          apply Exists.intro
          refine ⟨fun a wz hc hk hf K hK => ?_, ?_⟩
          · have hb : Below w5.heap.size w5 wz := hc rfl
            have h77 := held_isV hf 3 rfl (by kernel_rfl)
            have h80 := held_isV hf 0 rfl (by kernel_rfl)
            have h74 := held_isV hf 6 rfl (by kernel_rfl)
            clear hk hf hc
            have h00 : (⟨#[]⟩ : ByteArray).toList = [] := empty_toList
            have hyn : ((boolCell true).toList == (boolCell false).toList) = false := by decide +kernel
            have hny : ((boolCell false).toList == (boolCell true).toList) = false := by decide +kernel
            go_simp
            exact hK _ _ (Below.refl _ _) rfl
          refine calm_fixA rfl rfl ?_
          apply Exists.intro
          refine ⟨fun a wz hc hk hf K hK => ?_, ?_⟩
          · have h74 := held_isV hf 7 rfl (by kernel_rfl)
            have h81 := held_isV hf 0 rfl (by kernel_rfl)
            clear hk hf hc
            go_simp
            exact hK _ _ (Below.refl _ _) rfl
          refine calm_fixA rfl rfl ?_
          apply Exists.intro
          refine ⟨fun a wz hc hk hf K hK => ?_, ?_⟩
          · have h82 := held_isV hf 0 rfl (by kernel_rfl)
            clear hk hf hc
            go_simp
            exact hK _ _ (Below.refl _ _) rfl
          refine calm_fixA rfl rfl ?_
          apply Exists.intro
          refine ⟨fun a wz hc hk hf K hK => ?_, ?_⟩
          · have hb : Below w5.heap.size w5 wz := hc rfl
            have h3 := hk 3 (by kernel_rfl)
            have h83 := held_isV hf 0 rfl (by kernel_rfl)
            clear hk hf hc
            obtain ⟨y0, y1, y2, y3, _⟩ := (HX.out.later hb).cells
            go_simp
            exact hK _ _ (Below.refl _ _) rfl
          refine calm_fixA rfl rfl ?_
          apply Exists.intro
          refine ⟨fun a wz hc hk hf K hK => ?_, ?_⟩
          · have hb : Below w5.heap.size w5 wz := hc rfl
            have h8 := hk 8 (by kernel_rfl)
            have h83 := held_isV hf 1 rfl (by kernel_rfl)
            clear hk hf hc
            obtain ⟨y0, y1, y2, y3, _⟩ := (HK.out.later hb).cells
            go_simp
            exact hK _ _ (Below.refl _ _) rfl
          refine calm_varA (TrmP (twoT15 38 (t) (constT c)) 38 0 ⟨#[]⟩ 2) rfl rfl TrmP.kept (fun a wz hc hk hf K hK => ?_) ?_
          · have hb : Below w5.heap.size w5 wz := hc rfl
            have h84 := held_isV hf 1 rfl (by kernel_rfl)
            have h85 := held_isV hf 0 rfl (by kernel_rfl)
            have h83 := held_isV hf 2 rfl (by kernel_rfl)
            clear hk hf hc
            go_simp
            refine Calls.mono (two15_calls 38 (by decide) (by decide) (HT.out.kept hb) (constT_in wz c)) ?_
            intro e w1 hend
            obtain ⟨A1, c1, e1, ht, hq⟩ := TermEnd.out hend
            have e2 : e = .returned (.agg #[.int .u8 38, .int .i64 0, .string ⟨#[]⟩, .slice A1 2 c1]) := e1
            subst e2
            exact hK _ _ hq (fun _ => ⟨A1, c1, rfl, ht⟩)
          refine calm_fixA rfl rfl ?_
          apply Exists.intro
          refine ⟨fun a wz hc hk hf K hK => ?_, ?_⟩
          · have hb : Below w5.heap.size w5 wz := hc rfl
            obtain ⟨v86, h86, S86⟩ := held_at hf 0 rfl (by kernel_rfl)
            have h83 := held_isV hf 3 rfl (by kernel_rfl)
            clear hk hf hc
            obtain ⟨A86, p86, rfl, s86⟩ := S86 rfl
            have hs := term_size_calls (twoT15 38 (t) (constT c)) s86
            rw [HZ2.out] at hs
            go_simp
            refine Calls.mono (hs) ?_
            rintro e w1 ⟨rfl, hq⟩
            exact hK _ _ hq rfl
          refine calm_fixA rfl rfl ?_
          apply Exists.intro
          refine ⟨fun a wz hc hk hf K hK => ?_, ?_⟩
          · have hb : Below w5.heap.size w5 wz := hc rfl
            have h3 := hk 3 (by kernel_rfl)
            have h83 := held_isV hf 4 rfl (by kernel_rfl)
            clear hk hf hc
            obtain ⟨y0, y1, y2, y3, _⟩ := (HX.out.later hb).cells
            go_simp
            exact hK _ _ (Below.refl _ _) rfl
          refine calm_fixA rfl rfl ?_
          apply Exists.intro
          refine ⟨fun a wz hc hk hf K hK => ?_, ?_⟩
          · have hb : Below w5.heap.size w5 wz := hc rfl
            have h88 := held_isV hf 0 rfl (by kernel_rfl)
            have h83 := held_isV hf 5 rfl (by kernel_rfl)
            clear hk hf hc
            have hs := term_size_calls (t) (HT.out.kept hb)
            rw [HZ1.out] at hs
            go_simp
            refine Calls.mono (hs) ?_
            rintro e w1 ⟨rfl, hq⟩
            exact hK _ _ hq rfl
          refine calm_fixA rfl rfl ?_
          apply Exists.intro
          refine ⟨fun a wz hc hk hf K hK => ?_, ?_⟩
          · have h89 := held_isV hf 0 rfl (by kernel_rfl)
            have h83 := held_isV hf 6 rfl (by kernel_rfl)
            clear hk hf hc
            go_simp
            exact hK _ _ (Below.refl _ _) rfl
          refine calm_fixA rfl rfl ?_
          apply Exists.intro
          refine ⟨fun a wz hc hk hf K hK => ?_, ?_⟩
          · have h87 := held_isV hf 3 rfl (by kernel_rfl)
            have h90 := held_isV hf 0 rfl (by kernel_rfl)
            have h83 := held_isV hf 7 rfl (by kernel_rfl)
            clear hk hf hc
            go_simp
            exact hK _ _ (Below.refl _ _) rfl
          refine calm_fixA rfl rfl ?_
          apply Exists.intro
          refine ⟨fun a wz hc hk hf K hK => ?_, ?_⟩
          · have h83 := held_isV hf 8 rfl (by kernel_rfl)
            have h91 := held_isV hf 0 rfl (by kernel_rfl)
            clear hk hf hc
            go_simp
            exact hK _ _ (Below.refl _ _) rfl
          refine calm_fixA rfl rfl ?_
          apply Exists.intro
          refine ⟨fun a wz hc hk hf K hK => ?_, ?_⟩
          · have h92 := held_isV hf 0 rfl (by kernel_rfl)
            clear hk hf hc
            go_simp
            exact hK _ _ (Below.refl _ _) rfl
          refine calm_nil ?_
          refine ⟨keeps_none, ?_⟩
          intro w6 hc
          simp only [lexL, calmEnd]
          rintro _ rfl _ rfl _ rfl _ rfl v34 S34 _ rfl _ rfl _ rfl _ rfl _ rfl _ rfl _ rfl v42 S42 _ rfl _ rfl _ rfl _ rfl _ rfl _ rfl _ rfl _ rfl _ rfl _ rfl _ rfl _ rfl _ rfl _ rfl _ rfl _ rfl _ rfl _ rfl _ rfl _ rfl _ rfl _ rfl _ rfl _ rfl _ rfl _ rfl _ rfl _ rfl _ rfl _ rfl _ rfl _ rfl _ rfl v76 S76 _ rfl _ rfl _ rfl _ rfl _ rfl _ rfl _ rfl _ rfl _ rfl v86 S86 _ rfl _ rfl _ rfl _ rfl _ rfl _ rfl _ rfl
          have hq : Below w5.heap.size w5 w6 := hc rfl
          have hb := HB.out
          clear hc S34 S42 S76 S86
          simp only [Act.put, List.setIfInBounds_toArray, List.set_cons_zero, List.set_cons_succ]
          replace HX := Lib.hid (HX.out.later hq)
          replace HN := Lib.hid (HN.out.later hq)
          replace HK := Lib.hid (HK.out.later hq)
          replace HT := Lib.hid (HT.out.kept hq)
          replace HR := Lib.hid (StrsIn.kept HR.out hq)
          replace hb := hb.trans (hq.mono hb.size)
          clear hq
          go_wp2
          go_ret
          exact ⟨rfl, hb⟩
        | true =>
          rw [he] at HQV
          go_enter Try.func7, Try.ntmps7
          go_wp2_with fail
          refine (HG.out _ hb).stepB (w0 := w) (B := w.heap.size) hb hB ?_
          clear hb hB
          intro wg hb hB hq
          replace HX := Lib.hid (HX.out.later hq)
          clear hq
          have HT := Lib.hid (HT.out.kept hb)
          have HR := Lib.hid (StrsIn.kept HR.out hb)
          have HSG := Lib.hid (HSM.out _ hb)
          have ha1 := Below.alloc (.refl wg.heap.size wg) (Nat.le_refl _) (.cells #[.int .u8 107, .int .i64 0, .string ⟨#[]⟩, .slice none 0 0] 24)
          have ha2 := Below.alloc (.refl (wg.alloc (.cells #[.int .u8 107, .int .i64 0, .string ⟨#[]⟩, .slice none 0 0] 24)).heap.size (wg.alloc (.cells #[.int .u8 107, .int .i64 0, .string ⟨#[]⟩, .slice none 0 0] 24))) (Nat.le_refl _) (.cells #[.int .u8 107, .int .i64 0, .string c, .slice none 0 0] 24)
          have hq := ha1.trans (ha2.mono ha1.size)
          have HN := Lib.hid ((trmbox_lit wg 24 107 0 ⟨#[]⟩ (.slice none 0 0)).later ha2)
          have hy := trmbox_lit (wg.alloc (.cells #[.int .u8 107, .int .i64 0, .string ⟨#[]⟩, .slice none 0 0] 24)) 24 107 0 c (.slice none 0 0)
          rw [show (wg.alloc (.cells #[.int .u8 107, .int .i64 0, .string ⟨#[]⟩, .slice none 0 0] 24)).heap.size = wg.heap.size + 1 by simp] at hy
          have HK := Lib.hid hy
          replace HX := Lib.hid (HX.out.later hq)
          replace HT := Lib.hid (HT.out.kept hq)
          replace HR := Lib.hid (StrsIn.kept HR.out hq)
          replace hb := hb.trans (hq.mono hb.size)
          obtain ⟨y0, y1, y2, y3, _⟩ := HX.out.cells
          clear ha1 ha2 hq hy hB HG
          go_wp2_with (go_at_call 9; refine HSG.out.step ?_)
          clear y0 y1 y2 y3
          generalize World.alloc (World.alloc wg _) _ = w3 at *
          refine Calls.mono (one15_calls 63 (by decide) (by decide) HT.out) ?_
          intro e w4 hend
          obtain ⟨A9, c9, e1, ht9, hq⟩ := TermEnd.out hend
          have e2 : e = .returned (.agg #[.int .u8 63, .int .i64 0, .string ⟨#[]⟩, .slice A9 1 c9]) := e1
          subst e2
          have HT9 := Lib.hid ht9
          clear hend e1 ht9
          replace HX := Lib.hid (HX.out.later hq)
          replace HN := Lib.hid (HN.out.later hq)
          replace HK := Lib.hid (HK.out.later hq)
          replace HT := Lib.hid (HT.out.kept hq)
          replace HR := Lib.hid (StrsIn.kept HR.out hq)
          replace hb := hb.trans (hq.mono hb.size)
          clear hq
          go_wp2_with fail
          have hs := term_eval_calls _ HT9.out HR.out
          rw [HQV.out] at hs
          clear HT9
          refine Calls.mono (hs) ?_
          rintro e w5 ⟨rfl, hq⟩
          clear hs
          replace HX := Lib.hid (HX.out.later hq)
          replace HN := Lib.hid (HN.out.later hq)
          replace HK := Lib.hid (HK.out.later hq)
          replace HT := Lib.hid (HT.out.kept hq)
          replace HR := Lib.hid (StrsIn.kept HR.out hq)
          replace hb := hb.trans (hq.mono hb.size)
          clear hq
          go_wp2_with fail
          have HB := Lib.hid hb
          clear hb
          refine wp_region_calm (offC w5) (fun _ => false) (fun _ => false) anyE false (by kernel_rfl) (by kernel_rfl) (by kernel_rfl) (by kernel_rfl) (by intro m hm; revert hm; simp; try omega) (offC_stable _) (offC_start _) ?_
          refine calm_fixA rfl rfl ?_
          apply Exists.intro
          refine ⟨fun a wz hc hk hf K hK => ?_, ?_⟩
          · have hb : Below w5.heap.size w5 wz := hc rfl
            clear hk hf hc
            go_simp
            refine Calls.mono (HAW.out wz) ?_
            rintro e w1 ⟨rfl, hq⟩
            exact hK _ _ hq rfl
          refine calm_fixA rfl rfl ?_
          apply Exists.intro
          refine ⟨fun a wz hc hk hf K hK => ?_, ?_⟩
          · have h30 := held_isV hf 0 rfl (by kernel_rfl)
            clear hk hf hc
            go_simp
            exact hK _ _ (Below.refl _ _) rfl
          refine calm_fixA rfl rfl ?_
          apply Exists.intro
          refine ⟨fun a wz hc hk hf K hK => ?_, ?_⟩
          · have hb : Below w5.heap.size w5 wz := hc rfl
            have h3 := hk 3 (by kernel_rfl)
            have h31 := held_isV hf 0 rfl (by kernel_rfl)
            clear hk hf hc
            obtain ⟨y0, y1, y2, y3, _⟩ := (HX.out.later hb).cells
            go_simp
            exact hK _ _ (Below.refl _ _) rfl
          refine calm_fixA rfl rfl ?_
          apply Exists.intro
          refine ⟨fun a wz hc hk hf K hK => ?_, ?_⟩
          · have hb : Below w5.heap.size w5 wz := hc rfl
            have h7 := hk 7 (by kernel_rfl)
            have h31 := held_isV hf 1 rfl (by kernel_rfl)
            clear hk hf hc
            obtain ⟨y0, y1, y2, y3, _⟩ := (HN.out.later hb).cells
            go_simp
            exact hK _ _ (Below.refl _ _) rfl
          refine calm_varA (TrmP (twoT15 61 (t) (constT ⟨#[]⟩)) 61 0 ⟨#[]⟩ 2) rfl rfl TrmP.kept (fun a wz hc hk hf K hK => ?_) ?_
          · have hb : Below w5.heap.size w5 wz := hc rfl
            have h32 := held_isV hf 1 rfl (by kernel_rfl)
            have h33 := held_isV hf 0 rfl (by kernel_rfl)
            have h31 := held_isV hf 2 rfl (by kernel_rfl)
            clear hk hf hc
            go_simp
            refine Calls.mono (two15_calls 61 (by decide) (by decide) (HT.out.kept hb) (constT_in wz ⟨#[]⟩)) ?_
            intro e w1 hend
            obtain ⟨A1, c1, e1, ht, hq⟩ := TermEnd.out hend
            have e2 : e = .returned (.agg #[.int .u8 61, .int .i64 0, .string ⟨#[]⟩, .slice A1 2 c1]) := e1
            subst e2
            exact hK _ _ hq (fun _ => ⟨A1, c1, rfl, ht⟩)
          refine calm_fixA rfl rfl ?_
          apply Exists.intro
          refine ⟨fun a wz hc hk hf K hK => ?_, ?_⟩
          · have h1 := hk 1 (by kernel_rfl)
            have h31 := held_isV hf 3 rfl (by kernel_rfl)
            clear hk hf hc
            go_simp
            exact hK _ _ (Below.refl _ _) rfl
          refine calm_fixA rfl rfl ?_
          apply Exists.intro
          refine ⟨fun a wz hc hk hf K hK => ?_, ?_⟩
          · have hb : Below w5.heap.size w5 wz := hc rfl
            obtain ⟨v34, h34, S34⟩ := held_at hf 1 rfl (by kernel_rfl)
            have h35 := held_isV hf 0 rfl (by kernel_rfl)
            have h31 := held_isV hf 4 rfl (by kernel_rfl)
            clear hk hf hc
            obtain ⟨A34, p34, rfl, s34⟩ := S34 rfl
            have hs := term_eval_calls (twoT15 61 (t) (constT ⟨#[]⟩)) s34 (StrsIn.kept HR.out hb)
            rw [HE1.out] at hs
            go_simp
            refine Calls.mono (hs) ?_
            rintro e w1 ⟨rfl, hq⟩
            exact hK _ _ hq rfl
          refine calm_fixA rfl rfl ?_
          apply Exists.intro
          refine ⟨fun a wz hc hk hf K hK => ?_, ?_⟩
          · have hb : Below w5.heap.size w5 wz := hc rfl
            have h36 := held_isV hf 0 rfl (by kernel_rfl)
            have h31 := held_isV hf 5 rfl (by kernel_rfl)
            clear hk hf hc
            have h00 : (⟨#[]⟩ : ByteArray).toList = [] := empty_toList
            have hyn : ((boolCell true).toList == (boolCell false).toList) = false := by decide +kernel
            have hny : ((boolCell false).toList == (boolCell true).toList) = false := by decide +kernel
            go_simp
            exact hK _ _ (Below.refl _ _) rfl
          refine calm_fixA rfl rfl ?_
          apply Exists.intro
          refine ⟨fun a wz hc hk hf K hK => ?_, ?_⟩
          · have h31 := held_isV hf 6 rfl (by kernel_rfl)
            have h37 := held_isV hf 0 rfl (by kernel_rfl)
            clear hk hf hc
            go_simp
            exact hK _ _ (Below.refl _ _) rfl
          refine calm_fixA rfl rfl ?_
          apply Exists.intro
          refine ⟨fun a wz hc hk hf K hK => ?_, ?_⟩
          · have h38 := held_isV hf 0 rfl (by kernel_rfl)
            clear hk hf hc
            go_simp
            exact hK _ _ (Below.refl _ _) rfl
          refine calm_fixA rfl rfl ?_
          apply Exists.intro
          refine ⟨fun a wz hc hk hf K hK => ?_, ?_⟩
          · have hb : Below w5.heap.size w5 wz := hc rfl
            have h7 := hk 7 (by kernel_rfl)
            have h39 := held_isV hf 0 rfl (by kernel_rfl)
            clear hk hf hc
            obtain ⟨y0, y1, y2, y3, _⟩ := (HN.out.later hb).cells
            go_simp
            exact hK _ _ (Below.refl _ _) rfl
          refine calm_fixA rfl rfl ?_
          apply Exists.intro
          refine ⟨fun a wz hc hk hf K hK => ?_, ?_⟩
          · have hb : Below w5.heap.size w5 wz := hc rfl
            have h3 := hk 3 (by kernel_rfl)
            have h39 := held_isV hf 1 rfl (by kernel_rfl)
            clear hk hf hc
            obtain ⟨y0, y1, y2, y3, _⟩ := (HX.out.later hb).cells
            go_simp
            exact hK _ _ (Below.refl _ _) rfl
          refine calm_varA (TrmP (twoT15 60 (constT ⟨#[]⟩) (t)) 60 0 ⟨#[]⟩ 2) rfl rfl TrmP.kept (fun a wz hc hk hf K hK => ?_) ?_
          · have hb : Below w5.heap.size w5 wz := hc rfl
            have h40 := held_isV hf 1 rfl (by kernel_rfl)
            have h41 := held_isV hf 0 rfl (by kernel_rfl)
            have h39 := held_isV hf 2 rfl (by kernel_rfl)
            clear hk hf hc
            go_simp
            refine Calls.mono (two15_calls 60 (by decide) (by decide) (constT_in wz ⟨#[]⟩) (HT.out.kept hb)) ?_
            intro e w1 hend
            obtain ⟨A1, c1, e1, ht, hq⟩ := TermEnd.out hend
            have e2 : e = .returned (.agg #[.int .u8 60, .int .i64 0, .string ⟨#[]⟩, .slice A1 2 c1]) := e1
            subst e2
            exact hK _ _ hq (fun _ => ⟨A1, c1, rfl, ht⟩)
          refine calm_fixA rfl rfl ?_
          apply Exists.intro
          refine ⟨fun a wz hc hk hf K hK => ?_, ?_⟩
          · have h1 := hk 1 (by kernel_rfl)
            have h39 := held_isV hf 3 rfl (by kernel_rfl)
            clear hk hf hc
            go_simp
            exact hK _ _ (Below.refl _ _) rfl
          refine calm_fixA rfl rfl ?_
          apply Exists.intro
          refine ⟨fun a wz hc hk hf K hK => ?_, ?_⟩
          · have hb : Below w5.heap.size w5 wz := hc rfl
            obtain ⟨v42, h42, S42⟩ := held_at hf 1 rfl (by kernel_rfl)
            have h43 := held_isV hf 0 rfl (by kernel_rfl)
            have h39 := held_isV hf 4 rfl (by kernel_rfl)
            clear hk hf hc
            obtain ⟨A42, p42, rfl, s42⟩ := S42 rfl
            have hs := term_eval_calls (twoT15 60 (constT ⟨#[]⟩) (t)) s42 (StrsIn.kept HR.out hb)
            rw [HE2.out] at hs
            go_simp
            refine Calls.mono (hs) ?_
            rintro e w1 ⟨rfl, hq⟩
            exact hK _ _ hq rfl
          refine calm_fixA rfl rfl ?_
          apply Exists.intro
          refine ⟨fun a wz hc hk hf K hK => ?_, ?_⟩
          · have hb : Below w5.heap.size w5 wz := hc rfl
            have h44 := held_isV hf 0 rfl (by kernel_rfl)
            have h39 := held_isV hf 5 rfl (by kernel_rfl)
            clear hk hf hc
            have h00 : (⟨#[]⟩ : ByteArray).toList = [] := empty_toList
            have hyn : ((boolCell true).toList == (boolCell false).toList) = false := by decide +kernel
            have hny : ((boolCell false).toList == (boolCell true).toList) = false := by decide +kernel
            go_simp
            exact hK _ _ (Below.refl _ _) rfl
          refine calm_fixA rfl rfl ?_
          apply Exists.intro
          refine ⟨fun a wz hc hk hf K hK => ?_, ?_⟩
          · have h39 := held_isV hf 6 rfl (by kernel_rfl)
            have h45 := held_isV hf 0 rfl (by kernel_rfl)
            clear hk hf hc
            go_simp
            exact hK _ _ (Below.refl _ _) rfl
          refine calm_fixA rfl rfl ?_
          apply Exists.intro
          refine ⟨fun a wz hc hk hf K hK => ?_, ?_⟩
          · have h46 := held_isV hf 0 rfl (by kernel_rfl)
            clear hk hf hc
            go_simp
            exact hK _ _ (Below.refl _ _) rfl
          refine calm_fixA rfl rfl ?_
          apply Exists.intro
          refine ⟨fun a wz hc hk hf K hK => ?_, ?_⟩
          · have h9 := hk 9 (by kernel_rfl)
            have h47 := held_isV hf 0 rfl (by kernel_rfl)
            clear hk hf hc
            go_simp
            exact hK _ _ (Below.refl _ _) rfl
          refine calm_fixA rfl rfl ?_
          apply Exists.intro
          refine ⟨fun a wz hc hk hf K hK => ?_, ?_⟩
          · have hb : Below w5.heap.size w5 wz := hc rfl
            have h47 := held_isV hf 1 rfl (by kernel_rfl)
            clear hk hf hc
            go_simp
            refine Calls.mono (bool_calls true wz) ?_
            rintro e w1 ⟨rfl, hq⟩
            exact hK _ _ hq rfl
          refine calm_fixA rfl rfl ?_
          apply Exists.intro
          refine ⟨fun a wz hc hk hf K hK => ?_, ?_⟩
          · have hb : Below w5.heap.size w5 wz := hc rfl
            have h48 := held_isV hf 1 rfl (by kernel_rfl)
            have h49 := held_isV hf 0 rfl (by kernel_rfl)
            have h47 := held_isV hf 2 rfl (by kernel_rfl)
            clear hk hf hc
            have h00 : (⟨#[]⟩ : ByteArray).toList = [] := empty_toList
            have hyn : ((boolCell true).toList == (boolCell false).toList) = false := by decide +kernel
            have hny : ((boolCell false).toList == (boolCell true).toList) = false := by decide +kernel
            go_simp
            exact hK _ _ (Below.refl _ _) rfl
          refine calm_fixA rfl rfl ?_
          apply Exists.intro
          refine ⟨fun a wz hc hk hf K hK => ?_, ?_⟩
          · have h50 := held_isV hf 0 rfl (by kernel_rfl)
            have h47 := held_isV hf 3 rfl (by kernel_rfl)
            clear hk hf hc
            go_simp
            exact hK _ _ (Below.refl _ _) rfl
          refine calm_fixA rfl rfl ?_
          apply Exists.intro
          refine ⟨fun a wz hc hk hf K hK => ?_, ?_⟩
          · have h9 := hk 9 (by kernel_rfl)
            have h51 := held_isV hf 0 rfl (by kernel_rfl)
            clear hk hf hc
            go_simp
            exact hK _ _ (Below.refl _ _) rfl
          refine calm_fixA rfl rfl ?_
          apply Exists.intro
          refine ⟨fun a wz hc hk hf K hK => ?_, ?_⟩
          · have h51 := held_isV hf 1 rfl (by kernel_rfl)
            clear hk hf hc
            go_simp
            exact hK _ _ (Below.refl _ _) rfl
          refine calm_fixA rfl rfl ?_
          apply Exists.intro
          refine ⟨fun a wz hc hk hf K hK => ?_, ?_⟩
          · have hb : Below w5.heap.size w5 wz := hc rfl
            have h52 := held_isV hf 1 rfl (by kernel_rfl)
            have h53 := held_isV hf 0 rfl (by kernel_rfl)
            have h51 := held_isV hf 2 rfl (by kernel_rfl)
            clear hk hf hc
            have h00 : (⟨#[]⟩ : ByteArray).toList = [] := empty_toList
            have hyn : ((boolCell true).toList == (boolCell false).toList) = false := by decide +kernel
            have hny : ((boolCell false).toList == (boolCell true).toList) = false := by decide +kernel
            go_simp
            exact hK _ _ (Below.refl _ _) rfl
          refine calm_fixA rfl rfl ?_
          apply Exists.intro
          refine ⟨fun a wz hc hk hf K hK => ?_, ?_⟩
          · have h51 := held_isV hf 3 rfl (by kernel_rfl)
            have h54 := held_isV hf 0 rfl (by kernel_rfl)
            have h47 := held_isV hf 7 rfl (by kernel_rfl)
            clear hk hf hc
            go_simp
            exact hK _ _ (Below.refl _ _) rfl
          refine calm_fixA rfl rfl ?_
          apply Exists.intro
          refine ⟨fun a wz hc hk hf K hK => ?_, ?_⟩
          · have h47 := held_isV hf 8 rfl (by kernel_rfl)
            have h55 := held_isV hf 0 rfl (by kernel_rfl)
            clear hk hf hc
            go_simp
            exact hK _ _ (Below.refl _ _) rfl
          refine calm_fixA rfl rfl ?_
          apply Exists.intro
          refine ⟨fun a wz hc hk hf K hK => ?_, ?_⟩
          · have h56 := held_isV hf 0 rfl (by kernel_rfl)
            clear hk hf hc
            go_simp
            exact hK _ _ (Below.refl _ _) rfl
          refine calm_fixA rfl rfl ?_
          apply Exists.intro
          refine ⟨fun a wz hc hk hf K hK => ?_, ?_⟩
          · have h9 := hk 9 (by kernel_rfl)
            have h57 := held_isV hf 0 rfl (by kernel_rfl)
            clear hk hf hc
            go_simp
            exact hK _ _ (Below.refl _ _) rfl
          refine calm_fixA rfl rfl ?_
          apply Exists.intro
          refine ⟨fun a wz hc hk hf K hK => ?_, ?_⟩
          · have hb : Below w5.heap.size w5 wz := hc rfl
            have h57 := held_isV hf 1 rfl (by kernel_rfl)
            clear hk hf hc
            go_simp
            refine Calls.mono (bool_calls true wz) ?_
            rintro e w1 ⟨rfl, hq⟩
            exact hK _ _ hq rfl
          refine calm_fixA rfl rfl ?_
          apply Exists.intro
          refine ⟨fun a wz hc hk hf K hK => ?_, ?_⟩
          · have hb : Below w5.heap.size w5 wz := hc rfl
            have h58 := held_isV hf 1 rfl (by kernel_rfl)
            have h59 := held_isV hf 0 rfl (by kernel_rfl)
            have h57 := held_isV hf 2 rfl (by kernel_rfl)
            clear hk hf hc
            have h00 : (⟨#[]⟩ : ByteArray).toList = [] := empty_toList
            have hyn : ((boolCell true).toList == (boolCell false).toList) = false := by decide +kernel
            have hny : ((boolCell false).toList == (boolCell true).toList) = false := by decide +kernel
            go_simp
            exact hK _ _ (Below.refl _ _) rfl
          refine calm_fixA rfl rfl ?_
          apply Exists.intro
          refine ⟨fun a wz hc hk hf K hK => ?_, ?_⟩
          · have hb : Below w5.heap.size w5 wz := hc rfl
            have h3 := hk 3 (by kernel_rfl)
            have h57 := held_isV hf 3 rfl (by kernel_rfl)
            clear hk hf hc
            obtain ⟨y0, y1, y2, y3, _⟩ := (HX.out.later hb).cells
            go_simp
            exact hK _ _ (Below.refl _ _) rfl
          refine calm_fixA rfl rfl ?_
          apply Exists.intro
          refine ⟨fun a wz hc hk hf K hK => ?_, ?_⟩
          · have h1 := hk 1 (by kernel_rfl)
            have h57 := held_isV hf 4 rfl (by kernel_rfl)
            clear hk hf hc
            go_simp
            exact hK _ _ (Below.refl _ _) rfl
          refine calm_fixA rfl rfl ?_
          apply Exists.intro
          refine ⟨fun a wz hc hk hf K hK => ?_, ?_⟩
          · have hb : Below w5.heap.size w5 wz := hc rfl
            have h61 := held_isV hf 1 rfl (by kernel_rfl)
            have h62 := held_isV hf 0 rfl (by kernel_rfl)
            have h57 := held_isV hf 5 rfl (by kernel_rfl)
            clear hk hf hc
            have hs := term_eval_calls (t) (HT.out.kept hb) (StrsIn.kept HR.out hb)
            rw [HEV.out] at hs
            go_simp
            refine Calls.mono (hs) ?_
            rintro e w1 ⟨rfl, hq⟩
            exact hK _ _ hq rfl
          refine calm_fixA rfl rfl ?_
          apply Exists.intro
          refine ⟨fun a wz hc hk hf K hK => ?_, ?_⟩
          · have hb : Below w5.heap.size w5 wz := hc rfl
            have h63 := held_isV hf 0 rfl (by kernel_rfl)
            have h57 := held_isV hf 6 rfl (by kernel_rfl)
            clear hk hf hc
            have h00 : (⟨#[]⟩ : ByteArray).toList = [] := empty_toList
            have hyn : ((boolCell true).toList == (boolCell false).toList) = false := by decide +kernel
            have hny : ((boolCell false).toList == (boolCell true).toList) = false := by decide +kernel
            go_simp
            exact hK _ _ (Below.refl _ _) rfl
          refine calm_fixA rfl rfl ?_
          apply Exists.intro
          refine ⟨fun a wz hc hk hf K hK => ?_, ?_⟩
          · have h60 := held_isV hf 4 rfl (by kernel_rfl)
            have h64 := held_isV hf 0 rfl (by kernel_rfl)
            have h57 := held_isV hf 7 rfl (by kernel_rfl)
            clear hk hf hc
            go_simp
            exact hK _ _ (Below.refl _ _) rfl
          refine calm_fixA rfl rfl ?_
          apply Exists.intro
          refine ⟨fun a wz hc hk hf K hK => ?_, ?_⟩
          · have h57 := held_isV hf 8 rfl (by kernel_rfl)
            have h65 := held_isV hf 0 rfl (by kernel_rfl)
            clear hk hf hc
            go_simp
            exact hK _ _ (Below.refl _ _) rfl
          refine calm_fixA rfl rfl ?_
          apply Exists.intro
          refine ⟨fun a wz hc hk hf K hK => ?_, ?_⟩
          · have h66 := held_isV hf 0 rfl (by kernel_rfl)
            clear hk hf hc
            go_simp
            exact hK _ _ (Below.refl _ _) rfl
          refine calm_fixA rfl rfl ?_
          apply Exists.intro
          refine ⟨fun a wz hc hk hf K hK => ?_, ?_⟩
          · have hb : Below w5.heap.size w5 wz := hc rfl
            have h8 := hk 8 (by kernel_rfl)
            have h67 := held_isV hf 0 rfl (by kernel_rfl)
            clear hk hf hc
            obtain ⟨y0, y1, y2, y3, _⟩ := (HK.out.later hb).cells
            go_simp
            exact hK _ _ (Below.refl _ _) rfl
          refine calm_fixA rfl rfl ?_
          apply Exists.intro
          refine ⟨fun a wz hc hk hf K hK => ?_, ?_⟩
          · have h1 := hk 1 (by kernel_rfl)
            have h67 := held_isV hf 1 rfl (by kernel_rfl)
            clear hk hf hc
            go_simp
            exact hK _ _ (Below.refl _ _) rfl
          refine calm_fixA rfl rfl ?_
          apply Exists.intro
          refine ⟨fun a wz hc hk hf K hK => ?_, ?_⟩
          · have hb : Below w5.heap.size w5 wz := hc rfl
            have h68 := held_isV hf 1 rfl (by kernel_rfl)
            have h69 := held_isV hf 0 rfl (by kernel_rfl)
            have h67 := held_isV hf 2 rfl (by kernel_rfl)
            clear hk hf hc
            have hs := term_eval_calls (constT c) (constT_in wz c) (StrsIn.kept HR.out hb)
            rw [HE3.out] at hs
            go_simp
            refine Calls.mono (hs) ?_
            rintro e w1 ⟨rfl, hq⟩
            exact hK _ _ hq rfl
          refine calm_fixA rfl rfl ?_
          apply Exists.intro
          refine ⟨fun a wz hc hk hf K hK => ?_, ?_⟩
          · have h2 := hk 2 (by kernel_rfl)
            have h67 := held_isV hf 3 rfl (by kernel_rfl)
            clear hk hf hc
            go_simp
            exact hK _ _ (Below.refl _ _) rfl
          refine calm_fixA rfl rfl ?_
          apply Exists.intro
          refine ⟨fun a wz hc hk hf K hK => ?_, ?_⟩
          · have hb : Below w5.heap.size w5 wz := hc rfl
            have h70 := held_isV hf 1 rfl (by kernel_rfl)
            have h71 := held_isV hf 0 rfl (by kernel_rfl)
            have h67 := held_isV hf 4 rfl (by kernel_rfl)
            clear hk hf hc
            have h00 : (⟨#[]⟩ : ByteArray).toList = [] := empty_toList
            have hyn : ((boolCell true).toList == (boolCell false).toList) = false := by decide +kernel
            have hny : ((boolCell false).toList == (boolCell true).toList) = false := by decide +kernel
            go_simp
            exact hK _ _ (Below.refl _ _) rfl
          refine calm_fixA rfl rfl ?_
          apply Exists.intro
          refine ⟨fun a wz hc hk hf K hK => ?_, ?_⟩
          · have h67 := held_isV hf 5 rfl (by kernel_rfl)
            have h72 := held_isV hf 0 rfl (by kernel_rfl)
            clear hk hf hc
            go_simp
            exact hK _ _ (Below.refl _ _) rfl
          refine calm_fixA rfl rfl ?_
          apply Exists.intro
          refine ⟨fun a wz hc hk hf K hK => ?_, ?_⟩
          · have h73 := held_isV hf 0 rfl (by kernel_rfl)
            clear hk hf hc
            go_simp
            exact hK _ _ (Below.refl _ _) rfl
          refine calm_fixA rfl rfl ?_
          apply Exists.intro
          refine ⟨fun a wz hc hk hf K hK => ?_, ?_⟩
          · have hb : Below w5.heap.size w5 wz := hc rfl
            have h8 := hk 8 (by kernel_rfl)
            have h74 := held_isV hf 0 rfl (by kernel_rfl)
            clear hk hf hc
            obtain ⟨y0, y1, y2, y3, _⟩ := (HK.out.later hb).cells
            go_simp
            exact hK _ _ (Below.refl _ _) rfl
          refine calm_varA (TrmP (oneT15 63 (constT c)) 63 0 ⟨#[]⟩ 1) rfl rfl TrmP.kept (fun a wz hc hk hf K hK => ?_) ?_
          · have hb : Below w5.heap.size w5 wz := hc rfl
            have h75 := held_isV hf 0 rfl (by kernel_rfl)
            have h74 := held_isV hf 1 rfl (by kernel_rfl)
            clear hk hf hc
            go_simp
            refine Calls.mono (one15_calls 63 (by decide) (by decide) (constT_in wz c)) ?_
            intro e w1 hend
            obtain ⟨A1, c1, e1, ht, hq⟩ := TermEnd.out hend
            have e2 : e = .returned (.agg #[.int .u8 63, .int .i64 0, .string ⟨#[]⟩, .slice A1 1 c1]) := e1
            subst e2
            exact hK _ _ hq (fun _ => ⟨A1, c1, rfl, ht⟩)
          refine calm_fixA rfl rfl ?_
          apply Exists.intro
          refine ⟨fun a wz hc hk hf K hK => ?_, ?_⟩
          · have hb : Below w5.heap.size w5 wz := hc rfl
            obtain ⟨v76, h76, S76⟩ := held_at hf 0 rfl (by kernel_rfl)
            have h74 := held_isV hf 2 rfl (by kernel_rfl)
            clear hk hf hc
            obtain ⟨A76, p76, rfl, s76⟩ := S76 rfl
            have hs := term_eval_calls (oneT15 63 (constT c)) s76 (show StrsIn wz (.slice none 0 0) [] from SliceOf.nil_ _ _ _ _)
            rw [HE4.out] at hs
            go_simp
            refine Calls.mono (hs) ?_
            rintro e w1 ⟨rfl, hq⟩
            exact hK _ _ hq rfl
          refine calm_fixA rfl rfl ?_
          apply Exists.intro
          refine ⟨fun a wz hc hk hf K hK => ?_, ?_⟩
          · have h2 := hk 2 (by kernel_rfl)
            have h74 := held_isV hf 3 rfl (by kernel_rfl)
            clear hk hf hc
            go_simp
            exact hK _ _ (Below.refl _ _) rfl
          refine calm_fixA rfl rfl ?_
          apply Exists.intro
          refine ⟨fun a wz hc hk hf K hK => ?_, ?_⟩
          · have hb : Below w5.heap.size w5 wz := hc rfl
            have h78 := held_isV hf 0 rfl (by kernel_rfl)
            have h74 := held_isV hf 4 rfl (by kernel_rfl)
            clear hk hf hc
            have h00 : (⟨#[]⟩ : ByteArray).toList = [] := empty_toList
            have hyn : ((boolCell true).toList == (boolCell false).toList) = false := by decide +kernel
            have hny : ((boolCell false).toList == (boolCell true).toList) = false := by decide +kernel
            go_simp
            exact hK _ _ (Below.refl _ _) rfl
          refine calm_fixA rfl rfl ?_
          apply Exists.intro
          refine ⟨fun a wz hc hk hf K hK => ?_, ?_⟩
          · have hb : Below w5.heap.size w5 wz := hc rfl
            have h79 := held_isV hf 0 rfl (by kernel_rfl)
            have h74 := held_isV hf 5 rfl (by kernel_rfl)
            clear hk hf hc
            go_simp
            refine Calls.mono (bool_calls _ wz) ?_
            rintro e w1 ⟨rfl, hq⟩
            exact hK _ _ hq rfl
          refine calm_fixA rfl rfl ?_
          apply Exists.intro
          refine ⟨fun a wz hc hk hf K hK => ?_, ?_⟩
          · have hb : Below w5.heap.size w5 wz := hc rfl
            have h77 := held_isV hf 3 rfl (by kernel_rfl)
            have h80 := held_isV hf 0 rfl (by kernel_rfl)
            have h74 := held_isV hf 6 rfl (by kernel_rfl)
            clear hk hf hc
            have h00 : (⟨#[]⟩ : ByteArray).toList = [] := empty_toList
            have hyn : ((boolCell true).toList == (boolCell false).toList) = false := by decide +kernel
            have hny : ((boolCell false).toList == (boolCell true).toList) = false := by decide +kernel
            go_simp
            exact hK _ _ (Below.refl _ _) rfl
          refine calm_fixA rfl rfl ?_
          apply Exists.intro
          refine ⟨fun a wz hc hk hf K hK => ?_, ?_⟩
          · have h74 := held_isV hf 7 rfl (by kernel_rfl)
            have h81 := held_isV hf 0 rfl (by kernel_rfl)
            clear hk hf hc
            go_simp
            exact hK _ _ (Below.refl _ _) rfl
          refine calm_fixA rfl rfl ?_
          apply Exists.intro
          refine ⟨fun a wz hc hk hf K hK => ?_, ?_⟩
          · have h82 := held_isV hf 0 rfl (by kernel_rfl)
            clear hk hf hc
            go_simp
            exact hK _ _ (Below.refl _ _) rfl
          refine calm_fixA rfl rfl ?_
          apply Exists.intro
          refine ⟨fun a wz hc hk hf K hK => ?_, ?_⟩
          · have hb : Below w5.heap.size w5 wz := hc rfl
            have h3 := hk 3 (by kernel_rfl)
            have h83 := held_isV hf 0 rfl (by kernel_rfl)
            clear hk hf hc
            obtain ⟨y0, y1, y2, y3, _⟩ := (HX.out.later hb).cells
            go_simp
            exact hK _ _ (Below.refl _ _) rfl
          refine calm_fixA rfl rfl ?_
          apply Exists.intro
          refine ⟨fun a wz hc hk hf K hK => ?_, ?_⟩
          · have hb : Below w5.heap.size w5 wz := hc rfl
            have h8 := hk 8 (by kernel_rfl)
            have h83 := held_isV hf 1 rfl (by kernel_rfl)
            clear hk hf hc
            obtain ⟨y0, y1, y2, y3, _⟩ := (HK.out.later hb).cells
            go_simp
            exact hK _ _ (Below.refl _ _) rfl
          refine calm_varA (TrmP (twoT15 38 (t) (constT c)) 38 0 ⟨#[]⟩ 2) rfl rfl TrmP.kept (fun a wz hc hk hf K hK => ?_) ?_
          · have hb : Below w5.heap.size w5 wz := hc rfl
            have h84 := held_isV hf 1 rfl (by kernel_rfl)
            have h85 := held_isV hf 0 rfl (by kernel_rfl)
            have h83 := held_isV hf 2 rfl (by kernel_rfl)
            clear hk hf hc
            go_simp
            refine Calls.mono (two15_calls 38 (by decide) (by decide) (HT.out.kept hb) (constT_in wz c)) ?_
            intro e w1 hend
            obtain ⟨A1, c1, e1, ht, hq⟩ := TermEnd.out hend
            have e2 : e = .returned (.agg #[.int .u8 38, .int .i64 0, .string ⟨#[]⟩, .slice A1 2 c1]) := e1
            subst e2
            exact hK _ _ hq (fun _ => ⟨A1, c1, rfl, ht⟩)
          refine calm_fixA rfl rfl ?_
          apply Exists.intro
          refine ⟨fun a wz hc hk hf K hK => ?_, ?_⟩
          · have hb : Below w5.heap.size w5 wz := hc rfl
            obtain ⟨v86, h86, S86⟩ := held_at hf 0 rfl (by kernel_rfl)
            have h83 := held_isV hf 3 rfl (by kernel_rfl)
            clear hk hf hc
            obtain ⟨A86, p86, rfl, s86⟩ := S86 rfl
            have hs := term_size_calls (twoT15 38 (t) (constT c)) s86
            rw [HZ2.out] at hs
            go_simp
            refine Calls.mono (hs) ?_
            rintro e w1 ⟨rfl, hq⟩
            exact hK _ _ hq rfl
          refine calm_fixA rfl rfl ?_
          apply Exists.intro
          refine ⟨fun a wz hc hk hf K hK => ?_, ?_⟩
          · have hb : Below w5.heap.size w5 wz := hc rfl
            have h3 := hk 3 (by kernel_rfl)
            have h83 := held_isV hf 4 rfl (by kernel_rfl)
            clear hk hf hc
            obtain ⟨y0, y1, y2, y3, _⟩ := (HX.out.later hb).cells
            go_simp
            exact hK _ _ (Below.refl _ _) rfl
          refine calm_fixA rfl rfl ?_
          apply Exists.intro
          refine ⟨fun a wz hc hk hf K hK => ?_, ?_⟩
          · have hb : Below w5.heap.size w5 wz := hc rfl
            have h88 := held_isV hf 0 rfl (by kernel_rfl)
            have h83 := held_isV hf 5 rfl (by kernel_rfl)
            clear hk hf hc
            have hs := term_size_calls (t) (HT.out.kept hb)
            rw [HZ1.out] at hs
            go_simp
            refine Calls.mono (hs) ?_
            rintro e w1 ⟨rfl, hq⟩
            exact hK _ _ hq rfl
          refine calm_fixA rfl rfl ?_
          apply Exists.intro
          refine ⟨fun a wz hc hk hf K hK => ?_, ?_⟩
          · have h89 := held_isV hf 0 rfl (by kernel_rfl)
            have h83 := held_isV hf 6 rfl (by kernel_rfl)
            clear hk hf hc
            go_simp
            exact hK _ _ (Below.refl _ _) rfl
          refine calm_fixA rfl rfl ?_
          apply Exists.intro
          refine ⟨fun a wz hc hk hf K hK => ?_, ?_⟩
          · have h87 := held_isV hf 3 rfl (by kernel_rfl)
            have h90 := held_isV hf 0 rfl (by kernel_rfl)
            have h83 := held_isV hf 7 rfl (by kernel_rfl)
            clear hk hf hc
            go_simp
            exact hK _ _ (Below.refl _ _) rfl
          refine calm_fixA rfl rfl ?_
          apply Exists.intro
          refine ⟨fun a wz hc hk hf K hK => ?_, ?_⟩
          · have h83 := held_isV hf 8 rfl (by kernel_rfl)
            have h91 := held_isV hf 0 rfl (by kernel_rfl)
            clear hk hf hc
            go_simp
            exact hK _ _ (Below.refl _ _) rfl
          refine calm_fixA rfl rfl ?_
          apply Exists.intro
          refine ⟨fun a wz hc hk hf K hK => ?_, ?_⟩
          · have h92 := held_isV hf 0 rfl (by kernel_rfl)
            clear hk hf hc
            go_simp
            exact hK _ _ (Below.refl _ _) rfl
          refine calm_nil ?_
          refine ⟨keeps_none, ?_⟩
          intro w6 hc
          simp only [lexL, calmEnd]
          rintro _ rfl _ rfl _ rfl _ rfl v34 S34 _ rfl _ rfl _ rfl _ rfl _ rfl _ rfl _ rfl v42 S42 _ rfl _ rfl _ rfl _ rfl _ rfl _ rfl _ rfl _ rfl _ rfl _ rfl _ rfl _ rfl _ rfl _ rfl _ rfl _ rfl _ rfl _ rfl _ rfl _ rfl _ rfl _ rfl _ rfl _ rfl _ rfl _ rfl _ rfl _ rfl _ rfl _ rfl _ rfl _ rfl _ rfl v76 S76 _ rfl _ rfl _ rfl _ rfl _ rfl _ rfl _ rfl _ rfl _ rfl v86 S86 _ rfl _ rfl _ rfl _ rfl _ rfl _ rfl _ rfl
          have hq : Below w5.heap.size w5 w6 := hc rfl
          have hb := HB.out
          clear hc S34 S42 S76 S86
          simp only [Act.put, List.setIfInBounds_toArray, List.set_cons_zero, List.set_cons_succ]
          replace HX := Lib.hid (HX.out.later hq)
          replace HN := Lib.hid (HN.out.later hq)
          replace HK := Lib.hid (HK.out.later hq)
          replace HT := Lib.hid (HT.out.kept hq)
          replace HR := Lib.hid (StrsIn.kept HR.out hq)
          replace hb := hb.trans (hq.mono hb.size)
          clear hq
          go_wp2
          go_ret
          exact ⟨rfl, hb⟩
      · have d20 : decide ((100 : Int) < (c.size : Int)) = true := decide_eq_true (by omega)
        have d21 : decide (100 < c.size) = true := decide_eq_true (by omega)
        go_enter Try.func7, Try.ntmps7
        go_wp2_with (first | (go_at_call 8; refine (HG.out _ hb).step (w0 := w) (B := w.heap.size) hb hB ?_; clear hb hB; intro wg hb hB) | (go_at_call 9; refine (HSM.out _ hb).step ?_) | (go_at_call 10; refine HAW.out.step (w0 := w) (B := w.heap.size) hb hB ?_; clear hb hB; intro wa hb hB))
        go_ret
        exact ⟨rfl, hb⟩
end Go.Proofs.Ytppmmkmlngmafaa
