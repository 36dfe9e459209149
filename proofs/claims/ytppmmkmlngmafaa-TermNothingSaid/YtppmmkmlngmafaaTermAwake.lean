/- Layer 15's laws: the document's examples. -/
import Derived.Test.YtppmmkmlngmafaaTermLaws
import Derived.Test.YtppmmkmlngmafaaSliceKit
namespace Go.Proofs.Ytppmmkmlngmafaa
open Go Go.RowKit

set_option maxHeartbeats 4000000 in
set_option maxRecDepth 100000 in
theorem awake15_calls : Gives Try.prog 10 #[] (.bool true) := by
  intro w
  obtain ⟨hb, hB⟩ := start w
  clear hB
  go_enter Try.func10, Try.ntmps10
  go_wp2_with fail
  refine Calls.mono ((int_calls 5 (by decide) (by decide)) w) ?_
  rintro e w1 ⟨rfl, hq⟩
  replace hb := hb.trans (hq.mono hb.size)
  clear hq
  go_wp2_with fail
  refine Calls.mono ((bool_calls false) w1) ?_
  rintro e w2 ⟨rfl, hq⟩
  replace hb := hb.trans (hq.mono hb.size)
  clear hq
  go_wp2_with fail
  have hq : Below w2.heap.size w2 (w2.alloc (.cells #[.string (cellInt 5), .string ⟨#[]⟩, .string (boolCell false)] 9)) := Below.alloc (.refl _ _) (Nat.le_refl _) _
  have HROW := Lib.hid (lit_strs w2 9 [cellInt 5, ⟨#[]⟩, boolCell false] (by show 3 ≤ 1000; decide))
  dsimp only [List.map, List.length] at HROW
  replace hb := hb.trans (hq.mono hb.size)
  clear hq
  generalize World.alloc w2 _ = w3 at *
  go_wp2_with fail
  refine Calls.mono (col15_calls 1 (by decide) (by decide) w3) ?_
  intro e w4 hend
  obtain ⟨Aa, ca, e1, ht, hq⟩ := TermEnd.out hend
  have e2 : e = .returned (.agg #[.int .u8 99, .int .i64 1, .string ⟨#[]⟩, .slice Aa 0 ca]) := e1
  subst e2
  have Ha : Hid (TermIn w4 (.agg #[.int .u8 99, .int .i64 1, .string ⟨#[]⟩, .slice Aa 0 ca]) (colT15 1)) := ht
  clear hend e1 ht
  replace HROW := Lib.hid (StrsIn.kept HROW.out hq)
  replace hb := hb.trans (hq.mono hb.size)
  clear hq
  go_wp2_with fail
  refine Calls.mono (num15_calls 1 (by decide) (by decide) w4) ?_
  intro e w5 hend
  obtain ⟨Ab, cb, e1, ht, hq⟩ := TermEnd.out hend
  have e2 : e = .returned (.agg #[.int .u8 107, .int .i64 0, .string (cellInt 1), .slice Ab 0 cb]) := e1
  subst e2
  have Hb : Hid (TermIn w5 (.agg #[.int .u8 107, .int .i64 0, .string (cellInt 1), .slice Ab 0 cb]) (numT15 1)) := ht
  clear hend e1 ht
  replace HROW := Lib.hid (StrsIn.kept HROW.out hq)
  replace Ha := Lib.hid (Ha.out.kept hq)
  replace hb := hb.trans (hq.mono hb.size)
  clear hq
  go_wp2_with fail
  refine Calls.mono (two15_calls 61 (by decide) (by decide) Ha.out Hb.out) ?_
  intro e w6 hend
  obtain ⟨An, cn, e1, ht, hq⟩ := TermEnd.out hend
  have e2 : e = .returned (.agg #[.int .u8 61, .int .i64 0, .string ⟨#[]⟩, .slice An 2 cn]) := e1
  subst e2
  have Hn : Hid (TermIn w6 (.agg #[.int .u8 61, .int .i64 0, .string ⟨#[]⟩, .slice An 2 cn]) (twoT15 61 (colT15 1) (numT15 1))) := ht
  clear hend e1 ht
  replace HROW := Lib.hid (StrsIn.kept HROW.out hq)
  replace Ha := Lib.hid (Ha.out.kept hq)
  replace Hb := Lib.hid (Hb.out.kept hq)
  replace hb := hb.trans (hq.mono hb.size)
  clear hq
  clear Ha Hb
  go_wp2_with fail
  have hq : Below w6.heap.size w6 (w6.alloc (.cells #[.int .u8 61, .int .i64 0, .string ⟨#[]⟩, .slice An 2 cn] 24)) := Below.alloc (.refl _ _) (Nat.le_refl _) _
  have HBN := Lib.hid (trmbox_lit w6 24 61 0 ⟨#[]⟩ (.slice An 2 cn))
  replace HROW := Lib.hid (StrsIn.kept HROW.out hq)
  replace Hn := Lib.hid (Hn.out.kept hq)
  replace hb := hb.trans (hq.mono hb.size)
  clear hq
  generalize World.alloc w6 _ = w7 at *
  go_wp2_with fail
  refine Calls.mono (col15_calls 0 (by decide) (by decide) w7) ?_
  intro e w8 hend
  obtain ⟨Ap, cp, e1, ht, hq⟩ := TermEnd.out hend
  have e2 : e = .returned (.agg #[.int .u8 99, .int .i64 0, .string ⟨#[]⟩, .slice Ap 0 cp]) := e1
  subst e2
  have Hp : Hid (TermIn w8 (.agg #[.int .u8 99, .int .i64 0, .string ⟨#[]⟩, .slice Ap 0 cp]) (colT15 0)) := ht
  clear hend e1 ht
  replace HROW := Lib.hid (StrsIn.kept HROW.out hq)
  replace Hn := Lib.hid (Hn.out.kept hq)
  replace HBN := Lib.hid (HBN.out.later hq)
  replace hb := hb.trans (hq.mono hb.size)
  clear hq
  go_wp2_with fail
  refine Calls.mono (num15_calls 9 (by decide) (by decide) w8) ?_
  intro e w9 hend
  obtain ⟨Aq, cq, e1, ht, hq⟩ := TermEnd.out hend
  have e2 : e = .returned (.agg #[.int .u8 107, .int .i64 0, .string (cellInt 9), .slice Aq 0 cq]) := e1
  subst e2
  have Hq : Hid (TermIn w9 (.agg #[.int .u8 107, .int .i64 0, .string (cellInt 9), .slice Aq 0 cq]) (numT15 9)) := ht
  clear hend e1 ht
  replace HROW := Lib.hid (StrsIn.kept HROW.out hq)
  replace Hn := Lib.hid (Hn.out.kept hq)
  replace HBN := Lib.hid (HBN.out.later hq)
  replace Hp := Lib.hid (Hp.out.kept hq)
  replace hb := hb.trans (hq.mono hb.size)
  clear hq
  go_wp2_with fail
  refine Calls.mono (two15_calls 60 (by decide) (by decide) Hp.out Hq.out) ?_
  intro e w10 hend
  obtain ⟨Ar, cr, e1, ht, hq⟩ := TermEnd.out hend
  have e2 : e = .returned (.agg #[.int .u8 60, .int .i64 0, .string ⟨#[]⟩, .slice Ar 2 cr]) := e1
  subst e2
  have Hr : Hid (TermIn w10 (.agg #[.int .u8 60, .int .i64 0, .string ⟨#[]⟩, .slice Ar 2 cr]) (twoT15 60 (colT15 0) (numT15 9))) := ht
  clear hend e1 ht
  replace HROW := Lib.hid (StrsIn.kept HROW.out hq)
  replace Hn := Lib.hid (Hn.out.kept hq)
  replace HBN := Lib.hid (HBN.out.later hq)
  replace Hp := Lib.hid (Hp.out.kept hq)
  replace Hq := Lib.hid (Hq.out.kept hq)
  replace hb := hb.trans (hq.mono hb.size)
  clear hq
  clear Hp Hq
  go_wp2_with fail
  have hq : Below w10.heap.size w10 (w10.alloc (.cells #[.int .i64 3] 3)) := Below.alloc (.refl _ _) (Nat.le_refl _) _
  have HI := Lib.hid (lit_ints w10 3 [3] (by show 1 ≤ 1000; decide))
  dsimp only [List.map, List.length] at HI
  replace HROW := Lib.hid (StrsIn.kept HROW.out hq)
  replace Hn := Lib.hid (Hn.out.kept hq)
  replace HBN := Lib.hid (HBN.out.later hq)
  replace Hr := Lib.hid (Hr.out.kept hq)
  replace hb := hb.trans (hq.mono hb.size)
  clear hq
  generalize World.alloc w10 _ = w11 at *
  have hs := term_shift_calls (to := [3]) (by decide) (twoT15 60 (colT15 0) (numT15 9)) (few_two few_leaf few_leaf) Hr.out HI.out
  rw [show shiftT [3] (twoT15 60 (colT15 0) (numT15 9)) = some (twoT15 60 (colT15 3) (numT15 9)) from rfl] at hs
  go_wp2_with fail
  refine Calls.mono hs ?_
  clear hs
  rintro e w12 ⟨v, e1, ⟨kv, e3, ok, hk⟩, hq⟩
  obtain ⟨Ax, cx, rfl, -⟩ := kids_at hk
  have e2 : e = .returned (.tuple #[.agg #[.int .u8 60, .int .i64 0, .string ⟨#[]⟩, .slice Ax 2 cx], .bool true]) := by rw [e1, e3]; rfl
  subst e2
  have HS : Hid (KidsIn w12 (.slice Ax 2 cx) [colT15 3, numT15 9]) := hk
  clear e1 e3 ok hk v
  replace HROW := Lib.hid (StrsIn.kept HROW.out hq)
  replace Hn := Lib.hid (Hn.out.kept hq)
  replace HBN := Lib.hid (HBN.out.later hq)
  replace Hr := Lib.hid (Hr.out.kept hq)
  replace HI := Lib.hid (IntsIn.kept HI.out hq)
  replace hb := hb.trans (hq.mono hb.size)
  clear hq
  clear Hr HI
  go_wp2_with fail
  have hq : Below w12.heap.size w12 (w12.alloc (.cells #[.int .u8 60, .int .i64 0, .string ⟨#[]⟩, .slice Ax 2 cx] 24)) := Below.alloc (.refl _ _) (Nat.le_refl _) _
  have HB3 := Lib.hid (trmbox_lit w12 24 60 0 ⟨#[]⟩ (.slice Ax 2 cx))
  replace HROW := Lib.hid (StrsIn.kept HROW.out hq)
  replace Hn := Lib.hid (Hn.out.kept hq)
  replace HBN := Lib.hid (HBN.out.later hq)
  replace HS := Lib.hid (HS.out.kept hq)
  replace hb := hb.trans (hq.mono hb.size)
  clear hq
  generalize World.alloc w12 _ = w13 at *
  go_wp2_with fail
  refine Calls.mono (col15_calls 1 (by decide) (by decide) w13) ?_
  intro e w14 hend
  obtain ⟨Ad, cd, e1, ht, hq⟩ := TermEnd.out hend
  have e2 : e = .returned (.agg #[.int .u8 99, .int .i64 1, .string ⟨#[]⟩, .slice Ad 0 cd]) := e1
  subst e2
  have Hd : Hid (TermIn w14 (.agg #[.int .u8 99, .int .i64 1, .string ⟨#[]⟩, .slice Ad 0 cd]) (colT15 1)) := ht
  clear hend e1 ht
  replace HROW := Lib.hid (StrsIn.kept HROW.out hq)
  replace Hn := Lib.hid (Hn.out.kept hq)
  replace HBN := Lib.hid (HBN.out.later hq)
  replace HS := Lib.hid (HS.out.kept hq)
  replace HB3 := Lib.hid (HB3.out.later hq)
  replace hb := hb.trans (hq.mono hb.size)
  clear hq
  go_wp2_with fail
  have hq : Below w14.heap.size w14 (w14.alloc (.cells #[.int .i64 3, .int .i64 (-1)] 3)) := Below.alloc (.refl _ _) (Nat.le_refl _) _
  have HJ := Lib.hid (lit_ints w14 3 [3, -1] (by show 2 ≤ 1000; decide))
  dsimp only [List.map, List.length] at HJ
  replace HROW := Lib.hid (StrsIn.kept HROW.out hq)
  replace Hn := Lib.hid (Hn.out.kept hq)
  replace HBN := Lib.hid (HBN.out.later hq)
  replace HS := Lib.hid (HS.out.kept hq)
  replace HB3 := Lib.hid (HB3.out.later hq)
  replace Hd := Lib.hid (Hd.out.kept hq)
  replace hb := hb.trans (hq.mono hb.size)
  clear hq
  generalize World.alloc w14 _ = w15 at *
  have hs := term_shift_calls (to := [3, -1]) (by decide) (colT15 1) few_leaf Hd.out HJ.out
  rw [show shiftT [3, -1] (colT15 1) = none from rfl] at hs
  go_wp2_with fail
  refine Calls.mono hs ?_
  clear hs
  rintro e w16 ⟨rfl, hq⟩
  replace HROW := Lib.hid (StrsIn.kept HROW.out hq)
  replace Hn := Lib.hid (Hn.out.kept hq)
  replace HBN := Lib.hid (HBN.out.later hq)
  replace HS := Lib.hid (HS.out.kept hq)
  replace HB3 := Lib.hid (HB3.out.later hq)
  replace Hd := Lib.hid (Hd.out.kept hq)
  replace HJ := Lib.hid (IntsIn.kept HJ.out hq)
  replace hb := hb.trans (hq.mono hb.size)
  clear hq
  clear Hd HJ
  go_wp2_with fail
  have hq : Below w16.heap.size w16 (w16.alloc (.cells #[.int .u8 0, .int .i64 0, .string ⟨#[]⟩, .slice none 0 0] 24)) := Below.alloc (.refl _ _) (Nat.le_refl _) _
  replace HROW := Lib.hid (StrsIn.kept HROW.out hq)
  replace Hn := Lib.hid (Hn.out.kept hq)
  replace HBN := Lib.hid (HBN.out.later hq)
  replace HS := Lib.hid (HS.out.kept hq)
  replace HB3 := Lib.hid (HB3.out.later hq)
  replace hb := hb.trans (hq.mono hb.size)
  clear hq
  generalize World.alloc w16 _ = w17 at *
  have h00 : (⟨#[]⟩ : ByteArray).toList = [] := empty_toList
  obtain ⟨A', c', e, hat⟩ := kids_at HS.out
  obtain ⟨b9, off9, ea, hl9, hc⟩ := hat 0 (by decide)
  obtain ⟨kv, _, _, c0, c1, c2, c3⟩ := hc 0 (by decide)
  injection e with e1
  subst e1
  subst ea
  have HC9 : Hid (w17.cell? ⟨b9, off9 + 1, none⟩ = some (.int .i64 3)) := Lib.hid (by simpa [colT15, Trm.col] using c1)
  have HL9 := Lib.hid hl9
  clear c0 c1 c2 c3 hat hc hl9 h00
  have HB := Lib.hid hb
  clear hb
  go_wp2_with fail
  refine wp_region_calm (offC w17) (fun _ => false) (fun _ => false) anyE false (by kernel_rfl) (by kernel_rfl) (by kernel_rfl) (by kernel_rfl) (by intro m hm; revert hm; simp; try omega) (offC_stable _) (offC_start _) ?_
  simp only [List.append_eq, List.cons_append, List.nil_append]
  refine calm_varA (TrmP (colT15 0) 99 0 ⟨#[]⟩ 0) rfl rfl TrmP.kept (fun a wz hc hk hf K hK => ?_) ?_
  · have hb : Below w17.heap.size w17 wz := hc rfl
    clear hk hf hc
    go_simp
    refine Calls.mono (col15_calls 0 (by decide) (by decide) wz) ?_
    intro e w1 hend
    obtain ⟨A1, c1, e1, ht, hq⟩ := TermEnd.out hend
    have e2 : e = .returned (.agg #[.int .u8 99, .int .i64 0, .string ⟨#[]⟩, .slice A1 0 c1]) := e1
    subst e2
    exact hK _ _ hq (fun _ => ⟨A1, c1, rfl, ht⟩)
  refine calm_varA (TrmP (numT15 9) 107 0 (cellInt 9) 0) rfl rfl TrmP.kept (fun a wz hc hk hf K hK => ?_) ?_
  · have hb : Below w17.heap.size w17 wz := hc rfl
    clear hk hf hc
    go_simp
    refine Calls.mono (num15_calls 9 (by decide) (by decide) wz) ?_
    intro e w1 hend
    obtain ⟨A1, c1, e1, ht, hq⟩ := TermEnd.out hend
    have e2 : e = .returned (.agg #[.int .u8 107, .int .i64 0, .string (cellInt 9), .slice A1 0 c1]) := e1
    subst e2
    exact hK _ _ hq (fun _ => ⟨A1, c1, rfl, ht⟩)
  refine calm_varA (TrmP (twoT15 60 (colT15 0) (numT15 9)) 60 0 ⟨#[]⟩ 2) rfl rfl TrmP.kept (fun a wz hc hk hf K hK => ?_) ?_
  · have hb : Below w17.heap.size w17 wz := hc rfl
    obtain ⟨v27, h27, S27⟩ := held_at hf 1 rfl (by kernel_rfl)
    obtain ⟨v28, h28, S28⟩ := held_at hf 0 rfl (by kernel_rfl)
    clear hk hf hc
    obtain ⟨A27, p27, rfl, s27⟩ := S27 rfl
    obtain ⟨A28, p28, rfl, s28⟩ := S28 rfl
    go_simp
    refine Calls.mono (two15_calls 60 (by decide) (by decide) s27 s28) ?_
    intro e w1 hend
    obtain ⟨A1, c1, e1, ht, hq⟩ := TermEnd.out hend
    have e2 : e = .returned (.agg #[.int .u8 60, .int .i64 0, .string ⟨#[]⟩, .slice A1 2 c1]) := e1
    subst e2
    exact hK _ _ hq (fun _ => ⟨A1, c1, rfl, ht⟩)
  refine calm_fixA rfl rfl ?_
  apply Exists.intro
  refine ⟨fun a wz hc hk hf K hK => ?_, ?_⟩
  · have h1 := hk 1 (by kernel_rfl)
    clear hk hf hc
    go_simp
    exact hK _ _ (Below.refl _ _) rfl
  refine calm_fixA rfl rfl ?_
  apply Exists.intro
  refine ⟨fun a wz hc hk hf K hK => ?_, ?_⟩
  · have hb : Below w17.heap.size w17 wz := hc rfl
    obtain ⟨v29, h29, S29⟩ := held_at hf 1 rfl (by kernel_rfl)
    have h30 := held_isV hf 0 rfl (by kernel_rfl)
    clear hk hf hc
    obtain ⟨A29, p29, rfl, s29⟩ := S29 rfl
    have hs := term_eval_calls (twoT15 60 (colT15 0) (numT15 9)) s29 (StrsIn.kept HROW.out hb)
    rw [show evalT [cellInt 5, ⟨#[]⟩, boolCell false] (twoT15 60 (colT15 0) (numT15 9)) = boolCell true from by decide +kernel] at hs
    go_simp
    refine Calls.mono (hs) ?_
    rintro e w1 ⟨rfl, hq⟩
    exact hK _ _ hq rfl
  refine calm_fixA rfl rfl ?_
  apply Exists.intro
  refine ⟨fun a wz hc hk hf K hK => ?_, ?_⟩
  · have hb : Below w17.heap.size w17 wz := hc rfl
    clear hk hf hc
    go_simp
    refine Calls.mono (bool_calls true wz) ?_
    rintro e w1 ⟨rfl, hq⟩
    exact hK _ _ hq rfl
  refine calm_fixA rfl rfl ?_
  apply Exists.intro
  refine ⟨fun a wz hc hk hf K hK => ?_, ?_⟩
  · have hb : Below w17.heap.size w17 wz := hc rfl
    have h31 := held_isV hf 1 rfl (by kernel_rfl)
    have h32 := held_isV hf 0 rfl (by kernel_rfl)
    clear hk hf hc
    have h00 : (⟨#[]⟩ : ByteArray).toList = [] := empty_toList
    go_simp
    exact hK _ _ (Below.refl _ _) rfl
  refine calm_fixA rfl rfl ?_
  apply Exists.intro
  refine ⟨fun a wz hc hk hf K hK => ?_, ?_⟩
  · have h33 := held_isV hf 0 rfl (by kernel_rfl)
    clear hk hf hc
    go_simp
    exact hK _ _ (Below.refl _ _) rfl
  refine calm_fixA rfl rfl ?_
  apply Exists.intro
  refine ⟨fun a wz hc hk hf K hK => ?_, ?_⟩
  · have hb : Below w17.heap.size w17 wz := hc rfl
    have h2 := hk 2 (by kernel_rfl)
    have h34 := held_isV hf 0 rfl (by kernel_rfl)
    clear hk hf hc
    obtain ⟨y0, y1, y2, y3, _⟩ := (HBN.out.later hb).cells
    go_simp
    exact hK _ _ (Below.refl _ _) rfl
  refine calm_fixA rfl rfl ?_
  apply Exists.intro
  refine ⟨fun a wz hc hk hf K hK => ?_, ?_⟩
  · have h1 := hk 1 (by kernel_rfl)
    have h34 := held_isV hf 1 rfl (by kernel_rfl)
    clear hk hf hc
    go_simp
    exact hK _ _ (Below.refl _ _) rfl
  refine calm_fixA rfl rfl ?_
  apply Exists.intro
  refine ⟨fun a wz hc hk hf K hK => ?_, ?_⟩
  · have hb : Below w17.heap.size w17 wz := hc rfl
    have h35 := held_isV hf 1 rfl (by kernel_rfl)
    have h36 := held_isV hf 0 rfl (by kernel_rfl)
    have h34 := held_isV hf 2 rfl (by kernel_rfl)
    clear hk hf hc
    have hs := term_eval_calls (twoT15 61 (colT15 1) (numT15 1)) (Hn.out.kept hb) (StrsIn.kept HROW.out hb)
    rw [show evalT [cellInt 5, ⟨#[]⟩, boolCell false] (twoT15 61 (colT15 1) (numT15 1)) = ⟨#[]⟩ from by decide +kernel] at hs
    go_simp
    refine Calls.mono (hs) ?_
    rintro e w1 ⟨rfl, hq⟩
    exact hK _ _ hq rfl
  refine calm_fixA rfl rfl ?_
  apply Exists.intro
  refine ⟨fun a wz hc hk hf K hK => ?_, ?_⟩
  · have hb : Below w17.heap.size w17 wz := hc rfl
    have h37 := held_isV hf 0 rfl (by kernel_rfl)
    have h34 := held_isV hf 3 rfl (by kernel_rfl)
    clear hk hf hc
    have h00 : (⟨#[]⟩ : ByteArray).toList = [] := empty_toList
    go_simp
    exact hK _ _ (Below.refl _ _) rfl
  refine calm_fixA rfl rfl ?_
  apply Exists.intro
  refine ⟨fun a wz hc hk hf K hK => ?_, ?_⟩
  · have h34 := held_isV hf 4 rfl (by kernel_rfl)
    have h38 := held_isV hf 0 rfl (by kernel_rfl)
    clear hk hf hc
    go_simp
    exact hK _ _ (Below.refl _ _) rfl
  refine calm_fixA rfl rfl ?_
  apply Exists.intro
  refine ⟨fun a wz hc hk hf K hK => ?_, ?_⟩
  · have h39 := held_isV hf 0 rfl (by kernel_rfl)
    clear hk hf hc
    go_simp
    exact hK _ _ (Below.refl _ _) rfl
  refine calm_fixA rfl rfl ?_
  apply Exists.intro
  refine ⟨fun a wz hc hk hf K hK => ?_, ?_⟩
  · have hb : Below w17.heap.size w17 wz := hc rfl
    have h2 := hk 2 (by kernel_rfl)
    have h40 := held_isV hf 0 rfl (by kernel_rfl)
    clear hk hf hc
    obtain ⟨y0, y1, y2, y3, _⟩ := (HBN.out.later hb).cells
    go_simp
    exact hK _ _ (Below.refl _ _) rfl
  refine calm_varA (TrmP (colT15 2) 99 2 ⟨#[]⟩ 0) rfl rfl TrmP.kept (fun a wz hc hk hf K hK => ?_) ?_
  · have hb : Below w17.heap.size w17 wz := hc rfl
    have h40 := held_isV hf 1 rfl (by kernel_rfl)
    clear hk hf hc
    go_simp
    refine Calls.mono (col15_calls 2 (by decide) (by decide) wz) ?_
    intro e w1 hend
    obtain ⟨A1, c1, e1, ht, hq⟩ := TermEnd.out hend
    have e2 : e = .returned (.agg #[.int .u8 99, .int .i64 2, .string ⟨#[]⟩, .slice A1 0 c1]) := e1
    subst e2
    exact hK _ _ hq (fun _ => ⟨A1, c1, rfl, ht⟩)
  refine calm_varA (TrmP (twoT15 38 (twoT15 61 (colT15 1) (numT15 1)) (colT15 2)) 38 0 ⟨#[]⟩ 2) rfl rfl TrmP.kept (fun a wz hc hk hf K hK => ?_) ?_
  · have hb : Below w17.heap.size w17 wz := hc rfl
    have h41 := held_isV hf 1 rfl (by kernel_rfl)
    obtain ⟨v42, h42, S42⟩ := held_at hf 0 rfl (by kernel_rfl)
    have h40 := held_isV hf 2 rfl (by kernel_rfl)
    clear hk hf hc
    obtain ⟨A42, p42, rfl, s42⟩ := S42 rfl
    go_simp
    refine Calls.mono (two15_calls 38 (by decide) (by decide) (Hn.out.kept hb) s42) ?_
    intro e w1 hend
    obtain ⟨A1, c1, e1, ht, hq⟩ := TermEnd.out hend
    have e2 : e = .returned (.agg #[.int .u8 38, .int .i64 0, .string ⟨#[]⟩, .slice A1 2 c1]) := e1
    subst e2
    exact hK _ _ hq (fun _ => ⟨A1, c1, rfl, ht⟩)
  refine calm_fixA rfl rfl ?_
  apply Exists.intro
  refine ⟨fun a wz hc hk hf K hK => ?_, ?_⟩
  · have h1 := hk 1 (by kernel_rfl)
    have h40 := held_isV hf 3 rfl (by kernel_rfl)
    clear hk hf hc
    go_simp
    exact hK _ _ (Below.refl _ _) rfl
  refine calm_fixA rfl rfl ?_
  apply Exists.intro
  refine ⟨fun a wz hc hk hf K hK => ?_, ?_⟩
  · have hb : Below w17.heap.size w17 wz := hc rfl
    obtain ⟨v43, h43, S43⟩ := held_at hf 1 rfl (by kernel_rfl)
    have h44 := held_isV hf 0 rfl (by kernel_rfl)
    have h40 := held_isV hf 4 rfl (by kernel_rfl)
    clear hk hf hc
    obtain ⟨A43, p43, rfl, s43⟩ := S43 rfl
    have hs := term_eval_calls (twoT15 38 (twoT15 61 (colT15 1) (numT15 1)) (colT15 2)) s43 (StrsIn.kept HROW.out hb)
    rw [show evalT [cellInt 5, ⟨#[]⟩, boolCell false] (twoT15 38 (twoT15 61 (colT15 1) (numT15 1)) (colT15 2)) = boolCell false from by decide +kernel] at hs
    go_simp
    refine Calls.mono (hs) ?_
    rintro e w1 ⟨rfl, hq⟩
    exact hK _ _ hq rfl
  refine calm_fixA rfl rfl ?_
  apply Exists.intro
  refine ⟨fun a wz hc hk hf K hK => ?_, ?_⟩
  · have hb : Below w17.heap.size w17 wz := hc rfl
    have h40 := held_isV hf 5 rfl (by kernel_rfl)
    clear hk hf hc
    go_simp
    refine Calls.mono (bool_calls false wz) ?_
    rintro e w1 ⟨rfl, hq⟩
    exact hK _ _ hq rfl
  refine calm_fixA rfl rfl ?_
  apply Exists.intro
  refine ⟨fun a wz hc hk hf K hK => ?_, ?_⟩
  · have hb : Below w17.heap.size w17 wz := hc rfl
    have h45 := held_isV hf 1 rfl (by kernel_rfl)
    have h46 := held_isV hf 0 rfl (by kernel_rfl)
    have h40 := held_isV hf 6 rfl (by kernel_rfl)
    clear hk hf hc
    have h00 : (⟨#[]⟩ : ByteArray).toList = [] := empty_toList
    go_simp
    exact hK _ _ (Below.refl _ _) rfl
  refine calm_fixA rfl rfl ?_
  apply Exists.intro
  refine ⟨fun a wz hc hk hf K hK => ?_, ?_⟩
  · have h40 := held_isV hf 7 rfl (by kernel_rfl)
    have h47 := held_isV hf 0 rfl (by kernel_rfl)
    clear hk hf hc
    go_simp
    exact hK _ _ (Below.refl _ _) rfl
  refine calm_fixA rfl rfl ?_
  apply Exists.intro
  refine ⟨fun a wz hc hk hf K hK => ?_, ?_⟩
  · have h48 := held_isV hf 0 rfl (by kernel_rfl)
    clear hk hf hc
    go_simp
    exact hK _ _ (Below.refl _ _) rfl
  refine calm_fixA rfl rfl ?_
  apply Exists.intro
  refine ⟨fun a wz hc hk hf K hK => ?_, ?_⟩
  · have hb : Below w17.heap.size w17 wz := hc rfl
    have h2 := hk 2 (by kernel_rfl)
    have h49 := held_isV hf 0 rfl (by kernel_rfl)
    clear hk hf hc
    obtain ⟨y0, y1, y2, y3, _⟩ := (HBN.out.later hb).cells
    go_simp
    exact hK _ _ (Below.refl _ _) rfl
  refine calm_varA (TrmP (colT15 2) 99 2 ⟨#[]⟩ 0) rfl rfl TrmP.kept (fun a wz hc hk hf K hK => ?_) ?_
  · have hb : Below w17.heap.size w17 wz := hc rfl
    have h49 := held_isV hf 1 rfl (by kernel_rfl)
    clear hk hf hc
    go_simp
    refine Calls.mono (col15_calls 2 (by decide) (by decide) wz) ?_
    intro e w1 hend
    obtain ⟨A1, c1, e1, ht, hq⟩ := TermEnd.out hend
    have e2 : e = .returned (.agg #[.int .u8 99, .int .i64 2, .string ⟨#[]⟩, .slice A1 0 c1]) := e1
    subst e2
    exact hK _ _ hq (fun _ => ⟨A1, c1, rfl, ht⟩)
  refine calm_varA (TrmP (twoT15 124 (twoT15 61 (colT15 1) (numT15 1)) (colT15 2)) 124 0 ⟨#[]⟩ 2) rfl rfl TrmP.kept (fun a wz hc hk hf K hK => ?_) ?_
  · have hb : Below w17.heap.size w17 wz := hc rfl
    have h50 := held_isV hf 1 rfl (by kernel_rfl)
    obtain ⟨v51, h51, S51⟩ := held_at hf 0 rfl (by kernel_rfl)
    have h49 := held_isV hf 2 rfl (by kernel_rfl)
    clear hk hf hc
    obtain ⟨A51, p51, rfl, s51⟩ := S51 rfl
    go_simp
    refine Calls.mono (two15_calls 124 (by decide) (by decide) (Hn.out.kept hb) s51) ?_
    intro e w1 hend
    obtain ⟨A1, c1, e1, ht, hq⟩ := TermEnd.out hend
    have e2 : e = .returned (.agg #[.int .u8 124, .int .i64 0, .string ⟨#[]⟩, .slice A1 2 c1]) := e1
    subst e2
    exact hK _ _ hq (fun _ => ⟨A1, c1, rfl, ht⟩)
  refine calm_fixA rfl rfl ?_
  apply Exists.intro
  refine ⟨fun a wz hc hk hf K hK => ?_, ?_⟩
  · have h1 := hk 1 (by kernel_rfl)
    have h49 := held_isV hf 3 rfl (by kernel_rfl)
    clear hk hf hc
    go_simp
    exact hK _ _ (Below.refl _ _) rfl
  refine calm_fixA rfl rfl ?_
  apply Exists.intro
  refine ⟨fun a wz hc hk hf K hK => ?_, ?_⟩
  · have hb : Below w17.heap.size w17 wz := hc rfl
    obtain ⟨v52, h52, S52⟩ := held_at hf 1 rfl (by kernel_rfl)
    have h53 := held_isV hf 0 rfl (by kernel_rfl)
    have h49 := held_isV hf 4 rfl (by kernel_rfl)
    clear hk hf hc
    obtain ⟨A52, p52, rfl, s52⟩ := S52 rfl
    have hs := term_eval_calls (twoT15 124 (twoT15 61 (colT15 1) (numT15 1)) (colT15 2)) s52 (StrsIn.kept HROW.out hb)
    rw [show evalT [cellInt 5, ⟨#[]⟩, boolCell false] (twoT15 124 (twoT15 61 (colT15 1) (numT15 1)) (colT15 2)) = ⟨#[]⟩ from by decide +kernel] at hs
    go_simp
    refine Calls.mono (hs) ?_
    rintro e w1 ⟨rfl, hq⟩
    exact hK _ _ hq rfl
  refine calm_fixA rfl rfl ?_
  apply Exists.intro
  refine ⟨fun a wz hc hk hf K hK => ?_, ?_⟩
  · have hb : Below w17.heap.size w17 wz := hc rfl
    have h54 := held_isV hf 0 rfl (by kernel_rfl)
    have h49 := held_isV hf 5 rfl (by kernel_rfl)
    clear hk hf hc
    have h00 : (⟨#[]⟩ : ByteArray).toList = [] := empty_toList
    go_simp
    exact hK _ _ (Below.refl _ _) rfl
  refine calm_fixA rfl rfl ?_
  apply Exists.intro
  refine ⟨fun a wz hc hk hf K hK => ?_, ?_⟩
  · have h49 := held_isV hf 6 rfl (by kernel_rfl)
    have h55 := held_isV hf 0 rfl (by kernel_rfl)
    clear hk hf hc
    go_simp
    exact hK _ _ (Below.refl _ _) rfl
  refine calm_fixA rfl rfl ?_
  apply Exists.intro
  refine ⟨fun a wz hc hk hf K hK => ?_, ?_⟩
  · have h56 := held_isV hf 0 rfl (by kernel_rfl)
    clear hk hf hc
    go_simp
    exact hK _ _ (Below.refl _ _) rfl
  refine calm_varA (TrmP (colT15 2) 99 2 ⟨#[]⟩ 0) rfl rfl TrmP.kept (fun a wz hc hk hf K hK => ?_) ?_
  · have hb : Below w17.heap.size w17 wz := hc rfl
    have h57 := held_isV hf 0 rfl (by kernel_rfl)
    clear hk hf hc
    go_simp
    refine Calls.mono (col15_calls 2 (by decide) (by decide) wz) ?_
    intro e w1 hend
    obtain ⟨A1, c1, e1, ht, hq⟩ := TermEnd.out hend
    have e2 : e = .returned (.agg #[.int .u8 99, .int .i64 2, .string ⟨#[]⟩, .slice A1 0 c1]) := e1
    subst e2
    exact hK _ _ hq (fun _ => ⟨A1, c1, rfl, ht⟩)
  refine calm_varA (KidP [colT15 2] 1) rfl rfl KidP.kept (fun a wz hc hk hf K hK => ?_) ?_
  · have hb : Below w17.heap.size w17 wz := hc rfl
    obtain ⟨v58, h58, S58⟩ := held_at hf 0 rfl (by kernel_rfl)
    have h57 := held_isV hf 1 rfl (by kernel_rfl)
    clear hk hf hc
    obtain ⟨A58, p58, rfl, s58⟩ := S58 rfl
    obtain ⟨kv58, e58, ho58, hk58⟩ := s58
    have e9 : Value.slice A58 0 p58 = kv58 := by simp only [trmA, Value.agg.injEq, Array.mk.injEq, List.cons.injEq, and_true] at e58; exact e58.2.2.2
    subst e9
    have hkk := kids_lit (w := wz) 24 [(.slice A58 0 p58, colT15 2)] (fun t ht => by rw [List.mem_singleton.1 ht]; exact ⟨ho58, hk58⟩) (by show 1 ≤ 1000; decide) rfl rfl rfl #[.int .u8 99, .int .i64 2, .string ⟨#[]⟩, .slice A58 0 p58] rfl
    go_simp
    exact hK _ _ (Below.alloc (.refl _ _) (Nat.le_refl _) _) (fun _ => ⟨_, _, rfl, hkk⟩)
  refine calm_varA (TrmP (oneT15 33 (colT15 2)) 33 0 ⟨#[]⟩ 1) rfl rfl TrmP.kept (fun a wz hc hk hf K hK => ?_) ?_
  · have hb : Below w17.heap.size w17 wz := hc rfl
    obtain ⟨v59, h59, S59⟩ := held_at hf 0 rfl (by kernel_rfl)
    have h57 := held_isV hf 2 rfl (by kernel_rfl)
    clear hk hf hc
    obtain ⟨A59, p59, rfl, s59⟩ := S59 rfl
    go_simp
    exact hK _ _ (Below.refl _ _) (fun _ => ⟨A59, p59, rfl, _, rfl, ⟨by show (0 : Int) ≤ 33; decide, by show (33 : Int) ≤ 255; decide, by show (-9223372036854775808 : Int) ≤ 0; decide, by show (0 : Int) ≤ 9223372036854775807; decide⟩, s59⟩)
  refine calm_fixA rfl rfl ?_
  apply Exists.intro
  refine ⟨fun a wz hc hk hf K hK => ?_, ?_⟩
  · have h1 := hk 1 (by kernel_rfl)
    have h57 := held_isV hf 3 rfl (by kernel_rfl)
    clear hk hf hc
    go_simp
    exact hK _ _ (Below.refl _ _) rfl
  refine calm_fixA rfl rfl ?_
  apply Exists.intro
  refine ⟨fun a wz hc hk hf K hK => ?_, ?_⟩
  · have hb : Below w17.heap.size w17 wz := hc rfl
    obtain ⟨v60, h60, S60⟩ := held_at hf 1 rfl (by kernel_rfl)
    have h61 := held_isV hf 0 rfl (by kernel_rfl)
    have h57 := held_isV hf 4 rfl (by kernel_rfl)
    clear hk hf hc
    obtain ⟨A60, p60, rfl, s60⟩ := S60 rfl
    have hs := term_eval_calls (oneT15 33 (colT15 2)) s60 (StrsIn.kept HROW.out hb)
    rw [show evalT [cellInt 5, ⟨#[]⟩, boolCell false] (oneT15 33 (colT15 2)) = boolCell true from by decide +kernel] at hs
    go_simp
    refine Calls.mono (hs) ?_
    rintro e w1 ⟨rfl, hq⟩
    exact hK _ _ hq rfl
  refine calm_fixA rfl rfl ?_
  apply Exists.intro
  refine ⟨fun a wz hc hk hf K hK => ?_, ?_⟩
  · have hb : Below w17.heap.size w17 wz := hc rfl
    have h57 := held_isV hf 5 rfl (by kernel_rfl)
    clear hk hf hc
    go_simp
    refine Calls.mono (bool_calls true wz) ?_
    rintro e w1 ⟨rfl, hq⟩
    exact hK _ _ hq rfl
  refine calm_fixA rfl rfl ?_
  apply Exists.intro
  refine ⟨fun a wz hc hk hf K hK => ?_, ?_⟩
  · have hb : Below w17.heap.size w17 wz := hc rfl
    have h62 := held_isV hf 1 rfl (by kernel_rfl)
    have h63 := held_isV hf 0 rfl (by kernel_rfl)
    have h57 := held_isV hf 6 rfl (by kernel_rfl)
    clear hk hf hc
    have h00 : (⟨#[]⟩ : ByteArray).toList = [] := empty_toList
    go_simp
    exact hK _ _ (Below.refl _ _) rfl
  refine calm_fixA rfl rfl ?_
  apply Exists.intro
  refine ⟨fun a wz hc hk hf K hK => ?_, ?_⟩
  · have h57 := held_isV hf 7 rfl (by kernel_rfl)
    have h64 := held_isV hf 0 rfl (by kernel_rfl)
    clear hk hf hc
    go_simp
    exact hK _ _ (Below.refl _ _) rfl
  refine calm_fixA rfl rfl ?_
  apply Exists.intro
  refine ⟨fun a wz hc hk hf K hK => ?_, ?_⟩
  · have h65 := held_isV hf 0 rfl (by kernel_rfl)
    clear hk hf hc
    go_simp
    exact hK _ _ (Below.refl _ _) rfl
  refine calm_varA (TrmP (colT15 1) 99 1 ⟨#[]⟩ 0) rfl rfl TrmP.kept (fun a wz hc hk hf K hK => ?_) ?_
  · have hb : Below w17.heap.size w17 wz := hc rfl
    have h66 := held_isV hf 0 rfl (by kernel_rfl)
    clear hk hf hc
    go_simp
    refine Calls.mono (col15_calls 1 (by decide) (by decide) wz) ?_
    intro e w1 hend
    obtain ⟨A1, c1, e1, ht, hq⟩ := TermEnd.out hend
    have e2 : e = .returned (.agg #[.int .u8 99, .int .i64 1, .string ⟨#[]⟩, .slice A1 0 c1]) := e1
    subst e2
    exact hK _ _ hq (fun _ => ⟨A1, c1, rfl, ht⟩)
  refine calm_varA (KidP [colT15 1] 1) rfl rfl KidP.kept (fun a wz hc hk hf K hK => ?_) ?_
  · have hb : Below w17.heap.size w17 wz := hc rfl
    obtain ⟨v67, h67, S67⟩ := held_at hf 0 rfl (by kernel_rfl)
    have h66 := held_isV hf 1 rfl (by kernel_rfl)
    clear hk hf hc
    obtain ⟨A67, p67, rfl, s67⟩ := S67 rfl
    obtain ⟨kv67, e67, ho67, hk67⟩ := s67
    have e9 : Value.slice A67 0 p67 = kv67 := by simp only [trmA, Value.agg.injEq, Array.mk.injEq, List.cons.injEq, and_true] at e67; exact e67.2.2.2
    subst e9
    have hkk := kids_lit (w := wz) 24 [(.slice A67 0 p67, colT15 1)] (fun t ht => by rw [List.mem_singleton.1 ht]; exact ⟨ho67, hk67⟩) (by show 1 ≤ 1000; decide) rfl rfl rfl #[.int .u8 99, .int .i64 1, .string ⟨#[]⟩, .slice A67 0 p67] rfl
    go_simp
    exact hK _ _ (Below.alloc (.refl _ _) (Nat.le_refl _) _) (fun _ => ⟨_, _, rfl, hkk⟩)
  refine calm_varA (TrmP (oneT15 63 (colT15 1)) 63 0 ⟨#[]⟩ 1) rfl rfl TrmP.kept (fun a wz hc hk hf K hK => ?_) ?_
  · have hb : Below w17.heap.size w17 wz := hc rfl
    obtain ⟨v68, h68, S68⟩ := held_at hf 0 rfl (by kernel_rfl)
    have h66 := held_isV hf 2 rfl (by kernel_rfl)
    clear hk hf hc
    obtain ⟨A68, p68, rfl, s68⟩ := S68 rfl
    go_simp
    exact hK _ _ (Below.refl _ _) (fun _ => ⟨A68, p68, rfl, _, rfl, ⟨by show (0 : Int) ≤ 63; decide, by show (63 : Int) ≤ 255; decide, by show (-9223372036854775808 : Int) ≤ 0; decide, by show (0 : Int) ≤ 9223372036854775807; decide⟩, s68⟩)
  refine calm_fixA rfl rfl ?_
  apply Exists.intro
  refine ⟨fun a wz hc hk hf K hK => ?_, ?_⟩
  · have h1 := hk 1 (by kernel_rfl)
    have h66 := held_isV hf 3 rfl (by kernel_rfl)
    clear hk hf hc
    go_simp
    exact hK _ _ (Below.refl _ _) rfl
  refine calm_fixA rfl rfl ?_
  apply Exists.intro
  refine ⟨fun a wz hc hk hf K hK => ?_, ?_⟩
  · have hb : Below w17.heap.size w17 wz := hc rfl
    obtain ⟨v69, h69, S69⟩ := held_at hf 1 rfl (by kernel_rfl)
    have h70 := held_isV hf 0 rfl (by kernel_rfl)
    have h66 := held_isV hf 4 rfl (by kernel_rfl)
    clear hk hf hc
    obtain ⟨A69, p69, rfl, s69⟩ := S69 rfl
    have hs := term_eval_calls (oneT15 63 (colT15 1)) s69 (StrsIn.kept HROW.out hb)
    rw [show evalT [cellInt 5, ⟨#[]⟩, boolCell false] (oneT15 63 (colT15 1)) = boolCell true from by decide +kernel] at hs
    go_simp
    refine Calls.mono (hs) ?_
    rintro e w1 ⟨rfl, hq⟩
    exact hK _ _ hq rfl
  refine calm_fixA rfl rfl ?_
  apply Exists.intro
  refine ⟨fun a wz hc hk hf K hK => ?_, ?_⟩
  · have hb : Below w17.heap.size w17 wz := hc rfl
    have h66 := held_isV hf 5 rfl (by kernel_rfl)
    clear hk hf hc
    go_simp
    refine Calls.mono (bool_calls true wz) ?_
    rintro e w1 ⟨rfl, hq⟩
    exact hK _ _ hq rfl
  refine calm_fixA rfl rfl ?_
  apply Exists.intro
  refine ⟨fun a wz hc hk hf K hK => ?_, ?_⟩
  · have hb : Below w17.heap.size w17 wz := hc rfl
    have h71 := held_isV hf 1 rfl (by kernel_rfl)
    have h72 := held_isV hf 0 rfl (by kernel_rfl)
    have h66 := held_isV hf 6 rfl (by kernel_rfl)
    clear hk hf hc
    have h00 : (⟨#[]⟩ : ByteArray).toList = [] := empty_toList
    go_simp
    exact hK _ _ (Below.refl _ _) rfl
  refine calm_fixA rfl rfl ?_
  apply Exists.intro
  refine ⟨fun a wz hc hk hf K hK => ?_, ?_⟩
  · have h66 := held_isV hf 7 rfl (by kernel_rfl)
    have h73 := held_isV hf 0 rfl (by kernel_rfl)
    clear hk hf hc
    go_simp
    exact hK _ _ (Below.refl _ _) rfl
  refine calm_fixA rfl rfl ?_
  apply Exists.intro
  refine ⟨fun a wz hc hk hf K hK => ?_, ?_⟩
  · have h74 := held_isV hf 0 rfl (by kernel_rfl)
    clear hk hf hc
    go_simp
    exact hK _ _ (Below.refl _ _) rfl
  refine calm_varA (TrmP (colT15 9) 99 9 ⟨#[]⟩ 0) rfl rfl TrmP.kept (fun a wz hc hk hf K hK => ?_) ?_
  · have hb : Below w17.heap.size w17 wz := hc rfl
    have h75 := held_isV hf 0 rfl (by kernel_rfl)
    clear hk hf hc
    go_simp
    refine Calls.mono (col15_calls 9 (by decide) (by decide) wz) ?_
    intro e w1 hend
    obtain ⟨A1, c1, e1, ht, hq⟩ := TermEnd.out hend
    have e2 : e = .returned (.agg #[.int .u8 99, .int .i64 9, .string ⟨#[]⟩, .slice A1 0 c1]) := e1
    subst e2
    exact hK _ _ hq (fun _ => ⟨A1, c1, rfl, ht⟩)
  refine calm_fixA rfl rfl ?_
  apply Exists.intro
  refine ⟨fun a wz hc hk hf K hK => ?_, ?_⟩
  · have h1 := hk 1 (by kernel_rfl)
    have h75 := held_isV hf 1 rfl (by kernel_rfl)
    clear hk hf hc
    go_simp
    exact hK _ _ (Below.refl _ _) rfl
  refine calm_fixA rfl rfl ?_
  apply Exists.intro
  refine ⟨fun a wz hc hk hf K hK => ?_, ?_⟩
  · have hb : Below w17.heap.size w17 wz := hc rfl
    obtain ⟨v76, h76, S76⟩ := held_at hf 1 rfl (by kernel_rfl)
    have h77 := held_isV hf 0 rfl (by kernel_rfl)
    have h75 := held_isV hf 2 rfl (by kernel_rfl)
    clear hk hf hc
    obtain ⟨A76, p76, rfl, s76⟩ := S76 rfl
    have hs := term_eval_calls (colT15 9) s76 (StrsIn.kept HROW.out hb)
    rw [show evalT [cellInt 5, ⟨#[]⟩, boolCell false] (colT15 9) = ⟨#[]⟩ from by decide +kernel] at hs
    go_simp
    refine Calls.mono (hs) ?_
    rintro e w1 ⟨rfl, hq⟩
    exact hK _ _ hq rfl
  refine calm_fixA rfl rfl ?_
  apply Exists.intro
  refine ⟨fun a wz hc hk hf K hK => ?_, ?_⟩
  · have hb : Below w17.heap.size w17 wz := hc rfl
    have h78 := held_isV hf 0 rfl (by kernel_rfl)
    have h75 := held_isV hf 3 rfl (by kernel_rfl)
    clear hk hf hc
    have h00 : (⟨#[]⟩ : ByteArray).toList = [] := empty_toList
    go_simp
    exact hK _ _ (Below.refl _ _) rfl
  refine calm_fixA rfl rfl ?_
  apply Exists.intro
  refine ⟨fun a wz hc hk hf K hK => ?_, ?_⟩
  · have h75 := held_isV hf 4 rfl (by kernel_rfl)
    have h79 := held_isV hf 0 rfl (by kernel_rfl)
    clear hk hf hc
    go_simp
    exact hK _ _ (Below.refl _ _) rfl
  refine calm_fixA rfl rfl ?_
  apply Exists.intro
  refine ⟨fun a wz hc hk hf K hK => ?_, ?_⟩
  · have h80 := held_isV hf 0 rfl (by kernel_rfl)
    clear hk hf hc
    go_simp
    exact hK _ _ (Below.refl _ _) rfl
  refine calm_fixA rfl rfl ?_
  apply Exists.intro
  refine ⟨fun a wz hc hk hf K hK => ?_, ?_⟩
  · have hb : Below w17.heap.size w17 wz := hc rfl
    have h2 := hk 2 (by kernel_rfl)
    have h81 := held_isV hf 0 rfl (by kernel_rfl)
    clear hk hf hc
    obtain ⟨y0, y1, y2, y3, _⟩ := (HBN.out.later hb).cells
    go_simp
    exact hK _ _ (Below.refl _ _) rfl
  refine calm_fixA rfl rfl ?_
  apply Exists.intro
  refine ⟨fun a wz hc hk hf K hK => ?_, ?_⟩
  · have hb : Below w17.heap.size w17 wz := hc rfl
    have h82 := held_isV hf 0 rfl (by kernel_rfl)
    have h81 := held_isV hf 1 rfl (by kernel_rfl)
    clear hk hf hc
    have hs := term_size_calls (twoT15 61 (colT15 1) (numT15 1)) (Hn.out.kept hb)
    rw [show wrap64 ((sizeT (twoT15 61 (colT15 1) (numT15 1)) : Nat) : Int) = 3 from by decide +kernel] at hs
    go_simp
    refine Calls.mono (hs) ?_
    rintro e w1 ⟨rfl, hq⟩
    exact hK _ _ hq rfl
  refine calm_fixA rfl rfl ?_
  apply Exists.intro
  refine ⟨fun a wz hc hk hf K hK => ?_, ?_⟩
  · have h83 := held_isV hf 0 rfl (by kernel_rfl)
    have h81 := held_isV hf 2 rfl (by kernel_rfl)
    clear hk hf hc
    go_simp
    exact hK _ _ (Below.refl _ _) rfl
  refine calm_fixA rfl rfl ?_
  apply Exists.intro
  refine ⟨fun a wz hc hk hf K hK => ?_, ?_⟩
  · have h81 := held_isV hf 3 rfl (by kernel_rfl)
    have h84 := held_isV hf 0 rfl (by kernel_rfl)
    clear hk hf hc
    go_simp
    exact hK _ _ (Below.refl _ _) rfl
  refine calm_fixA rfl rfl ?_
  apply Exists.intro
  refine ⟨fun a wz hc hk hf K hK => ?_, ?_⟩
  · have h85 := held_isV hf 0 rfl (by kernel_rfl)
    clear hk hf hc
    go_simp
    exact hK _ _ (Below.refl _ _) rfl
  refine calm_fixA rfl rfl ?_
  apply Exists.intro
  refine ⟨fun a wz hc hk hf K hK => ?_, ?_⟩
  · have h4 := hk 4 (by kernel_rfl)
    have h86 := held_isV hf 0 rfl (by kernel_rfl)
    clear hk hf hc
    go_simp
    exact hK _ _ (Below.refl _ _) rfl
  refine calm_fixA rfl rfl ?_
  apply Exists.intro
  refine ⟨fun a wz hc hk hf K hK => ?_, ?_⟩
  · have h86 := held_isV hf 1 rfl (by kernel_rfl)
    have h87 := held_isV hf 0 rfl (by kernel_rfl)
    clear hk hf hc
    go_simp
    exact hK _ _ (Below.refl _ _) rfl
  refine calm_fixA rfl rfl ?_
  apply Exists.intro
  refine ⟨fun a wz hc hk hf K hK => ?_, ?_⟩
  · have h88 := held_isV hf 0 rfl (by kernel_rfl)
    clear hk hf hc
    go_simp
    exact hK _ _ (Below.refl _ _) rfl
  refine calm_fixA rfl rfl ?_
  apply Exists.intro
  refine ⟨fun a wz hc hk hf K hK => ?_, ?_⟩
  · have h3 := hk 3 (by kernel_rfl)
    have h89 := held_isV hf 0 rfl (by kernel_rfl)
    clear hk hf hc
    go_simp
    exact hK _ _ (Below.refl _ _) rfl
  refine calm_fixA rfl rfl ?_
  apply Exists.intro
  refine ⟨fun a wz hc hk hf K hK => ?_, ?_⟩
  · have hb : Below w17.heap.size w17 wz := hc rfl
    have h90 := held_isV hf 0 rfl (by kernel_rfl)
    have h89 := held_isV hf 1 rfl (by kernel_rfl)
    clear hk hf hc
    obtain ⟨z0, z1, z2, z3, _⟩ := (HB3.out.later hb).cells
    go_simp
    exact hK _ _ (Below.refl _ _) rfl
  refine calm_fixA rfl rfl ?_
  apply Exists.intro
  refine ⟨fun a wz hc hk hf K hK => ?_, ?_⟩
  · have h91 := held_isV hf 0 rfl (by kernel_rfl)
    have h89 := held_isV hf 2 rfl (by kernel_rfl)
    clear hk hf hc
    go_simp
    exact hK _ _ (Below.refl _ _) rfl
  refine calm_fixA rfl rfl ?_
  apply Exists.intro
  refine ⟨fun a wz hc hk hf K hK => ?_, ?_⟩
  · have h92 := held_isV hf 0 rfl (by kernel_rfl)
    have h89 := held_isV hf 3 rfl (by kernel_rfl)
    clear hk hf hc
    go_simp
    exact hK _ _ (Below.refl _ _) rfl
  refine calm_fixA rfl rfl ?_
  apply Exists.intro
  refine ⟨fun a wz hc hk hf K hK => ?_, ?_⟩
  · have hb : Below w17.heap.size w17 wz := hc rfl
    have h93 := held_isV hf 0 rfl (by kernel_rfl)
    have h89 := held_isV hf 4 rfl (by kernel_rfl)
    clear hk hf hc
    have c9 := (hb.cell (p := ⟨b9, off9 + 1, none⟩) HL9.out).trans HC9.out
    go_simp
    exact hK _ _ (Below.refl _ _) rfl
  refine calm_fixA rfl rfl ?_
  apply Exists.intro
  refine ⟨fun a wz hc hk hf K hK => ?_, ?_⟩
  · have h94 := held_isV hf 0 rfl (by kernel_rfl)
    have h89 := held_isV hf 5 rfl (by kernel_rfl)
    clear hk hf hc
    go_simp
    exact hK _ _ (Below.refl _ _) rfl
  refine calm_fixA rfl rfl ?_
  apply Exists.intro
  refine ⟨fun a wz hc hk hf K hK => ?_, ?_⟩
  · have h89 := held_isV hf 6 rfl (by kernel_rfl)
    have h95 := held_isV hf 0 rfl (by kernel_rfl)
    clear hk hf hc
    go_simp
    exact hK _ _ (Below.refl _ _) rfl
  refine calm_fixA rfl rfl ?_
  apply Exists.intro
  refine ⟨fun a wz hc hk hf K hK => ?_, ?_⟩
  · have h96 := held_isV hf 0 rfl (by kernel_rfl)
    clear hk hf hc
    go_simp
    exact hK _ _ (Below.refl _ _) rfl
  refine calm_fixA rfl rfl ?_
  apply Exists.intro
  refine ⟨fun a wz hc hk hf K hK => ?_, ?_⟩
  · have h6 := hk 6 (by kernel_rfl)
    have h97 := held_isV hf 0 rfl (by kernel_rfl)
    clear hk hf hc
    go_simp
    exact hK _ _ (Below.refl _ _) rfl
  refine calm_fixA rfl rfl ?_
  apply Exists.intro
  refine ⟨fun a wz hc hk hf K hK => ?_, ?_⟩
  · have h98 := held_isV hf 0 rfl (by kernel_rfl)
    have h97 := held_isV hf 1 rfl (by kernel_rfl)
    clear hk hf hc
    go_simp
    exact hK _ _ (Below.refl _ _) rfl
  refine calm_fixA rfl rfl ?_
  apply Exists.intro
  refine ⟨fun a wz hc hk hf K hK => ?_, ?_⟩
  · have h97 := held_isV hf 2 rfl (by kernel_rfl)
    have h99 := held_isV hf 0 rfl (by kernel_rfl)
    clear hk hf hc
    go_simp
    exact hK _ _ (Below.refl _ _) rfl
  refine calm_fixA rfl rfl ?_
  apply Exists.intro
  refine ⟨fun a wz hc hk hf K hK => ?_, ?_⟩
  · have h100 := held_isV hf 0 rfl (by kernel_rfl)
    clear hk hf hc
    go_simp
    exact hK _ _ (Below.refl _ _) rfl
  refine calm_nil ?_
  refine ⟨keeps_none, ?_⟩
  intro wE hc
  simp only [lexL, calmEnd]
  rintro v27 S27 v28 S28 v29 S29 _ rfl _ rfl _ rfl _ rfl _ rfl _ rfl _ rfl _ rfl _ rfl _ rfl _ rfl _ rfl v42 S42 v43 S43 _ rfl _ rfl _ rfl _ rfl _ rfl _ rfl _ rfl v51 S51 v52 S52 _ rfl _ rfl _ rfl _ rfl _ rfl v58 S58 v59 S59 v60 S60 _ rfl _ rfl _ rfl _ rfl _ rfl _ rfl v67 S67 v68 S68 v69 S69 _ rfl _ rfl _ rfl _ rfl _ rfl _ rfl v76 S76 _ rfl _ rfl _ rfl _ rfl _ rfl _ rfl _ rfl _ rfl _ rfl _ rfl _ rfl _ rfl _ rfl _ rfl _ rfl _ rfl _ rfl _ rfl _ rfl _ rfl _ rfl _ rfl _ rfl _ rfl _ rfl
  have hb := HB.out.trans (Below.mono (show Below w17.heap.size w17 wE from hc rfl) HB.out.size)
  clear hc S27 S28 S29 S42 S43 S51 S52 S58 S59 S60 S67 S68 S69 S76
  simp only [Act.put, List.setIfInBounds_toArray, List.set_cons_zero, List.set_cons_succ]
  go_wp2
  go_ret
  exact ⟨rfl, hb⟩
end Go.Proofs.Ytppmmkmlngmafaa
