/- The law KindsParts of layer 16. -/
import Derived.Test.YtegpikfgajoopaaGBlockUnder
import Derived.Test.YtegpikfgajoopaaGOpen
import Derived.Test.YtegpikfgajoopaaGShapeZ
import Derived.Test.YtegpikfgajoopaaGZKindsAwake
namespace Go.Proofs.Ytegpikfgajoopaa
open Go Go.RowKit
set_option maxHeartbeats 16000000 in
set_option maxRecDepth 100000 in
theorem kindsParts_calls {w:World}{va vb vc:Value}{ta tb:Trm}{cols:List (Int×Bool)}(ha:TermIn w va ta)(hbt:TermIn w vb tb)(hc:ColsIn w vc cols):GivesAt Try.prog 5 #[va,vb,vc] w (.bool true):=by
 have hmc:=hc.len
 unfold maxLen at hmc
 have HAW:=Lib.hid awake16_calls
 have HGA:Hid (∀ W,Below w.heap.size w W→GivesAt Try.prog 7 #[va,.int .i64 1] W (.bool (greatK 1 ta))):=fun W hW=>great16_calls ta W va 1 (by decide) (ha.kept hW)
 have HGB:Hid (∀ W,Below w.heap.size w W→GivesAt Try.prog 7 #[vb,.int .i64 1] W (.bool (greatK 1 tb))):=fun W hW=>great16_calls tb W vb 1 (by decide) (hbt.kept hW)
 have HZA:Hid (∀ W,Below w.heap.size w W→GivesAt Try.prog 18 #[va] W (.int .i64 (wrap64 (sizeT ta:Nat)))):=fun W hW=>ref_size_calls ta W va (ha.kept hW)
 have HZB:Hid (∀ W,Below w.heap.size w W→GivesAt Try.prog 18 #[vb] W (.int .i64 (wrap64 (sizeT tb:Nat)))):=fun W hW=>ref_size_calls tb W vb (hbt.kept hW)
 have HTA:=Lib.hid ha
 have HTB:=Lib.hid hbt
 have HC:=Lib.hid hc
 obtain ⟨A,cap,rfl⟩:=ha.parts15
 obtain ⟨D,dap,rfl⟩:=hbt.parts15
 obtain ⟨Ac,pc,rfl,-⟩:=cols_at hc
 have ha1:=Below.alloc (.refl w.heap.size w) (Nat.le_refl _) (.cells #[.int .u8 ta.op,.int .i64 ta.col,.string ta.cell,.slice A ta.kids.length cap] 24)
 have ha2:=Below.alloc (.refl (w.alloc (.cells #[.int .u8 ta.op,.int .i64 ta.col,.string ta.cell,.slice A ta.kids.length cap] 24)).heap.size (w.alloc (.cells #[.int .u8 ta.op,.int .i64 ta.col,.string ta.cell,.slice A ta.kids.length cap] 24))) (Nat.le_refl _) (.cells #[.int .u8 tb.op,.int .i64 tb.col,.string tb.cell,.slice D tb.kids.length dap] 24)
 have hb:=ha1.trans (ha2.mono ha1.size)
 have HXA:=Lib.hid ((trmbox_lit w 24 ta.op ta.col ta.cell (.slice A ta.kids.length cap)).later ha2)
 have hy:=trmbox_lit (w.alloc (.cells #[.int .u8 ta.op,.int .i64 ta.col,.string ta.cell,.slice A ta.kids.length cap] 24)) 24 tb.op tb.col tb.cell (.slice D tb.kids.length dap)
 rw [show (w.alloc (.cells #[.int .u8 ta.op,.int .i64 ta.col,.string ta.cell,.slice A ta.kids.length cap] 24)).heap.size=w.heap.size+1 by simp] at hy
 have HXB:=Lib.hid hy
 clear ha hbt hc ha1 ha2 hy
 unfold GivesAt
 cases hga:greatK 1 ta with
 | true =>
  rw [hga] at HGA
  clear hga
  go_enter Try.func5,Try.ntmps5
  go_wp2_with fail
  generalize World.alloc (World.alloc w _) _=w2 at *
  have HB0:=Lib.hid hb
  have HB:=Lib.hid hb
  clear hb
  refine wp_region_calm (offC w2) (fun _=>false) (fun _=>false) anyE false (by kernel_rfl) (by kernel_rfl) (by kernel_rfl) (by kernel_rfl) (by intro m hm;revert hm;simp;try omega) (offC_stable _) (offC_start _) ?_
  refine calm_fixA rfl rfl ?_
  apply Exists.intro
  refine ⟨fun a wz hc hk hf K hK=>?_,?_⟩
  ·have hb:Below w2.heap.size w2 wz:=hc rfl
   have h3:=hk 3 (by kernel_rfl)
   clear hk hf hc
   obtain ⟨y0,y1,y2,y3,_⟩:=(HXA.out.later hb).cells
   go_simp
   exact hK _ _ (Below.refl _ _) rfl
  refine calm_fixA rfl rfl ?_
  apply Exists.intro
  refine ⟨fun a wz hc hk hf K hK=>?_,?_⟩
  ·have hb:Below w2.heap.size w2 wz:=hc rfl
   have h19:=held_isV hf 0 rfl (by kernel_rfl)
   clear hk hf hc
   go_simp
   refine Calls.mono (HGA.out wz (HB0.out.trans (hb.mono HB0.out.size))) ?_
   rintro e w1 ⟨rfl,hq⟩
   exact hK _ _ hq rfl
  refine calm_fixA rfl rfl ?_
  apply Exists.intro
  refine ⟨fun a wz hc hk hf K hK=>?_,?_⟩
  ·have h20:=held_isV hf 0 rfl (by kernel_rfl)
   clear hk hf hc
   go_simp
   exact hK _ _ (Below.refl _ _) rfl
  refine calm_fixA rfl rfl ?_
  apply Exists.intro
  refine ⟨fun a wz hc hk hf K hK=>?_,?_⟩
  ·have hb:Below w2.heap.size w2 wz:=hc rfl
   have h4:=hk 4 (by kernel_rfl)
   have h21:=held_isV hf 0 rfl (by kernel_rfl)
   clear hk hf hc
   go_simp
   exact hK _ _ (Below.refl _ _) rfl
  refine calm_fixA rfl rfl ?_
  apply Exists.intro
  refine ⟨fun a wz hc hk hf K hK=>?_,?_⟩
  ·have h22:=held_isV hf 0 rfl (by kernel_rfl)
   have h21:=held_isV hf 1 rfl (by kernel_rfl)
   clear hk hf hc
   go_simp
   exact hK _ _ (Below.refl _ _) rfl
  refine calm_fixA rfl rfl ?_
  apply Exists.intro
  refine ⟨fun a wz hc hk hf K hK=>?_,?_⟩
  ·have h21:=held_isV hf 2 rfl (by kernel_rfl)
   have h23:=held_isV hf 0 rfl (by kernel_rfl)
   clear hk hf hc
   go_simp
   exact hK _ _ (Below.refl _ _) rfl
  refine calm_fixA rfl rfl ?_
  apply Exists.intro
  refine ⟨fun a wz hc hk hf K hK=>?_,?_⟩
  ·have h24:=held_isV hf 0 rfl (by kernel_rfl)
   clear hk hf hc
   go_simp
   exact hK _ _ (Below.refl _ _) rfl
  refine calm_fixA rfl rfl ?_
  apply Exists.intro
  refine ⟨fun a wz hc hk hf K hK=>?_,?_⟩
  ·have h2:=hk 2 (by kernel_rfl)
   have h25:=held_isV hf 0 rfl (by kernel_rfl)
   clear hk hf hc
   go_simp
   exact hK _ _ (Below.refl _ _) rfl
  refine calm_fixA rfl rfl ?_
  apply Exists.intro
  refine ⟨fun a wz hc hk hf K hK=>?_,?_⟩
  ·have h26:=held_isV hf 0 rfl (by kernel_rfl)
   have h25:=held_isV hf 1 rfl (by kernel_rfl)
   clear hk hf hc
   go_simp
   exact hK _ _ (Below.refl _ _) rfl
  refine calm_fixA rfl rfl ?_
  apply Exists.intro
  refine ⟨fun a wz hc hk hf K hK=>?_,?_⟩
  ·have h27:=held_isV hf 0 rfl (by kernel_rfl)
   have h25:=held_isV hf 2 rfl (by kernel_rfl)
   clear hk hf hc
   go_simp
   exact hK _ _ (Below.refl _ _) rfl
  refine calm_fixA rfl rfl ?_
  apply Exists.intro
  refine ⟨fun a wz hc hk hf K hK=>?_,?_⟩
  ·have h25:=held_isV hf 3 rfl (by kernel_rfl)
   have h28:=held_isV hf 0 rfl (by kernel_rfl)
   clear hk hf hc
   go_simp
   exact hK _ _ (Below.refl _ _) rfl
  refine calm_fixA rfl rfl ?_
  apply Exists.intro
  refine ⟨fun a wz hc hk hf K hK=>?_,?_⟩
  ·have h29:=held_isV hf 0 rfl (by kernel_rfl)
   clear hk hf hc
   go_simp
   exact hK _ _ (Below.refl _ _) rfl
  refine calm_fixA rfl rfl ?_
  apply Exists.intro
  refine ⟨fun a wz hc hk hf K hK=>?_,?_⟩
  ·have hb:Below w2.heap.size w2 wz:=hc rfl
   have h3:=hk 3 (by kernel_rfl)
   have h30:=held_isV hf 0 rfl (by kernel_rfl)
   clear hk hf hc
   go_simp
   exact hK _ _ (Below.refl _ _) rfl
  refine calm_fixA rfl rfl ?_
  apply Exists.intro
  refine ⟨fun a wz hc hk hf K hK=>?_,?_⟩
  ·have h31:=held_isV hf 0 rfl (by kernel_rfl)
   have h30:=held_isV hf 1 rfl (by kernel_rfl)
   clear hk hf hc
   go_simp
   exact hK _ _ (Below.refl _ _) rfl
  refine calm_fixA rfl rfl ?_
  apply Exists.intro
  refine ⟨fun a wz hc hk hf K hK=>?_,?_⟩
  ·have hb:Below w2.heap.size w2 wz:=hc rfl
   have h4:=hk 4 (by kernel_rfl)
   have h30:=held_isV hf 2 rfl (by kernel_rfl)
   clear hk hf hc
   go_simp
   exact hK _ _ (Below.refl _ _) rfl
  refine calm_fixA rfl rfl ?_
  apply Exists.intro
  refine ⟨fun a wz hc hk hf K hK=>?_,?_⟩
  ·have h33:=held_isV hf 0 rfl (by kernel_rfl)
   have h30:=held_isV hf 3 rfl (by kernel_rfl)
   clear hk hf hc
   go_simp
   exact hK _ _ (Below.refl _ _) rfl
  refine calm_fixA rfl rfl ?_
  apply Exists.intro
  refine ⟨fun a wz hc hk hf K hK=>?_,?_⟩
  ·have h32:=held_isV hf 2 rfl (by kernel_rfl)
   have h34:=held_isV hf 0 rfl (by kernel_rfl)
   have h30:=held_isV hf 4 rfl (by kernel_rfl)
   clear hk hf hc
   go_simp
   exact hK _ _ (Below.refl _ _) rfl
  refine calm_fixA rfl rfl ?_
  apply Exists.intro
  refine ⟨fun a wz hc hk hf K hK=>?_,?_⟩
  ·have h35:=held_isV hf 0 rfl (by kernel_rfl)
   have h30:=held_isV hf 5 rfl (by kernel_rfl)
   clear hk hf hc
   go_simp
   exact hK _ _ (Below.refl _ _) rfl
  refine calm_fixA rfl rfl ?_
  apply Exists.intro
  refine ⟨fun a wz hc hk hf K hK=>?_,?_⟩
  ·have h30:=held_isV hf 6 rfl (by kernel_rfl)
   have h36:=held_isV hf 0 rfl (by kernel_rfl)
   clear hk hf hc
   go_simp
   exact hK _ _ (Below.refl _ _) rfl
  refine calm_nil ?_
  refine ⟨keeps_none,?_⟩
  intro w3 hc
  simp only [lexL,calmEnd]
  rintro _ rfl _ rfl _ rfl _ rfl _ rfl _ rfl _ rfl _ rfl _ rfl _ rfl _ rfl _ rfl _ rfl _ rfl _ rfl _ rfl _ rfl _ rfl _ rfl
  have hq:Below w2.heap.size w2 w3:=hc rfl
  have hb:=HB.out
  clear hc 
  simp only [Act.put,List.setIfInBounds_toArray,List.set_cons_zero,List.set_cons_succ]
  replace HXA:=Lib.hid (HXA.out.later hq)
  replace HXB:=Lib.hid (HXB.out.later hq)
  replace hb:=hb.trans (hq.mono hb.size)
  clear hq
  have hB:=hb.size
  go_wp2_with (go_at_call 8;refine HAW.out.step (w0:=w) (B:=w.heap.size) hb hB ?_;clear hb hB;intro wa hb hB)
  go_ret
  exact ⟨rfl,hb⟩
 | false =>
  have hsa:=greatK_size ta 1 hga
  rw [hga] at HGA
  clear hga
  cases hgb:greatK 1 tb with
  | true =>
   rw [hgb] at HGB
   clear hgb
   go_enter Try.func5,Try.ntmps5
   go_wp2_with fail
   generalize World.alloc (World.alloc w _) _=w2 at *
   have HB0:=Lib.hid hb
   have HB:=Lib.hid hb
   clear hb
   refine wp_region_calm (offC w2) (fun _=>false) (fun _=>false) anyE false (by kernel_rfl) (by kernel_rfl) (by kernel_rfl) (by kernel_rfl) (by intro m hm;revert hm;simp;try omega) (offC_stable _) (offC_start _) ?_
   refine calm_fixA rfl rfl ?_
   apply Exists.intro
   refine ⟨fun a wz hc hk hf K hK=>?_,?_⟩
   ·have hb:Below w2.heap.size w2 wz:=hc rfl
    have h3:=hk 3 (by kernel_rfl)
    clear hk hf hc
    obtain ⟨y0,y1,y2,y3,_⟩:=(HXA.out.later hb).cells
    go_simp
    exact hK _ _ (Below.refl _ _) rfl
   refine calm_fixA rfl rfl ?_
   apply Exists.intro
   refine ⟨fun a wz hc hk hf K hK=>?_,?_⟩
   ·have hb:Below w2.heap.size w2 wz:=hc rfl
    have h19:=held_isV hf 0 rfl (by kernel_rfl)
    clear hk hf hc
    go_simp
    refine Calls.mono (HGA.out wz (HB0.out.trans (hb.mono HB0.out.size))) ?_
    rintro e w1 ⟨rfl,hq⟩
    exact hK _ _ hq rfl
   refine calm_fixA rfl rfl ?_
   apply Exists.intro
   refine ⟨fun a wz hc hk hf K hK=>?_,?_⟩
   ·have h20:=held_isV hf 0 rfl (by kernel_rfl)
    clear hk hf hc
    go_simp
    exact hK _ _ (Below.refl _ _) rfl
   refine calm_fixA rfl rfl ?_
   apply Exists.intro
   refine ⟨fun a wz hc hk hf K hK=>?_,?_⟩
   ·have hb:Below w2.heap.size w2 wz:=hc rfl
    have h4:=hk 4 (by kernel_rfl)
    have h21:=held_isV hf 0 rfl (by kernel_rfl)
    clear hk hf hc
    obtain ⟨z0,z1,z2,z3,_⟩:=(HXB.out.later hb).cells
    go_simp
    exact hK _ _ (Below.refl _ _) rfl
   refine calm_fixA rfl rfl ?_
   apply Exists.intro
   refine ⟨fun a wz hc hk hf K hK=>?_,?_⟩
   ·have hb:Below w2.heap.size w2 wz:=hc rfl
    have h22:=held_isV hf 0 rfl (by kernel_rfl)
    have h21:=held_isV hf 1 rfl (by kernel_rfl)
    clear hk hf hc
    go_simp
    refine Calls.mono (HGB.out wz (HB0.out.trans (hb.mono HB0.out.size))) ?_
    rintro e w1 ⟨rfl,hq⟩
    exact hK _ _ hq rfl
   refine calm_fixA rfl rfl ?_
   apply Exists.intro
   refine ⟨fun a wz hc hk hf K hK=>?_,?_⟩
   ·have h21:=held_isV hf 2 rfl (by kernel_rfl)
    have h23:=held_isV hf 0 rfl (by kernel_rfl)
    clear hk hf hc
    go_simp
    exact hK _ _ (Below.refl _ _) rfl
   refine calm_fixA rfl rfl ?_
   apply Exists.intro
   refine ⟨fun a wz hc hk hf K hK=>?_,?_⟩
   ·have h24:=held_isV hf 0 rfl (by kernel_rfl)
    clear hk hf hc
    go_simp
    exact hK _ _ (Below.refl _ _) rfl
   refine calm_fixA rfl rfl ?_
   apply Exists.intro
   refine ⟨fun a wz hc hk hf K hK=>?_,?_⟩
   ·have h2:=hk 2 (by kernel_rfl)
    have h25:=held_isV hf 0 rfl (by kernel_rfl)
    clear hk hf hc
    go_simp
    exact hK _ _ (Below.refl _ _) rfl
   refine calm_fixA rfl rfl ?_
   apply Exists.intro
   refine ⟨fun a wz hc hk hf K hK=>?_,?_⟩
   ·have h26:=held_isV hf 0 rfl (by kernel_rfl)
    have h25:=held_isV hf 1 rfl (by kernel_rfl)
    clear hk hf hc
    go_simp
    exact hK _ _ (Below.refl _ _) rfl
   refine calm_fixA rfl rfl ?_
   apply Exists.intro
   refine ⟨fun a wz hc hk hf K hK=>?_,?_⟩
   ·have h27:=held_isV hf 0 rfl (by kernel_rfl)
    have h25:=held_isV hf 2 rfl (by kernel_rfl)
    clear hk hf hc
    go_simp
    exact hK _ _ (Below.refl _ _) rfl
   refine calm_fixA rfl rfl ?_
   apply Exists.intro
   refine ⟨fun a wz hc hk hf K hK=>?_,?_⟩
   ·have h25:=held_isV hf 3 rfl (by kernel_rfl)
    have h28:=held_isV hf 0 rfl (by kernel_rfl)
    clear hk hf hc
    go_simp
    exact hK _ _ (Below.refl _ _) rfl
   refine calm_fixA rfl rfl ?_
   apply Exists.intro
   refine ⟨fun a wz hc hk hf K hK=>?_,?_⟩
   ·have h29:=held_isV hf 0 rfl (by kernel_rfl)
    clear hk hf hc
    go_simp
    exact hK _ _ (Below.refl _ _) rfl
   refine calm_fixA rfl rfl ?_
   apply Exists.intro
   refine ⟨fun a wz hc hk hf K hK=>?_,?_⟩
   ·have hb:Below w2.heap.size w2 wz:=hc rfl
    have h3:=hk 3 (by kernel_rfl)
    have h30:=held_isV hf 0 rfl (by kernel_rfl)
    clear hk hf hc
    go_simp
    exact hK _ _ (Below.refl _ _) rfl
   refine calm_fixA rfl rfl ?_
   apply Exists.intro
   refine ⟨fun a wz hc hk hf K hK=>?_,?_⟩
   ·have h31:=held_isV hf 0 rfl (by kernel_rfl)
    have h30:=held_isV hf 1 rfl (by kernel_rfl)
    clear hk hf hc
    go_simp
    exact hK _ _ (Below.refl _ _) rfl
   refine calm_fixA rfl rfl ?_
   apply Exists.intro
   refine ⟨fun a wz hc hk hf K hK=>?_,?_⟩
   ·have hb:Below w2.heap.size w2 wz:=hc rfl
    have h4:=hk 4 (by kernel_rfl)
    have h30:=held_isV hf 2 rfl (by kernel_rfl)
    clear hk hf hc
    go_simp
    exact hK _ _ (Below.refl _ _) rfl
   refine calm_fixA rfl rfl ?_
   apply Exists.intro
   refine ⟨fun a wz hc hk hf K hK=>?_,?_⟩
   ·have h33:=held_isV hf 0 rfl (by kernel_rfl)
    have h30:=held_isV hf 3 rfl (by kernel_rfl)
    clear hk hf hc
    go_simp
    exact hK _ _ (Below.refl _ _) rfl
   refine calm_fixA rfl rfl ?_
   apply Exists.intro
   refine ⟨fun a wz hc hk hf K hK=>?_,?_⟩
   ·have h32:=held_isV hf 2 rfl (by kernel_rfl)
    have h34:=held_isV hf 0 rfl (by kernel_rfl)
    have h30:=held_isV hf 4 rfl (by kernel_rfl)
    clear hk hf hc
    go_simp
    exact hK _ _ (Below.refl _ _) rfl
   refine calm_fixA rfl rfl ?_
   apply Exists.intro
   refine ⟨fun a wz hc hk hf K hK=>?_,?_⟩
   ·have h35:=held_isV hf 0 rfl (by kernel_rfl)
    have h30:=held_isV hf 5 rfl (by kernel_rfl)
    clear hk hf hc
    go_simp
    exact hK _ _ (Below.refl _ _) rfl
   refine calm_fixA rfl rfl ?_
   apply Exists.intro
   refine ⟨fun a wz hc hk hf K hK=>?_,?_⟩
   ·have h30:=held_isV hf 6 rfl (by kernel_rfl)
    have h36:=held_isV hf 0 rfl (by kernel_rfl)
    clear hk hf hc
    go_simp
    exact hK _ _ (Below.refl _ _) rfl
   refine calm_nil ?_
   refine ⟨keeps_none,?_⟩
   intro w3 hc
   simp only [lexL,calmEnd]
   rintro _ rfl _ rfl _ rfl _ rfl _ rfl _ rfl _ rfl _ rfl _ rfl _ rfl _ rfl _ rfl _ rfl _ rfl _ rfl _ rfl _ rfl _ rfl _ rfl
   have hq:Below w2.heap.size w2 w3:=hc rfl
   have hb:=HB.out
   clear hc 
   simp only [Act.put,List.setIfInBounds_toArray,List.set_cons_zero,List.set_cons_succ]
   replace HXA:=Lib.hid (HXA.out.later hq)
   replace HXB:=Lib.hid (HXB.out.later hq)
   replace hb:=hb.trans (hq.mono hb.size)
   clear hq
   have hB:=hb.size
   go_wp2_with (go_at_call 8;refine HAW.out.step (w0:=w) (B:=w.heap.size) hb hB ?_;clear hb hB;intro wa hb hB)
   go_ret
   exact ⟨rfl,hb⟩
  | false =>
   have hsb:=greatK_size tb 1 hgb
   rw [hgb] at HGB
   clear hgb
   by_cases h20:cols.length≤20
   ·have d20:decide ((20:Int) < (cols.length:Int))=false:=decide_eq_false (by omega)
    rw [wrap_small (n:=sizeT ta) (by omega)] at HZA
    rw [wrap_small (n:=sizeT tb) (by omega)] at HZB
    have HSA:Hid (sizeT ta≤1000):=Lib.hid (by omega)
    have HSB:Hid (sizeT tb≤1000):=Lib.hid (by omega)
    have HS2:Hid (sizeT (twoT15 61 ta tb)≤1000):=Lib.hid (by rw [size_two];omega)
    have HS2b:Hid (sizeT (twoT15 38 ta tb)≤1000):=Lib.hid (by rw [size_two];omega)
    have HS1:Hid (sizeT (oneT15 63 ta)≤1000):=Lib.hid (by rw [size_one];omega)
    by_cases h28:sizeT ta+sizeT tb≤28
    ·have HQE0:Hid (kindK cols (twoT15 61 ta tb)=ofK cols (twoT15 61 ta tb)):=kindK_small (by rw [size_two];omega)
     have HQY0:Hid (kindK cols (twoT15 38 ta tb)=ofK cols (twoT15 38 ta tb)):=kindK_small (by rw [size_two];omega)
     have HQI0:Hid (kindK cols (oneT15 63 ta)=ofK cols (oneT15 63 ta)):=kindK_small (by rw [size_one];omega)
     have HQA0:Hid (kindK cols ta=ofK cols ta):=kindK_small (by omega)
     have HQB0:Hid (kindK cols tb=ofK cols tb):=kindK_small (by omega)
     obtain ⟨na,hna⟩:∃ n,sizeT ta=n:=⟨_,rfl⟩
     obtain ⟨nb,hnb⟩:∃ n,sizeT tb=n:=⟨_,rfl⟩
     rw [hna] at HZA h28 hsa
     rw [hnb] at HZB h28 hsb
     clear hna hnb
     have hw:IntKind.i64.wrap ((na:Int)+(nb:Int))=(na:Int)+(nb:Int):=by rw [IntKind.wrap_i64];omega
     have d28:decide ((28:Int) < (na:Int)+(nb:Int))=false:=decide_eq_false (by omega)
     have HE2:=Lib.hid (ofK_two (cols:=cols) (op:=61) (by decide) ta tb)
     have HY2:=Lib.hid (ofK_two (cols:=cols) (op:=38) (by decide) ta tb)
     have HI1:=Lib.hid (ofK_one (cols:=cols) (op:=63) (by decide) ta)
     have HERA:=Lib.hid (ofK_err (cols:=cols) ta)
     have HERB:=Lib.hid (ofK_err (cols:=cols) tb)
     obtain ⟨qa,hqa⟩:∃ q,ofK cols ta=q:=⟨_,rfl⟩
     obtain ⟨qb,hqb⟩:∃ q,ofK cols tb=q:=⟨_,rfl⟩
     obtain ⟨x,e⟩:=qa
     obtain ⟨y,f⟩:=qb
     rw [hqa] at HE2 HY2 HI1 HQA0 HERA
     rw [hqb] at HE2 HY2 HQB0 HERB
     dsimp only at HE2 HY2 HI1 HERA HERB
     have HQA:Hid (kindK cols ta=(x,e)):=HQA0
     have HQB:Hid (kindK cols tb=(y,f)):=HQB0
     clear hqa hqb HQA0 HQB0 hsa hsb
     by_cases he:e=0
     ·subst he
      by_cases hf:f=0
      ·subst hf
       have HQE1:Hid (kindK cols (twoT15 61 ta tb)=topK cols 61 0 noC x y):=Lib.hid (by rw [HQE0.out,HE2.out,if_pos rfl,if_pos rfl])
       have HQY1:Hid (kindK cols (twoT15 38 ta tb)=topK cols 38 0 noC x y):=Lib.hid (by rw [HQY0.out,HY2.out,if_pos rfl,if_pos rfl])
       have HQI:Hid (kindK cols (oneT15 63 ta)=(98,0)):=Lib.hid (by rw [HQI0.out,HI1.out,if_pos rfl,topK_is])
       have hg:=topK_eq (cols:=cols) x y
       have hh:=topK_and (cols:=cols) x y
       obtain ⟨q1,hq1⟩:∃ q,topK cols 61 0 noC x y=q:=⟨_,rfl⟩
       obtain ⟨q2,hq2⟩:∃ q,topK cols 38 0 noC x y=q:=⟨_,rfl⟩
       obtain ⟨g1,g2⟩:=q1
       obtain ⟨h1,h2⟩:=q2
       rw [hq1] at hg HQE1
       rw [hq2] at hh HQY1
       dsimp only at hg hh
       have HQE:Hid (kindK cols (twoT15 61 ta tb)=(g1,g2)):=HQE1
       have HQY:Hid (kindK cols (twoT15 38 ta tb)=(h1,h2)):=HQY1
       clear hq1 hq2 HQE0 HQY0 HQI0 HE2 HY2 HI1 HQE1 HQY1 HERA HERB
       go_enter Try.func5,Try.ntmps5
       go_wp2_with fail
       generalize World.alloc (World.alloc w _) _=w2 at *
       have HB0:=Lib.hid hb
       have HB:=Lib.hid hb
       clear hb
       refine wp_region_calm (offC w2) (fun _=>false) (fun _=>false) anyE false (by kernel_rfl) (by kernel_rfl) (by kernel_rfl) (by kernel_rfl) (by intro m hm;revert hm;simp;try omega) (offC_stable _) (offC_start _) ?_
       refine calm_fixA rfl rfl ?_
       apply Exists.intro
       refine ⟨fun a wz hc hk hf K hK=>?_,?_⟩
       ·have hb:Below w2.heap.size w2 wz:=hc rfl
        have h3:=hk 3 (by kernel_rfl)
        clear hk hf hc
        obtain ⟨y0,y1,y2,y3,_⟩:=(HXA.out.later hb).cells
        go_simp
        exact hK _ _ (Below.refl _ _) rfl
       refine calm_fixA rfl rfl ?_
       apply Exists.intro
       refine ⟨fun a wz hc hk hf K hK=>?_,?_⟩
       ·have hb:Below w2.heap.size w2 wz:=hc rfl
        have h19:=held_isV hf 0 rfl (by kernel_rfl)
        clear hk hf hc
        go_simp
        refine Calls.mono (HGA.out wz (HB0.out.trans (hb.mono HB0.out.size))) ?_
        rintro e w1 ⟨rfl,hq⟩
        exact hK _ _ hq rfl
       refine calm_fixA rfl rfl ?_
       apply Exists.intro
       refine ⟨fun a wz hc hk hf K hK=>?_,?_⟩
       ·have h20:=held_isV hf 0 rfl (by kernel_rfl)
        clear hk hf hc
        go_simp
        exact hK _ _ (Below.refl _ _) rfl
       refine calm_fixA rfl rfl ?_
       apply Exists.intro
       refine ⟨fun a wz hc hk hf K hK=>?_,?_⟩
       ·have hb:Below w2.heap.size w2 wz:=hc rfl
        have h4:=hk 4 (by kernel_rfl)
        have h21:=held_isV hf 0 rfl (by kernel_rfl)
        clear hk hf hc
        obtain ⟨z0,z1,z2,z3,_⟩:=(HXB.out.later hb).cells
        go_simp
        exact hK _ _ (Below.refl _ _) rfl
       refine calm_fixA rfl rfl ?_
       apply Exists.intro
       refine ⟨fun a wz hc hk hf K hK=>?_,?_⟩
       ·have hb:Below w2.heap.size w2 wz:=hc rfl
        have h22:=held_isV hf 0 rfl (by kernel_rfl)
        have h21:=held_isV hf 1 rfl (by kernel_rfl)
        clear hk hf hc
        go_simp
        refine Calls.mono (HGB.out wz (HB0.out.trans (hb.mono HB0.out.size))) ?_
        rintro e w1 ⟨rfl,hq⟩
        exact hK _ _ hq rfl
       refine calm_fixA rfl rfl ?_
       apply Exists.intro
       refine ⟨fun a wz hc hk hf K hK=>?_,?_⟩
       ·have h21:=held_isV hf 2 rfl (by kernel_rfl)
        have h23:=held_isV hf 0 rfl (by kernel_rfl)
        clear hk hf hc
        go_simp
        exact hK _ _ (Below.refl _ _) rfl
       refine calm_fixA rfl rfl ?_
       apply Exists.intro
       refine ⟨fun a wz hc hk hf K hK=>?_,?_⟩
       ·have h24:=held_isV hf 0 rfl (by kernel_rfl)
        clear hk hf hc
        go_simp
        exact hK _ _ (Below.refl _ _) rfl
       refine calm_fixA rfl rfl ?_
       apply Exists.intro
       refine ⟨fun a wz hc hk hf K hK=>?_,?_⟩
       ·have h2:=hk 2 (by kernel_rfl)
        have h25:=held_isV hf 0 rfl (by kernel_rfl)
        clear hk hf hc
        go_simp
        exact hK _ _ (Below.refl _ _) rfl
       refine calm_fixA rfl rfl ?_
       apply Exists.intro
       refine ⟨fun a wz hc hk hf K hK=>?_,?_⟩
       ·have h26:=held_isV hf 0 rfl (by kernel_rfl)
        have h25:=held_isV hf 1 rfl (by kernel_rfl)
        clear hk hf hc
        go_simp
        exact hK _ _ (Below.refl _ _) rfl
       refine calm_fixA rfl rfl ?_
       apply Exists.intro
       refine ⟨fun a wz hc hk hf K hK=>?_,?_⟩
       ·have h27:=held_isV hf 0 rfl (by kernel_rfl)
        have h25:=held_isV hf 2 rfl (by kernel_rfl)
        clear hk hf hc
        go_simp
        exact hK _ _ (Below.refl _ _) rfl
       refine calm_fixA rfl rfl ?_
       apply Exists.intro
       refine ⟨fun a wz hc hk hf K hK=>?_,?_⟩
       ·have h25:=held_isV hf 3 rfl (by kernel_rfl)
        have h28:=held_isV hf 0 rfl (by kernel_rfl)
        clear hk hf hc
        go_simp
        exact hK _ _ (Below.refl _ _) rfl
       refine calm_fixA rfl rfl ?_
       apply Exists.intro
       refine ⟨fun a wz hc hk hf K hK=>?_,?_⟩
       ·have h29:=held_isV hf 0 rfl (by kernel_rfl)
        clear hk hf hc
        go_simp
        exact hK _ _ (Below.refl _ _) rfl
       refine calm_fixA rfl rfl ?_
       apply Exists.intro
       refine ⟨fun a wz hc hk hf K hK=>?_,?_⟩
       ·have hb:Below w2.heap.size w2 wz:=hc rfl
        have h3:=hk 3 (by kernel_rfl)
        have h30:=held_isV hf 0 rfl (by kernel_rfl)
        clear hk hf hc
        obtain ⟨y0,y1,y2,y3,_⟩:=(HXA.out.later hb).cells
        go_simp
        exact hK _ _ (Below.refl _ _) rfl
       refine calm_fixA rfl rfl ?_
       apply Exists.intro
       refine ⟨fun a wz hc hk hf K hK=>?_,?_⟩
       ·have hb:Below w2.heap.size w2 wz:=hc rfl
        have h31:=held_isV hf 0 rfl (by kernel_rfl)
        have h30:=held_isV hf 1 rfl (by kernel_rfl)
        clear hk hf hc
        go_simp
        refine Calls.mono (HZA.out wz (HB0.out.trans (hb.mono HB0.out.size))) ?_
        rintro e w1 ⟨rfl,hq⟩
        exact hK _ _ hq rfl
       refine calm_fixA rfl rfl ?_
       apply Exists.intro
       refine ⟨fun a wz hc hk hf K hK=>?_,?_⟩
       ·have hb:Below w2.heap.size w2 wz:=hc rfl
        have h4:=hk 4 (by kernel_rfl)
        have h30:=held_isV hf 2 rfl (by kernel_rfl)
        clear hk hf hc
        obtain ⟨z0,z1,z2,z3,_⟩:=(HXB.out.later hb).cells
        go_simp
        exact hK _ _ (Below.refl _ _) rfl
       refine calm_fixA rfl rfl ?_
       apply Exists.intro
       refine ⟨fun a wz hc hk hf K hK=>?_,?_⟩
       ·have hb:Below w2.heap.size w2 wz:=hc rfl
        have h33:=held_isV hf 0 rfl (by kernel_rfl)
        have h30:=held_isV hf 3 rfl (by kernel_rfl)
        clear hk hf hc
        go_simp
        refine Calls.mono (HZB.out wz (HB0.out.trans (hb.mono HB0.out.size))) ?_
        rintro e w1 ⟨rfl,hq⟩
        exact hK _ _ hq rfl
       refine calm_fixA rfl rfl ?_
       apply Exists.intro
       refine ⟨fun a wz hc hk hf K hK=>?_,?_⟩
       ·have h32:=held_isV hf 2 rfl (by kernel_rfl)
        have h34:=held_isV hf 0 rfl (by kernel_rfl)
        have h30:=held_isV hf 4 rfl (by kernel_rfl)
        clear hk hf hc
        go_simp
        exact hK _ _ (Below.refl _ _) rfl
       refine calm_fixA rfl rfl ?_
       apply Exists.intro
       refine ⟨fun a wz hc hk hf K hK=>?_,?_⟩
       ·have h35:=held_isV hf 0 rfl (by kernel_rfl)
        have h30:=held_isV hf 5 rfl (by kernel_rfl)
        clear hk hf hc
        go_simp
        exact hK _ _ (Below.refl _ _) rfl
       refine calm_fixA rfl rfl ?_
       apply Exists.intro
       refine ⟨fun a wz hc hk hf K hK=>?_,?_⟩
       ·have h30:=held_isV hf 6 rfl (by kernel_rfl)
        have h36:=held_isV hf 0 rfl (by kernel_rfl)
        clear hk hf hc
        go_simp
        exact hK _ _ (Below.refl _ _) rfl
       refine calm_nil ?_
       refine ⟨keeps_none,?_⟩
       intro w3 hc
       simp only [lexL,calmEnd]
       rintro _ rfl _ rfl _ rfl _ rfl _ rfl _ rfl _ rfl _ rfl _ rfl _ rfl _ rfl _ rfl _ rfl _ rfl _ rfl _ rfl _ rfl _ rfl _ rfl
       have hq:Below w2.heap.size w2 w3:=hc rfl
       have hb:=HB.out
       clear hc 
       simp only [Act.put,List.setIfInBounds_toArray,List.set_cons_zero,List.set_cons_succ]
       replace HXA:=Lib.hid (HXA.out.later hq)
       replace HXB:=Lib.hid (HXB.out.later hq)
       replace hb:=hb.trans (hq.mono hb.size)
       clear hq
       replace HTA:=Lib.hid (HTA.out.kept hb)
       replace HTB:=Lib.hid (HTB.out.kept hb)
       replace HC:=Lib.hid (HC.out.kept hb)
       clear HGA HGB HZA HZB
       obtain ⟨y0,y1,y2,y3,_⟩:=HXA.out.cells
       go_wp2_with fail
       clear y0 y1 y2 y3
       have hs:=kinds_of_calls (ta) HSA.out HTA.out HC.out
       rw [HQA.out] at hs
       refine Calls.mono (hs) ?_
       rintro e w4 ⟨rfl,hq⟩
       clear hs
       replace HXA:=Lib.hid (HXA.out.later hq)
       replace HXB:=Lib.hid (HXB.out.later hq)
       replace HTA:=Lib.hid (HTA.out.kept hq)
       replace HTB:=Lib.hid (HTB.out.kept hq)
       replace HC:=Lib.hid (HC.out.kept hq)
       replace hb:=hb.trans (hq.mono hb.size)
       clear hq
       obtain ⟨z0,z1,z2,z3,_⟩:=HXB.out.cells
       go_wp2_with fail
       clear z0 z1 z2 z3
       have hs:=kinds_of_calls (tb) HSB.out HTB.out HC.out
       rw [HQB.out] at hs
       refine Calls.mono (hs) ?_
       rintro e w5 ⟨rfl,hq⟩
       clear hs
       replace HXA:=Lib.hid (HXA.out.later hq)
       replace HXB:=Lib.hid (HXB.out.later hq)
       replace HTA:=Lib.hid (HTA.out.kept hq)
       replace HTB:=Lib.hid (HTB.out.kept hq)
       replace HC:=Lib.hid (HC.out.kept hq)
       replace hb:=hb.trans (hq.mono hb.size)
       clear hq
       obtain ⟨y0,y1,y2,y3,_⟩:=HXA.out.cells
       obtain ⟨z0,z1,z2,z3,_⟩:=HXB.out.cells
       go_wp2_with fail
       clear y0 y1 y2 y3
       clear z0 z1 z2 z3
       refine Calls.mono (two16_calls 61 (by decide) (by decide) HTA.out HTB.out) ?_
       intro e w6 hend
       obtain ⟨A9,c9,e1,ht9,hq⟩:=TermEnd.out hend
       have e2:e=.returned (.agg #[.int .u8 61,.int .i64 0,.string ⟨#[]⟩,.slice A9 2 c9]):=e1
       subst e2
       have HT9:=Lib.hid ht9
       clear hend e1 ht9
       replace HXA:=Lib.hid (HXA.out.later hq)
       replace HXB:=Lib.hid (HXB.out.later hq)
       replace HTA:=Lib.hid (HTA.out.kept hq)
       replace HTB:=Lib.hid (HTB.out.kept hq)
       replace HC:=Lib.hid (HC.out.kept hq)
       replace hb:=hb.trans (hq.mono hb.size)
       clear hq
       go_wp2_with fail
       have hs:=kinds_of_calls (twoT15 61 ta tb) HS2.out HT9.out HC.out
       rw [HQE.out] at hs
       refine Calls.mono (hs) ?_
       rintro e w7 ⟨rfl,hq⟩
       clear hs HT9
       replace HXA:=Lib.hid (HXA.out.later hq)
       replace HXB:=Lib.hid (HXB.out.later hq)
       replace HTA:=Lib.hid (HTA.out.kept hq)
       replace HTB:=Lib.hid (HTB.out.kept hq)
       replace HC:=Lib.hid (HC.out.kept hq)
       replace hb:=hb.trans (hq.mono hb.size)
       clear hq
       obtain ⟨y0,y1,y2,y3,_⟩:=HXA.out.cells
       obtain ⟨z0,z1,z2,z3,_⟩:=HXB.out.cells
       go_wp2_with fail
       clear y0 y1 y2 y3
       clear z0 z1 z2 z3
       refine Calls.mono (two16_calls 38 (by decide) (by decide) HTA.out HTB.out) ?_
       intro e w8 hend
       obtain ⟨A9,c9,e1,ht9,hq⟩:=TermEnd.out hend
       have e2:e=.returned (.agg #[.int .u8 38,.int .i64 0,.string ⟨#[]⟩,.slice A9 2 c9]):=e1
       subst e2
       have HT9:=Lib.hid ht9
       clear hend e1 ht9
       replace HXA:=Lib.hid (HXA.out.later hq)
       replace HXB:=Lib.hid (HXB.out.later hq)
       replace HTA:=Lib.hid (HTA.out.kept hq)
       replace HTB:=Lib.hid (HTB.out.kept hq)
       replace HC:=Lib.hid (HC.out.kept hq)
       replace hb:=hb.trans (hq.mono hb.size)
       clear hq
       go_wp2_with fail
       have hs:=kinds_of_calls (twoT15 38 ta tb) HS2b.out HT9.out HC.out
       rw [HQY.out] at hs
       refine Calls.mono (hs) ?_
       rintro e w9 ⟨rfl,hq⟩
       clear hs HT9
       replace HXA:=Lib.hid (HXA.out.later hq)
       replace HXB:=Lib.hid (HXB.out.later hq)
       replace HTA:=Lib.hid (HTA.out.kept hq)
       replace HTB:=Lib.hid (HTB.out.kept hq)
       replace HC:=Lib.hid (HC.out.kept hq)
       replace hb:=hb.trans (hq.mono hb.size)
       clear hq
       obtain ⟨y0,y1,y2,y3,_⟩:=HXA.out.cells
       have hq:Below w9.heap.size w9 (w9.alloc (.cells #[.int .u8 ta.op,.int .i64 ta.col,.string ta.cell,.slice A ta.kids.length cap] 24)):=Below.alloc (.refl _ _) (Nat.le_refl _) _
       have HT9:=Lib.hid (one_built 24 63 (by decide) (by decide) HTA.out)
       go_wp2_with fail
       clear y0 y1 y2 y3
       replace HXA:=Lib.hid (HXA.out.later hq)
       replace HXB:=Lib.hid (HXB.out.later hq)
       replace HTA:=Lib.hid (HTA.out.kept hq)
       replace HTB:=Lib.hid (HTB.out.kept hq)
       replace HC:=Lib.hid (HC.out.kept hq)
       replace hb:=hb.trans (hq.mono hb.size)
       clear hq
       generalize World.alloc w9 _=w10 at *
       have hs:=kinds_of_calls (oneT15 63 ta) HS1.out HT9.out HC.out
       rw [HQI.out] at hs
       refine Calls.mono (hs) ?_
       rintro e w11 ⟨rfl,hq⟩
       clear hs HT9
       replace HXA:=Lib.hid (HXA.out.later hq)
       replace HXB:=Lib.hid (HXB.out.later hq)
       replace HTA:=Lib.hid (HTA.out.kept hq)
       replace HTB:=Lib.hid (HTB.out.kept hq)
       replace HC:=Lib.hid (HC.out.kept hq)
       replace hb:=hb.trans (hq.mono hb.size)
       clear hq
       cases c1:(x==y)
       all_goals
        cases c2:(x==0)
        all_goals
         cases c3:(y==0)
         all_goals
          cases c4:(x==98)
          all_goals
           cases c5:(y==98)
           all_goals
            rw [c1,c2,c3] at hg
            rw [c2,c3,c4,c5] at hh
            try simp only [Bool.or_true,Bool.or_false,Bool.and_true,Bool.and_false] at hg hh
            have hB:=hb.size
            go_wp2_with (go_at_call 8;refine HAW.out.step (w0:=w) (B:=w.heap.size) hb hB ?_;clear hb hB;intro wa hb hB)
            go_ret
            exact ⟨rfl,hb⟩
      ·have HQE:Hid (kindK cols (twoT15 61 ta tb)=(0,f)):=Lib.hid (by rw [HQE0.out,HE2.out,if_pos rfl,if_neg hf])
       have HQY:Hid (kindK cols (twoT15 38 ta tb)=(0,f)):=Lib.hid (by rw [HQY0.out,HY2.out,if_pos rfl,if_neg hf])
       have HQI:Hid (kindK cols (oneT15 63 ta)=(98,0)):=Lib.hid (by rw [HQI0.out,HI1.out,if_pos rfl,topK_is])
       have df:(f != 0)=true:=by simp [hf]
       have hy0:y=0:=(HERB.out hf).1
       subst hy0
       clear hf HQE0 HQY0 HQI0 HE2 HY2 HI1 HERA HERB
       go_enter Try.func5,Try.ntmps5
       go_wp2_with fail
       generalize World.alloc (World.alloc w _) _=w2 at *
       have HB0:=Lib.hid hb
       have HB:=Lib.hid hb
       clear hb
       refine wp_region_calm (offC w2) (fun _=>false) (fun _=>false) anyE false (by kernel_rfl) (by kernel_rfl) (by kernel_rfl) (by kernel_rfl) (by intro m hm;revert hm;simp;try omega) (offC_stable _) (offC_start _) ?_
       refine calm_fixA rfl rfl ?_
       apply Exists.intro
       refine ⟨fun a wz hc hk hf K hK=>?_,?_⟩
       ·have hb:Below w2.heap.size w2 wz:=hc rfl
        have h3:=hk 3 (by kernel_rfl)
        clear hk hf hc
        obtain ⟨y0,y1,y2,y3,_⟩:=(HXA.out.later hb).cells
        go_simp
        exact hK _ _ (Below.refl _ _) rfl
       refine calm_fixA rfl rfl ?_
       apply Exists.intro
       refine ⟨fun a wz hc hk hf K hK=>?_,?_⟩
       ·have hb:Below w2.heap.size w2 wz:=hc rfl
        have h19:=held_isV hf 0 rfl (by kernel_rfl)
        clear hk hf hc
        go_simp
        refine Calls.mono (HGA.out wz (HB0.out.trans (hb.mono HB0.out.size))) ?_
        rintro e w1 ⟨rfl,hq⟩
        exact hK _ _ hq rfl
       refine calm_fixA rfl rfl ?_
       apply Exists.intro
       refine ⟨fun a wz hc hk hf K hK=>?_,?_⟩
       ·have h20:=held_isV hf 0 rfl (by kernel_rfl)
        clear hk hf hc
        go_simp
        exact hK _ _ (Below.refl _ _) rfl
       refine calm_fixA rfl rfl ?_
       apply Exists.intro
       refine ⟨fun a wz hc hk hf K hK=>?_,?_⟩
       ·have hb:Below w2.heap.size w2 wz:=hc rfl
        have h4:=hk 4 (by kernel_rfl)
        have h21:=held_isV hf 0 rfl (by kernel_rfl)
        clear hk hf hc
        obtain ⟨z0,z1,z2,z3,_⟩:=(HXB.out.later hb).cells
        go_simp
        exact hK _ _ (Below.refl _ _) rfl
       refine calm_fixA rfl rfl ?_
       apply Exists.intro
       refine ⟨fun a wz hc hk hf K hK=>?_,?_⟩
       ·have hb:Below w2.heap.size w2 wz:=hc rfl
        have h22:=held_isV hf 0 rfl (by kernel_rfl)
        have h21:=held_isV hf 1 rfl (by kernel_rfl)
        clear hk hf hc
        go_simp
        refine Calls.mono (HGB.out wz (HB0.out.trans (hb.mono HB0.out.size))) ?_
        rintro e w1 ⟨rfl,hq⟩
        exact hK _ _ hq rfl
       refine calm_fixA rfl rfl ?_
       apply Exists.intro
       refine ⟨fun a wz hc hk hf K hK=>?_,?_⟩
       ·have h21:=held_isV hf 2 rfl (by kernel_rfl)
        have h23:=held_isV hf 0 rfl (by kernel_rfl)
        clear hk hf hc
        go_simp
        exact hK _ _ (Below.refl _ _) rfl
       refine calm_fixA rfl rfl ?_
       apply Exists.intro
       refine ⟨fun a wz hc hk hf K hK=>?_,?_⟩
       ·have h24:=held_isV hf 0 rfl (by kernel_rfl)
        clear hk hf hc
        go_simp
        exact hK _ _ (Below.refl _ _) rfl
       refine calm_fixA rfl rfl ?_
       apply Exists.intro
       refine ⟨fun a wz hc hk hf K hK=>?_,?_⟩
       ·have h2:=hk 2 (by kernel_rfl)
        have h25:=held_isV hf 0 rfl (by kernel_rfl)
        clear hk hf hc
        go_simp
        exact hK _ _ (Below.refl _ _) rfl
       refine calm_fixA rfl rfl ?_
       apply Exists.intro
       refine ⟨fun a wz hc hk hf K hK=>?_,?_⟩
       ·have h26:=held_isV hf 0 rfl (by kernel_rfl)
        have h25:=held_isV hf 1 rfl (by kernel_rfl)
        clear hk hf hc
        go_simp
        exact hK _ _ (Below.refl _ _) rfl
       refine calm_fixA rfl rfl ?_
       apply Exists.intro
       refine ⟨fun a wz hc hk hf K hK=>?_,?_⟩
       ·have h27:=held_isV hf 0 rfl (by kernel_rfl)
        have h25:=held_isV hf 2 rfl (by kernel_rfl)
        clear hk hf hc
        go_simp
        exact hK _ _ (Below.refl _ _) rfl
       refine calm_fixA rfl rfl ?_
       apply Exists.intro
       refine ⟨fun a wz hc hk hf K hK=>?_,?_⟩
       ·have h25:=held_isV hf 3 rfl (by kernel_rfl)
        have h28:=held_isV hf 0 rfl (by kernel_rfl)
        clear hk hf hc
        go_simp
        exact hK _ _ (Below.refl _ _) rfl
       refine calm_fixA rfl rfl ?_
       apply Exists.intro
       refine ⟨fun a wz hc hk hf K hK=>?_,?_⟩
       ·have h29:=held_isV hf 0 rfl (by kernel_rfl)
        clear hk hf hc
        go_simp
        exact hK _ _ (Below.refl _ _) rfl
       refine calm_fixA rfl rfl ?_
       apply Exists.intro
       refine ⟨fun a wz hc hk hf K hK=>?_,?_⟩
       ·have hb:Below w2.heap.size w2 wz:=hc rfl
        have h3:=hk 3 (by kernel_rfl)
        have h30:=held_isV hf 0 rfl (by kernel_rfl)
        clear hk hf hc
        obtain ⟨y0,y1,y2,y3,_⟩:=(HXA.out.later hb).cells
        go_simp
        exact hK _ _ (Below.refl _ _) rfl
       refine calm_fixA rfl rfl ?_
       apply Exists.intro
       refine ⟨fun a wz hc hk hf K hK=>?_,?_⟩
       ·have hb:Below w2.heap.size w2 wz:=hc rfl
        have h31:=held_isV hf 0 rfl (by kernel_rfl)
        have h30:=held_isV hf 1 rfl (by kernel_rfl)
        clear hk hf hc
        go_simp
        refine Calls.mono (HZA.out wz (HB0.out.trans (hb.mono HB0.out.size))) ?_
        rintro e w1 ⟨rfl,hq⟩
        exact hK _ _ hq rfl
       refine calm_fixA rfl rfl ?_
       apply Exists.intro
       refine ⟨fun a wz hc hk hf K hK=>?_,?_⟩
       ·have hb:Below w2.heap.size w2 wz:=hc rfl
        have h4:=hk 4 (by kernel_rfl)
        have h30:=held_isV hf 2 rfl (by kernel_rfl)
        clear hk hf hc
        obtain ⟨z0,z1,z2,z3,_⟩:=(HXB.out.later hb).cells
        go_simp
        exact hK _ _ (Below.refl _ _) rfl
       refine calm_fixA rfl rfl ?_
       apply Exists.intro
       refine ⟨fun a wz hc hk hf K hK=>?_,?_⟩
       ·have hb:Below w2.heap.size w2 wz:=hc rfl
        have h33:=held_isV hf 0 rfl (by kernel_rfl)
        have h30:=held_isV hf 3 rfl (by kernel_rfl)
        clear hk hf hc
        go_simp
        refine Calls.mono (HZB.out wz (HB0.out.trans (hb.mono HB0.out.size))) ?_
        rintro e w1 ⟨rfl,hq⟩
        exact hK _ _ hq rfl
       refine calm_fixA rfl rfl ?_
       apply Exists.intro
       refine ⟨fun a wz hc hk hf K hK=>?_,?_⟩
       ·have h32:=held_isV hf 2 rfl (by kernel_rfl)
        have h34:=held_isV hf 0 rfl (by kernel_rfl)
        have h30:=held_isV hf 4 rfl (by kernel_rfl)
        clear hk hf hc
        go_simp
        exact hK _ _ (Below.refl _ _) rfl
       refine calm_fixA rfl rfl ?_
       apply Exists.intro
       refine ⟨fun a wz hc hk hf K hK=>?_,?_⟩
       ·have h35:=held_isV hf 0 rfl (by kernel_rfl)
        have h30:=held_isV hf 5 rfl (by kernel_rfl)
        clear hk hf hc
        go_simp
        exact hK _ _ (Below.refl _ _) rfl
       refine calm_fixA rfl rfl ?_
       apply Exists.intro
       refine ⟨fun a wz hc hk hf K hK=>?_,?_⟩
       ·have h30:=held_isV hf 6 rfl (by kernel_rfl)
        have h36:=held_isV hf 0 rfl (by kernel_rfl)
        clear hk hf hc
        go_simp
        exact hK _ _ (Below.refl _ _) rfl
       refine calm_nil ?_
       refine ⟨keeps_none,?_⟩
       intro w3 hc
       simp only [lexL,calmEnd]
       rintro _ rfl _ rfl _ rfl _ rfl _ rfl _ rfl _ rfl _ rfl _ rfl _ rfl _ rfl _ rfl _ rfl _ rfl _ rfl _ rfl _ rfl _ rfl _ rfl
       have hq:Below w2.heap.size w2 w3:=hc rfl
       have hb:=HB.out
       clear hc 
       simp only [Act.put,List.setIfInBounds_toArray,List.set_cons_zero,List.set_cons_succ]
       replace HXA:=Lib.hid (HXA.out.later hq)
       replace HXB:=Lib.hid (HXB.out.later hq)
       replace hb:=hb.trans (hq.mono hb.size)
       clear hq
       replace HTA:=Lib.hid (HTA.out.kept hb)
       replace HTB:=Lib.hid (HTB.out.kept hb)
       replace HC:=Lib.hid (HC.out.kept hb)
       clear HGA HGB HZA HZB
       obtain ⟨y0,y1,y2,y3,_⟩:=HXA.out.cells
       go_wp2_with fail
       clear y0 y1 y2 y3
       have hs:=kinds_of_calls (ta) HSA.out HTA.out HC.out
       rw [HQA.out] at hs
       refine Calls.mono (hs) ?_
       rintro e w4 ⟨rfl,hq⟩
       clear hs
       replace HXA:=Lib.hid (HXA.out.later hq)
       replace HXB:=Lib.hid (HXB.out.later hq)
       replace HTA:=Lib.hid (HTA.out.kept hq)
       replace HTB:=Lib.hid (HTB.out.kept hq)
       replace HC:=Lib.hid (HC.out.kept hq)
       replace hb:=hb.trans (hq.mono hb.size)
       clear hq
       obtain ⟨z0,z1,z2,z3,_⟩:=HXB.out.cells
       go_wp2_with fail
       clear z0 z1 z2 z3
       have hs:=kinds_of_calls (tb) HSB.out HTB.out HC.out
       rw [HQB.out] at hs
       refine Calls.mono (hs) ?_
       rintro e w5 ⟨rfl,hq⟩
       clear hs
       replace HXA:=Lib.hid (HXA.out.later hq)
       replace HXB:=Lib.hid (HXB.out.later hq)
       replace HTA:=Lib.hid (HTA.out.kept hq)
       replace HTB:=Lib.hid (HTB.out.kept hq)
       replace HC:=Lib.hid (HC.out.kept hq)
       replace hb:=hb.trans (hq.mono hb.size)
       clear hq
       obtain ⟨y0,y1,y2,y3,_⟩:=HXA.out.cells
       obtain ⟨z0,z1,z2,z3,_⟩:=HXB.out.cells
       go_wp2_with fail
       clear y0 y1 y2 y3
       clear z0 z1 z2 z3
       refine Calls.mono (two16_calls 61 (by decide) (by decide) HTA.out HTB.out) ?_
       intro e w6 hend
       obtain ⟨A9,c9,e1,ht9,hq⟩:=TermEnd.out hend
       have e2:e=.returned (.agg #[.int .u8 61,.int .i64 0,.string ⟨#[]⟩,.slice A9 2 c9]):=e1
       subst e2
       have HT9:=Lib.hid ht9
       clear hend e1 ht9
       replace HXA:=Lib.hid (HXA.out.later hq)
       replace HXB:=Lib.hid (HXB.out.later hq)
       replace HTA:=Lib.hid (HTA.out.kept hq)
       replace HTB:=Lib.hid (HTB.out.kept hq)
       replace HC:=Lib.hid (HC.out.kept hq)
       replace hb:=hb.trans (hq.mono hb.size)
       clear hq
       go_wp2_with fail
       have hs:=kinds_of_calls (twoT15 61 ta tb) HS2.out HT9.out HC.out
       rw [HQE.out] at hs
       refine Calls.mono (hs) ?_
       rintro e w7 ⟨rfl,hq⟩
       clear hs HT9
       replace HXA:=Lib.hid (HXA.out.later hq)
       replace HXB:=Lib.hid (HXB.out.later hq)
       replace HTA:=Lib.hid (HTA.out.kept hq)
       replace HTB:=Lib.hid (HTB.out.kept hq)
       replace HC:=Lib.hid (HC.out.kept hq)
       replace hb:=hb.trans (hq.mono hb.size)
       clear hq
       obtain ⟨y0,y1,y2,y3,_⟩:=HXA.out.cells
       obtain ⟨z0,z1,z2,z3,_⟩:=HXB.out.cells
       go_wp2_with fail
       clear y0 y1 y2 y3
       clear z0 z1 z2 z3
       refine Calls.mono (two16_calls 38 (by decide) (by decide) HTA.out HTB.out) ?_
       intro e w8 hend
       obtain ⟨A9,c9,e1,ht9,hq⟩:=TermEnd.out hend
       have e2:e=.returned (.agg #[.int .u8 38,.int .i64 0,.string ⟨#[]⟩,.slice A9 2 c9]):=e1
       subst e2
       have HT9:=Lib.hid ht9
       clear hend e1 ht9
       replace HXA:=Lib.hid (HXA.out.later hq)
       replace HXB:=Lib.hid (HXB.out.later hq)
       replace HTA:=Lib.hid (HTA.out.kept hq)
       replace HTB:=Lib.hid (HTB.out.kept hq)
       replace HC:=Lib.hid (HC.out.kept hq)
       replace hb:=hb.trans (hq.mono hb.size)
       clear hq
       go_wp2_with fail
       have hs:=kinds_of_calls (twoT15 38 ta tb) HS2b.out HT9.out HC.out
       rw [HQY.out] at hs
       refine Calls.mono (hs) ?_
       rintro e w9 ⟨rfl,hq⟩
       clear hs HT9
       replace HXA:=Lib.hid (HXA.out.later hq)
       replace HXB:=Lib.hid (HXB.out.later hq)
       replace HTA:=Lib.hid (HTA.out.kept hq)
       replace HTB:=Lib.hid (HTB.out.kept hq)
       replace HC:=Lib.hid (HC.out.kept hq)
       replace hb:=hb.trans (hq.mono hb.size)
       clear hq
       obtain ⟨y0,y1,y2,y3,_⟩:=HXA.out.cells
       have hq:Below w9.heap.size w9 (w9.alloc (.cells #[.int .u8 ta.op,.int .i64 ta.col,.string ta.cell,.slice A ta.kids.length cap] 24)):=Below.alloc (.refl _ _) (Nat.le_refl _) _
       have HT9:=Lib.hid (one_built 24 63 (by decide) (by decide) HTA.out)
       go_wp2_with fail
       clear y0 y1 y2 y3
       replace HXA:=Lib.hid (HXA.out.later hq)
       replace HXB:=Lib.hid (HXB.out.later hq)
       replace HTA:=Lib.hid (HTA.out.kept hq)
       replace HTB:=Lib.hid (HTB.out.kept hq)
       replace HC:=Lib.hid (HC.out.kept hq)
       replace hb:=hb.trans (hq.mono hb.size)
       clear hq
       generalize World.alloc w9 _=w10 at *
       have hs:=kinds_of_calls (oneT15 63 ta) HS1.out HT9.out HC.out
       rw [HQI.out] at hs
       refine Calls.mono (hs) ?_
       rintro e w11 ⟨rfl,hq⟩
       clear hs HT9
       replace HXA:=Lib.hid (HXA.out.later hq)
       replace HXB:=Lib.hid (HXB.out.later hq)
       replace HTA:=Lib.hid (HTA.out.kept hq)
       replace HTB:=Lib.hid (HTB.out.kept hq)
       replace HC:=Lib.hid (HC.out.kept hq)
       replace hb:=hb.trans (hq.mono hb.size)
       clear hq
       have hB:=hb.size
       go_wp2_with (go_at_call 8;refine HAW.out.step (w0:=w) (B:=w.heap.size) hb hB ?_;clear hb hB;intro wa hb hB)
       all_goals go_ret
       all_goals exact ⟨rfl,hb⟩
     ·have HQE:Hid (kindK cols (twoT15 61 ta tb)=(0,e)):=Lib.hid (by rw [HQE0.out,HE2.out,if_neg he])
      have HQY:Hid (kindK cols (twoT15 38 ta tb)=(0,e)):=Lib.hid (by rw [HQY0.out,HY2.out,if_neg he])
      have HQI:Hid (kindK cols (oneT15 63 ta)=(0,e)):=Lib.hid (by rw [HQI0.out,HI1.out,if_neg he])
      have de:(e != 0)=true:=by simp [he]
      have hx0:x=0:=(HERA.out he).1
      subst hx0
      clear he HQE0 HQY0 HQI0 HE2 HY2 HI1 HERA HERB
      go_enter Try.func5,Try.ntmps5
      go_wp2_with fail
      generalize World.alloc (World.alloc w _) _=w2 at *
      have HB0:=Lib.hid hb
      have HB:=Lib.hid hb
      clear hb
      refine wp_region_calm (offC w2) (fun _=>false) (fun _=>false) anyE false (by kernel_rfl) (by kernel_rfl) (by kernel_rfl) (by kernel_rfl) (by intro m hm;revert hm;simp;try omega) (offC_stable _) (offC_start _) ?_
      refine calm_fixA rfl rfl ?_
      apply Exists.intro
      refine ⟨fun a wz hc hk hf K hK=>?_,?_⟩
      ·have hb:Below w2.heap.size w2 wz:=hc rfl
       have h3:=hk 3 (by kernel_rfl)
       clear hk hf hc
       obtain ⟨y0,y1,y2,y3,_⟩:=(HXA.out.later hb).cells
       go_simp
       exact hK _ _ (Below.refl _ _) rfl
      refine calm_fixA rfl rfl ?_
      apply Exists.intro
      refine ⟨fun a wz hc hk hf K hK=>?_,?_⟩
      ·have hb:Below w2.heap.size w2 wz:=hc rfl
       have h19:=held_isV hf 0 rfl (by kernel_rfl)
       clear hk hf hc
       go_simp
       refine Calls.mono (HGA.out wz (HB0.out.trans (hb.mono HB0.out.size))) ?_
       rintro e w1 ⟨rfl,hq⟩
       exact hK _ _ hq rfl
      refine calm_fixA rfl rfl ?_
      apply Exists.intro
      refine ⟨fun a wz hc hk hf K hK=>?_,?_⟩
      ·have h20:=held_isV hf 0 rfl (by kernel_rfl)
       clear hk hf hc
       go_simp
       exact hK _ _ (Below.refl _ _) rfl
      refine calm_fixA rfl rfl ?_
      apply Exists.intro
      refine ⟨fun a wz hc hk hf K hK=>?_,?_⟩
      ·have hb:Below w2.heap.size w2 wz:=hc rfl
       have h4:=hk 4 (by kernel_rfl)
       have h21:=held_isV hf 0 rfl (by kernel_rfl)
       clear hk hf hc
       obtain ⟨z0,z1,z2,z3,_⟩:=(HXB.out.later hb).cells
       go_simp
       exact hK _ _ (Below.refl _ _) rfl
      refine calm_fixA rfl rfl ?_
      apply Exists.intro
      refine ⟨fun a wz hc hk hf K hK=>?_,?_⟩
      ·have hb:Below w2.heap.size w2 wz:=hc rfl
       have h22:=held_isV hf 0 rfl (by kernel_rfl)
       have h21:=held_isV hf 1 rfl (by kernel_rfl)
       clear hk hf hc
       go_simp
       refine Calls.mono (HGB.out wz (HB0.out.trans (hb.mono HB0.out.size))) ?_
       rintro e w1 ⟨rfl,hq⟩
       exact hK _ _ hq rfl
      refine calm_fixA rfl rfl ?_
      apply Exists.intro
      refine ⟨fun a wz hc hk hf K hK=>?_,?_⟩
      ·have h21:=held_isV hf 2 rfl (by kernel_rfl)
       have h23:=held_isV hf 0 rfl (by kernel_rfl)
       clear hk hf hc
       go_simp
       exact hK _ _ (Below.refl _ _) rfl
      refine calm_fixA rfl rfl ?_
      apply Exists.intro
      refine ⟨fun a wz hc hk hf K hK=>?_,?_⟩
      ·have h24:=held_isV hf 0 rfl (by kernel_rfl)
       clear hk hf hc
       go_simp
       exact hK _ _ (Below.refl _ _) rfl
      refine calm_fixA rfl rfl ?_
      apply Exists.intro
      refine ⟨fun a wz hc hk hf K hK=>?_,?_⟩
      ·have h2:=hk 2 (by kernel_rfl)
       have h25:=held_isV hf 0 rfl (by kernel_rfl)
       clear hk hf hc
       go_simp
       exact hK _ _ (Below.refl _ _) rfl
      refine calm_fixA rfl rfl ?_
      apply Exists.intro
      refine ⟨fun a wz hc hk hf K hK=>?_,?_⟩
      ·have h26:=held_isV hf 0 rfl (by kernel_rfl)
       have h25:=held_isV hf 1 rfl (by kernel_rfl)
       clear hk hf hc
       go_simp
       exact hK _ _ (Below.refl _ _) rfl
      refine calm_fixA rfl rfl ?_
      apply Exists.intro
      refine ⟨fun a wz hc hk hf K hK=>?_,?_⟩
      ·have h27:=held_isV hf 0 rfl (by kernel_rfl)
       have h25:=held_isV hf 2 rfl (by kernel_rfl)
       clear hk hf hc
       go_simp
       exact hK _ _ (Below.refl _ _) rfl
      refine calm_fixA rfl rfl ?_
      apply Exists.intro
      refine ⟨fun a wz hc hk hf K hK=>?_,?_⟩
      ·have h25:=held_isV hf 3 rfl (by kernel_rfl)
       have h28:=held_isV hf 0 rfl (by kernel_rfl)
       clear hk hf hc
       go_simp
       exact hK _ _ (Below.refl _ _) rfl
      refine calm_fixA rfl rfl ?_
      apply Exists.intro
      refine ⟨fun a wz hc hk hf K hK=>?_,?_⟩
      ·have h29:=held_isV hf 0 rfl (by kernel_rfl)
       clear hk hf hc
       go_simp
       exact hK _ _ (Below.refl _ _) rfl
      refine calm_fixA rfl rfl ?_
      apply Exists.intro
      refine ⟨fun a wz hc hk hf K hK=>?_,?_⟩
      ·have hb:Below w2.heap.size w2 wz:=hc rfl
       have h3:=hk 3 (by kernel_rfl)
       have h30:=held_isV hf 0 rfl (by kernel_rfl)
       clear hk hf hc
       obtain ⟨y0,y1,y2,y3,_⟩:=(HXA.out.later hb).cells
       go_simp
       exact hK _ _ (Below.refl _ _) rfl
      refine calm_fixA rfl rfl ?_
      apply Exists.intro
      refine ⟨fun a wz hc hk hf K hK=>?_,?_⟩
      ·have hb:Below w2.heap.size w2 wz:=hc rfl
       have h31:=held_isV hf 0 rfl (by kernel_rfl)
       have h30:=held_isV hf 1 rfl (by kernel_rfl)
       clear hk hf hc
       go_simp
       refine Calls.mono (HZA.out wz (HB0.out.trans (hb.mono HB0.out.size))) ?_
       rintro e w1 ⟨rfl,hq⟩
       exact hK _ _ hq rfl
      refine calm_fixA rfl rfl ?_
      apply Exists.intro
      refine ⟨fun a wz hc hk hf K hK=>?_,?_⟩
      ·have hb:Below w2.heap.size w2 wz:=hc rfl
       have h4:=hk 4 (by kernel_rfl)
       have h30:=held_isV hf 2 rfl (by kernel_rfl)
       clear hk hf hc
       obtain ⟨z0,z1,z2,z3,_⟩:=(HXB.out.later hb).cells
       go_simp
       exact hK _ _ (Below.refl _ _) rfl
      refine calm_fixA rfl rfl ?_
      apply Exists.intro
      refine ⟨fun a wz hc hk hf K hK=>?_,?_⟩
      ·have hb:Below w2.heap.size w2 wz:=hc rfl
       have h33:=held_isV hf 0 rfl (by kernel_rfl)
       have h30:=held_isV hf 3 rfl (by kernel_rfl)
       clear hk hf hc
       go_simp
       refine Calls.mono (HZB.out wz (HB0.out.trans (hb.mono HB0.out.size))) ?_
       rintro e w1 ⟨rfl,hq⟩
       exact hK _ _ hq rfl
      refine calm_fixA rfl rfl ?_
      apply Exists.intro
      refine ⟨fun a wz hc hk hf K hK=>?_,?_⟩
      ·have h32:=held_isV hf 2 rfl (by kernel_rfl)
       have h34:=held_isV hf 0 rfl (by kernel_rfl)
       have h30:=held_isV hf 4 rfl (by kernel_rfl)
       clear hk hf hc
       go_simp
       exact hK _ _ (Below.refl _ _) rfl
      refine calm_fixA rfl rfl ?_
      apply Exists.intro
      refine ⟨fun a wz hc hk hf K hK=>?_,?_⟩
      ·have h35:=held_isV hf 0 rfl (by kernel_rfl)
       have h30:=held_isV hf 5 rfl (by kernel_rfl)
       clear hk hf hc
       go_simp
       exact hK _ _ (Below.refl _ _) rfl
      refine calm_fixA rfl rfl ?_
      apply Exists.intro
      refine ⟨fun a wz hc hk hf K hK=>?_,?_⟩
      ·have h30:=held_isV hf 6 rfl (by kernel_rfl)
       have h36:=held_isV hf 0 rfl (by kernel_rfl)
       clear hk hf hc
       go_simp
       exact hK _ _ (Below.refl _ _) rfl
      refine calm_nil ?_
      refine ⟨keeps_none,?_⟩
      intro w3 hc
      simp only [lexL,calmEnd]
      rintro _ rfl _ rfl _ rfl _ rfl _ rfl _ rfl _ rfl _ rfl _ rfl _ rfl _ rfl _ rfl _ rfl _ rfl _ rfl _ rfl _ rfl _ rfl _ rfl
      have hq:Below w2.heap.size w2 w3:=hc rfl
      have hb:=HB.out
      clear hc 
      simp only [Act.put,List.setIfInBounds_toArray,List.set_cons_zero,List.set_cons_succ]
      replace HXA:=Lib.hid (HXA.out.later hq)
      replace HXB:=Lib.hid (HXB.out.later hq)
      replace hb:=hb.trans (hq.mono hb.size)
      clear hq
      replace HTA:=Lib.hid (HTA.out.kept hb)
      replace HTB:=Lib.hid (HTB.out.kept hb)
      replace HC:=Lib.hid (HC.out.kept hb)
      clear HGA HGB HZA HZB
      obtain ⟨y0,y1,y2,y3,_⟩:=HXA.out.cells
      go_wp2_with fail
      clear y0 y1 y2 y3
      have hs:=kinds_of_calls (ta) HSA.out HTA.out HC.out
      rw [HQA.out] at hs
      refine Calls.mono (hs) ?_
      rintro e w4 ⟨rfl,hq⟩
      clear hs
      replace HXA:=Lib.hid (HXA.out.later hq)
      replace HXB:=Lib.hid (HXB.out.later hq)
      replace HTA:=Lib.hid (HTA.out.kept hq)
      replace HTB:=Lib.hid (HTB.out.kept hq)
      replace HC:=Lib.hid (HC.out.kept hq)
      replace hb:=hb.trans (hq.mono hb.size)
      clear hq
      obtain ⟨z0,z1,z2,z3,_⟩:=HXB.out.cells
      go_wp2_with fail
      clear z0 z1 z2 z3
      have hs:=kinds_of_calls (tb) HSB.out HTB.out HC.out
      rw [HQB.out] at hs
      refine Calls.mono (hs) ?_
      rintro e w5 ⟨rfl,hq⟩
      clear hs
      replace HXA:=Lib.hid (HXA.out.later hq)
      replace HXB:=Lib.hid (HXB.out.later hq)
      replace HTA:=Lib.hid (HTA.out.kept hq)
      replace HTB:=Lib.hid (HTB.out.kept hq)
      replace HC:=Lib.hid (HC.out.kept hq)
      replace hb:=hb.trans (hq.mono hb.size)
      clear hq
      obtain ⟨y0,y1,y2,y3,_⟩:=HXA.out.cells
      obtain ⟨z0,z1,z2,z3,_⟩:=HXB.out.cells
      go_wp2_with fail
      clear y0 y1 y2 y3
      clear z0 z1 z2 z3
      refine Calls.mono (two16_calls 61 (by decide) (by decide) HTA.out HTB.out) ?_
      intro e w6 hend
      obtain ⟨A9,c9,e1,ht9,hq⟩:=TermEnd.out hend
      have e2:e=.returned (.agg #[.int .u8 61,.int .i64 0,.string ⟨#[]⟩,.slice A9 2 c9]):=e1
      subst e2
      have HT9:=Lib.hid ht9
      clear hend e1 ht9
      replace HXA:=Lib.hid (HXA.out.later hq)
      replace HXB:=Lib.hid (HXB.out.later hq)
      replace HTA:=Lib.hid (HTA.out.kept hq)
      replace HTB:=Lib.hid (HTB.out.kept hq)
      replace HC:=Lib.hid (HC.out.kept hq)
      replace hb:=hb.trans (hq.mono hb.size)
      clear hq
      go_wp2_with fail
      have hs:=kinds_of_calls (twoT15 61 ta tb) HS2.out HT9.out HC.out
      rw [HQE.out] at hs
      refine Calls.mono (hs) ?_
      rintro e w7 ⟨rfl,hq⟩
      clear hs HT9
      replace HXA:=Lib.hid (HXA.out.later hq)
      replace HXB:=Lib.hid (HXB.out.later hq)
      replace HTA:=Lib.hid (HTA.out.kept hq)
      replace HTB:=Lib.hid (HTB.out.kept hq)
      replace HC:=Lib.hid (HC.out.kept hq)
      replace hb:=hb.trans (hq.mono hb.size)
      clear hq
      obtain ⟨y0,y1,y2,y3,_⟩:=HXA.out.cells
      obtain ⟨z0,z1,z2,z3,_⟩:=HXB.out.cells
      go_wp2_with fail
      clear y0 y1 y2 y3
      clear z0 z1 z2 z3
      refine Calls.mono (two16_calls 38 (by decide) (by decide) HTA.out HTB.out) ?_
      intro e w8 hend
      obtain ⟨A9,c9,e1,ht9,hq⟩:=TermEnd.out hend
      have e2:e=.returned (.agg #[.int .u8 38,.int .i64 0,.string ⟨#[]⟩,.slice A9 2 c9]):=e1
      subst e2
      have HT9:=Lib.hid ht9
      clear hend e1 ht9
      replace HXA:=Lib.hid (HXA.out.later hq)
      replace HXB:=Lib.hid (HXB.out.later hq)
      replace HTA:=Lib.hid (HTA.out.kept hq)
      replace HTB:=Lib.hid (HTB.out.kept hq)
      replace HC:=Lib.hid (HC.out.kept hq)
      replace hb:=hb.trans (hq.mono hb.size)
      clear hq
      go_wp2_with fail
      have hs:=kinds_of_calls (twoT15 38 ta tb) HS2b.out HT9.out HC.out
      rw [HQY.out] at hs
      refine Calls.mono (hs) ?_
      rintro e w9 ⟨rfl,hq⟩
      clear hs HT9
      replace HXA:=Lib.hid (HXA.out.later hq)
      replace HXB:=Lib.hid (HXB.out.later hq)
      replace HTA:=Lib.hid (HTA.out.kept hq)
      replace HTB:=Lib.hid (HTB.out.kept hq)
      replace HC:=Lib.hid (HC.out.kept hq)
      replace hb:=hb.trans (hq.mono hb.size)
      clear hq
      obtain ⟨y0,y1,y2,y3,_⟩:=HXA.out.cells
      have hq:Below w9.heap.size w9 (w9.alloc (.cells #[.int .u8 ta.op,.int .i64 ta.col,.string ta.cell,.slice A ta.kids.length cap] 24)):=Below.alloc (.refl _ _) (Nat.le_refl _) _
      have HT9:=Lib.hid (one_built 24 63 (by decide) (by decide) HTA.out)
      go_wp2_with fail
      clear y0 y1 y2 y3
      replace HXA:=Lib.hid (HXA.out.later hq)
      replace HXB:=Lib.hid (HXB.out.later hq)
      replace HTA:=Lib.hid (HTA.out.kept hq)
      replace HTB:=Lib.hid (HTB.out.kept hq)
      replace HC:=Lib.hid (HC.out.kept hq)
      replace hb:=hb.trans (hq.mono hb.size)
      clear hq
      generalize World.alloc w9 _=w10 at *
      have hs:=kinds_of_calls (oneT15 63 ta) HS1.out HT9.out HC.out
      rw [HQI.out] at hs
      refine Calls.mono (hs) ?_
      rintro e w11 ⟨rfl,hq⟩
      clear hs HT9
      replace HXA:=Lib.hid (HXA.out.later hq)
      replace HXB:=Lib.hid (HXB.out.later hq)
      replace HTA:=Lib.hid (HTA.out.kept hq)
      replace HTB:=Lib.hid (HTB.out.kept hq)
      replace HC:=Lib.hid (HC.out.kept hq)
      replace hb:=hb.trans (hq.mono hb.size)
      clear hq
      cases c1:((0:Int)==y)
      all_goals
       cases c3:(y==0)
       all_goals
        cases c5:(y==98)
        all_goals
         have hB:=hb.size
         go_wp2_with (go_at_call 8;refine HAW.out.step (w0:=w) (B:=w.heap.size) hb hB ?_;clear hb hB;intro wa hb hB)
         go_ret
         exact ⟨rfl,hb⟩
    ·obtain ⟨na,hna⟩:∃ n,sizeT ta=n:=⟨_,rfl⟩
     obtain ⟨nb,hnb⟩:∃ n,sizeT tb=n:=⟨_,rfl⟩
     rw [hna] at HZA h28 hsa
     rw [hnb] at HZB h28 hsb
     clear hna hnb
     have hw:IntKind.i64.wrap ((na:Int)+(nb:Int))=(na:Int)+(nb:Int):=by rw [IntKind.wrap_i64];omega
     have d28:decide ((28:Int) < (na:Int)+(nb:Int))=true:=decide_eq_true (by omega)
     go_enter Try.func5,Try.ntmps5
     go_wp2_with fail
     generalize World.alloc (World.alloc w _) _=w2 at *
     have HB0:=Lib.hid hb
     have HB:=Lib.hid hb
     clear hb
     refine wp_region_calm (offC w2) (fun _=>false) (fun _=>false) anyE false (by kernel_rfl) (by kernel_rfl) (by kernel_rfl) (by kernel_rfl) (by intro m hm;revert hm;simp;try omega) (offC_stable _) (offC_start _) ?_
     refine calm_fixA rfl rfl ?_
     apply Exists.intro
     refine ⟨fun a wz hc hk hf K hK=>?_,?_⟩
     ·have hb:Below w2.heap.size w2 wz:=hc rfl
      have h3:=hk 3 (by kernel_rfl)
      clear hk hf hc
      obtain ⟨y0,y1,y2,y3,_⟩:=(HXA.out.later hb).cells
      go_simp
      exact hK _ _ (Below.refl _ _) rfl
     refine calm_fixA rfl rfl ?_
     apply Exists.intro
     refine ⟨fun a wz hc hk hf K hK=>?_,?_⟩
     ·have hb:Below w2.heap.size w2 wz:=hc rfl
      have h19:=held_isV hf 0 rfl (by kernel_rfl)
      clear hk hf hc
      go_simp
      refine Calls.mono (HGA.out wz (HB0.out.trans (hb.mono HB0.out.size))) ?_
      rintro e w1 ⟨rfl,hq⟩
      exact hK _ _ hq rfl
     refine calm_fixA rfl rfl ?_
     apply Exists.intro
     refine ⟨fun a wz hc hk hf K hK=>?_,?_⟩
     ·have h20:=held_isV hf 0 rfl (by kernel_rfl)
      clear hk hf hc
      go_simp
      exact hK _ _ (Below.refl _ _) rfl
     refine calm_fixA rfl rfl ?_
     apply Exists.intro
     refine ⟨fun a wz hc hk hf K hK=>?_,?_⟩
     ·have hb:Below w2.heap.size w2 wz:=hc rfl
      have h4:=hk 4 (by kernel_rfl)
      have h21:=held_isV hf 0 rfl (by kernel_rfl)
      clear hk hf hc
      obtain ⟨z0,z1,z2,z3,_⟩:=(HXB.out.later hb).cells
      go_simp
      exact hK _ _ (Below.refl _ _) rfl
     refine calm_fixA rfl rfl ?_
     apply Exists.intro
     refine ⟨fun a wz hc hk hf K hK=>?_,?_⟩
     ·have hb:Below w2.heap.size w2 wz:=hc rfl
      have h22:=held_isV hf 0 rfl (by kernel_rfl)
      have h21:=held_isV hf 1 rfl (by kernel_rfl)
      clear hk hf hc
      go_simp
      refine Calls.mono (HGB.out wz (HB0.out.trans (hb.mono HB0.out.size))) ?_
      rintro e w1 ⟨rfl,hq⟩
      exact hK _ _ hq rfl
     refine calm_fixA rfl rfl ?_
     apply Exists.intro
     refine ⟨fun a wz hc hk hf K hK=>?_,?_⟩
     ·have h21:=held_isV hf 2 rfl (by kernel_rfl)
      have h23:=held_isV hf 0 rfl (by kernel_rfl)
      clear hk hf hc
      go_simp
      exact hK _ _ (Below.refl _ _) rfl
     refine calm_fixA rfl rfl ?_
     apply Exists.intro
     refine ⟨fun a wz hc hk hf K hK=>?_,?_⟩
     ·have h24:=held_isV hf 0 rfl (by kernel_rfl)
      clear hk hf hc
      go_simp
      exact hK _ _ (Below.refl _ _) rfl
     refine calm_fixA rfl rfl ?_
     apply Exists.intro
     refine ⟨fun a wz hc hk hf K hK=>?_,?_⟩
     ·have h2:=hk 2 (by kernel_rfl)
      have h25:=held_isV hf 0 rfl (by kernel_rfl)
      clear hk hf hc
      go_simp
      exact hK _ _ (Below.refl _ _) rfl
     refine calm_fixA rfl rfl ?_
     apply Exists.intro
     refine ⟨fun a wz hc hk hf K hK=>?_,?_⟩
     ·have h26:=held_isV hf 0 rfl (by kernel_rfl)
      have h25:=held_isV hf 1 rfl (by kernel_rfl)
      clear hk hf hc
      go_simp
      exact hK _ _ (Below.refl _ _) rfl
     refine calm_fixA rfl rfl ?_
     apply Exists.intro
     refine ⟨fun a wz hc hk hf K hK=>?_,?_⟩
     ·have h27:=held_isV hf 0 rfl (by kernel_rfl)
      have h25:=held_isV hf 2 rfl (by kernel_rfl)
      clear hk hf hc
      go_simp
      exact hK _ _ (Below.refl _ _) rfl
     refine calm_fixA rfl rfl ?_
     apply Exists.intro
     refine ⟨fun a wz hc hk hf K hK=>?_,?_⟩
     ·have h25:=held_isV hf 3 rfl (by kernel_rfl)
      have h28:=held_isV hf 0 rfl (by kernel_rfl)
      clear hk hf hc
      go_simp
      exact hK _ _ (Below.refl _ _) rfl
     refine calm_fixA rfl rfl ?_
     apply Exists.intro
     refine ⟨fun a wz hc hk hf K hK=>?_,?_⟩
     ·have h29:=held_isV hf 0 rfl (by kernel_rfl)
      clear hk hf hc
      go_simp
      exact hK _ _ (Below.refl _ _) rfl
     refine calm_fixA rfl rfl ?_
     apply Exists.intro
     refine ⟨fun a wz hc hk hf K hK=>?_,?_⟩
     ·have hb:Below w2.heap.size w2 wz:=hc rfl
      have h3:=hk 3 (by kernel_rfl)
      have h30:=held_isV hf 0 rfl (by kernel_rfl)
      clear hk hf hc
      obtain ⟨y0,y1,y2,y3,_⟩:=(HXA.out.later hb).cells
      go_simp
      exact hK _ _ (Below.refl _ _) rfl
     refine calm_fixA rfl rfl ?_
     apply Exists.intro
     refine ⟨fun a wz hc hk hf K hK=>?_,?_⟩
     ·have hb:Below w2.heap.size w2 wz:=hc rfl
      have h31:=held_isV hf 0 rfl (by kernel_rfl)
      have h30:=held_isV hf 1 rfl (by kernel_rfl)
      clear hk hf hc
      go_simp
      refine Calls.mono (HZA.out wz (HB0.out.trans (hb.mono HB0.out.size))) ?_
      rintro e w1 ⟨rfl,hq⟩
      exact hK _ _ hq rfl
     refine calm_fixA rfl rfl ?_
     apply Exists.intro
     refine ⟨fun a wz hc hk hf K hK=>?_,?_⟩
     ·have hb:Below w2.heap.size w2 wz:=hc rfl
      have h4:=hk 4 (by kernel_rfl)
      have h30:=held_isV hf 2 rfl (by kernel_rfl)
      clear hk hf hc
      obtain ⟨z0,z1,z2,z3,_⟩:=(HXB.out.later hb).cells
      go_simp
      exact hK _ _ (Below.refl _ _) rfl
     refine calm_fixA rfl rfl ?_
     apply Exists.intro
     refine ⟨fun a wz hc hk hf K hK=>?_,?_⟩
     ·have hb:Below w2.heap.size w2 wz:=hc rfl
      have h33:=held_isV hf 0 rfl (by kernel_rfl)
      have h30:=held_isV hf 3 rfl (by kernel_rfl)
      clear hk hf hc
      go_simp
      refine Calls.mono (HZB.out wz (HB0.out.trans (hb.mono HB0.out.size))) ?_
      rintro e w1 ⟨rfl,hq⟩
      exact hK _ _ hq rfl
     refine calm_fixA rfl rfl ?_
     apply Exists.intro
     refine ⟨fun a wz hc hk hf K hK=>?_,?_⟩
     ·have h32:=held_isV hf 2 rfl (by kernel_rfl)
      have h34:=held_isV hf 0 rfl (by kernel_rfl)
      have h30:=held_isV hf 4 rfl (by kernel_rfl)
      clear hk hf hc
      go_simp
      exact hK _ _ (Below.refl _ _) rfl
     refine calm_fixA rfl rfl ?_
     apply Exists.intro
     refine ⟨fun a wz hc hk hf K hK=>?_,?_⟩
     ·have h35:=held_isV hf 0 rfl (by kernel_rfl)
      have h30:=held_isV hf 5 rfl (by kernel_rfl)
      clear hk hf hc
      go_simp
      exact hK _ _ (Below.refl _ _) rfl
     refine calm_fixA rfl rfl ?_
     apply Exists.intro
     refine ⟨fun a wz hc hk hf K hK=>?_,?_⟩
     ·have h30:=held_isV hf 6 rfl (by kernel_rfl)
      have h36:=held_isV hf 0 rfl (by kernel_rfl)
      clear hk hf hc
      go_simp
      exact hK _ _ (Below.refl _ _) rfl
     refine calm_nil ?_
     refine ⟨keeps_none,?_⟩
     intro w3 hc
     simp only [lexL,calmEnd]
     rintro _ rfl _ rfl _ rfl _ rfl _ rfl _ rfl _ rfl _ rfl _ rfl _ rfl _ rfl _ rfl _ rfl _ rfl _ rfl _ rfl _ rfl _ rfl _ rfl
     have hq:Below w2.heap.size w2 w3:=hc rfl
     have hb:=HB.out
     clear hc 
     simp only [Act.put,List.setIfInBounds_toArray,List.set_cons_zero,List.set_cons_succ]
     replace HXA:=Lib.hid (HXA.out.later hq)
     replace HXB:=Lib.hid (HXB.out.later hq)
     replace hb:=hb.trans (hq.mono hb.size)
     clear hq
     have hB:=hb.size
     go_wp2_with (go_at_call 8;refine HAW.out.step (w0:=w) (B:=w.heap.size) hb hB ?_;clear hb hB;intro wa hb hB)
     go_ret
     exact ⟨rfl,hb⟩
   ·have d20:decide ((20:Int) < (cols.length:Int))=true:=decide_eq_true (by omega)
    go_enter Try.func5,Try.ntmps5
    go_wp2_with fail
    generalize World.alloc (World.alloc w _) _=w2 at *
    have HB0:=Lib.hid hb
    have HB:=Lib.hid hb
    clear hb
    refine wp_region_calm (offC w2) (fun _=>false) (fun _=>false) anyE false (by kernel_rfl) (by kernel_rfl) (by kernel_rfl) (by kernel_rfl) (by intro m hm;revert hm;simp;try omega) (offC_stable _) (offC_start _) ?_
    refine calm_fixA rfl rfl ?_
    apply Exists.intro
    refine ⟨fun a wz hc hk hf K hK=>?_,?_⟩
    ·have hb:Below w2.heap.size w2 wz:=hc rfl
     have h3:=hk 3 (by kernel_rfl)
     clear hk hf hc
     obtain ⟨y0,y1,y2,y3,_⟩:=(HXA.out.later hb).cells
     go_simp
     exact hK _ _ (Below.refl _ _) rfl
    refine calm_fixA rfl rfl ?_
    apply Exists.intro
    refine ⟨fun a wz hc hk hf K hK=>?_,?_⟩
    ·have hb:Below w2.heap.size w2 wz:=hc rfl
     have h19:=held_isV hf 0 rfl (by kernel_rfl)
     clear hk hf hc
     go_simp
     refine Calls.mono (HGA.out wz (HB0.out.trans (hb.mono HB0.out.size))) ?_
     rintro e w1 ⟨rfl,hq⟩
     exact hK _ _ hq rfl
    refine calm_fixA rfl rfl ?_
    apply Exists.intro
    refine ⟨fun a wz hc hk hf K hK=>?_,?_⟩
    ·have h20:=held_isV hf 0 rfl (by kernel_rfl)
     clear hk hf hc
     go_simp
     exact hK _ _ (Below.refl _ _) rfl
    refine calm_fixA rfl rfl ?_
    apply Exists.intro
    refine ⟨fun a wz hc hk hf K hK=>?_,?_⟩
    ·have hb:Below w2.heap.size w2 wz:=hc rfl
     have h4:=hk 4 (by kernel_rfl)
     have h21:=held_isV hf 0 rfl (by kernel_rfl)
     clear hk hf hc
     obtain ⟨z0,z1,z2,z3,_⟩:=(HXB.out.later hb).cells
     go_simp
     exact hK _ _ (Below.refl _ _) rfl
    refine calm_fixA rfl rfl ?_
    apply Exists.intro
    refine ⟨fun a wz hc hk hf K hK=>?_,?_⟩
    ·have hb:Below w2.heap.size w2 wz:=hc rfl
     have h22:=held_isV hf 0 rfl (by kernel_rfl)
     have h21:=held_isV hf 1 rfl (by kernel_rfl)
     clear hk hf hc
     go_simp
     refine Calls.mono (HGB.out wz (HB0.out.trans (hb.mono HB0.out.size))) ?_
     rintro e w1 ⟨rfl,hq⟩
     exact hK _ _ hq rfl
    refine calm_fixA rfl rfl ?_
    apply Exists.intro
    refine ⟨fun a wz hc hk hf K hK=>?_,?_⟩
    ·have h21:=held_isV hf 2 rfl (by kernel_rfl)
     have h23:=held_isV hf 0 rfl (by kernel_rfl)
     clear hk hf hc
     go_simp
     exact hK _ _ (Below.refl _ _) rfl
    refine calm_fixA rfl rfl ?_
    apply Exists.intro
    refine ⟨fun a wz hc hk hf K hK=>?_,?_⟩
    ·have h24:=held_isV hf 0 rfl (by kernel_rfl)
     clear hk hf hc
     go_simp
     exact hK _ _ (Below.refl _ _) rfl
    refine calm_fixA rfl rfl ?_
    apply Exists.intro
    refine ⟨fun a wz hc hk hf K hK=>?_,?_⟩
    ·have h2:=hk 2 (by kernel_rfl)
     have h25:=held_isV hf 0 rfl (by kernel_rfl)
     clear hk hf hc
     go_simp
     exact hK _ _ (Below.refl _ _) rfl
    refine calm_fixA rfl rfl ?_
    apply Exists.intro
    refine ⟨fun a wz hc hk hf K hK=>?_,?_⟩
    ·have h26:=held_isV hf 0 rfl (by kernel_rfl)
     have h25:=held_isV hf 1 rfl (by kernel_rfl)
     clear hk hf hc
     go_simp
     exact hK _ _ (Below.refl _ _) rfl
    refine calm_fixA rfl rfl ?_
    apply Exists.intro
    refine ⟨fun a wz hc hk hf K hK=>?_,?_⟩
    ·have h27:=held_isV hf 0 rfl (by kernel_rfl)
     have h25:=held_isV hf 2 rfl (by kernel_rfl)
     clear hk hf hc
     go_simp
     exact hK _ _ (Below.refl _ _) rfl
    refine calm_fixA rfl rfl ?_
    apply Exists.intro
    refine ⟨fun a wz hc hk hf K hK=>?_,?_⟩
    ·have h25:=held_isV hf 3 rfl (by kernel_rfl)
     have h28:=held_isV hf 0 rfl (by kernel_rfl)
     clear hk hf hc
     go_simp
     exact hK _ _ (Below.refl _ _) rfl
    refine calm_fixA rfl rfl ?_
    apply Exists.intro
    refine ⟨fun a wz hc hk hf K hK=>?_,?_⟩
    ·have h29:=held_isV hf 0 rfl (by kernel_rfl)
     clear hk hf hc
     go_simp
     exact hK _ _ (Below.refl _ _) rfl
    refine calm_fixA rfl rfl ?_
    apply Exists.intro
    refine ⟨fun a wz hc hk hf K hK=>?_,?_⟩
    ·have hb:Below w2.heap.size w2 wz:=hc rfl
     have h3:=hk 3 (by kernel_rfl)
     have h30:=held_isV hf 0 rfl (by kernel_rfl)
     clear hk hf hc
     go_simp
     exact hK _ _ (Below.refl _ _) rfl
    refine calm_fixA rfl rfl ?_
    apply Exists.intro
    refine ⟨fun a wz hc hk hf K hK=>?_,?_⟩
    ·have h31:=held_isV hf 0 rfl (by kernel_rfl)
     have h30:=held_isV hf 1 rfl (by kernel_rfl)
     clear hk hf hc
     go_simp
     exact hK _ _ (Below.refl _ _) rfl
    refine calm_fixA rfl rfl ?_
    apply Exists.intro
    refine ⟨fun a wz hc hk hf K hK=>?_,?_⟩
    ·have hb:Below w2.heap.size w2 wz:=hc rfl
     have h4:=hk 4 (by kernel_rfl)
     have h30:=held_isV hf 2 rfl (by kernel_rfl)
     clear hk hf hc
     go_simp
     exact hK _ _ (Below.refl _ _) rfl
    refine calm_fixA rfl rfl ?_
    apply Exists.intro
    refine ⟨fun a wz hc hk hf K hK=>?_,?_⟩
    ·have h33:=held_isV hf 0 rfl (by kernel_rfl)
     have h30:=held_isV hf 3 rfl (by kernel_rfl)
     clear hk hf hc
     go_simp
     exact hK _ _ (Below.refl _ _) rfl
    refine calm_fixA rfl rfl ?_
    apply Exists.intro
    refine ⟨fun a wz hc hk hf K hK=>?_,?_⟩
    ·have h32:=held_isV hf 2 rfl (by kernel_rfl)
     have h34:=held_isV hf 0 rfl (by kernel_rfl)
     have h30:=held_isV hf 4 rfl (by kernel_rfl)
     clear hk hf hc
     go_simp
     exact hK _ _ (Below.refl _ _) rfl
    refine calm_fixA rfl rfl ?_
    apply Exists.intro
    refine ⟨fun a wz hc hk hf K hK=>?_,?_⟩
    ·have h35:=held_isV hf 0 rfl (by kernel_rfl)
     have h30:=held_isV hf 5 rfl (by kernel_rfl)
     clear hk hf hc
     go_simp
     exact hK _ _ (Below.refl _ _) rfl
    refine calm_fixA rfl rfl ?_
    apply Exists.intro
    refine ⟨fun a wz hc hk hf K hK=>?_,?_⟩
    ·have h30:=held_isV hf 6 rfl (by kernel_rfl)
     have h36:=held_isV hf 0 rfl (by kernel_rfl)
     clear hk hf hc
     go_simp
     exact hK _ _ (Below.refl _ _) rfl
    refine calm_nil ?_
    refine ⟨keeps_none,?_⟩
    intro w3 hc
    simp only [lexL,calmEnd]
    rintro _ rfl _ rfl _ rfl _ rfl _ rfl _ rfl _ rfl _ rfl _ rfl _ rfl _ rfl _ rfl _ rfl _ rfl _ rfl _ rfl _ rfl _ rfl _ rfl
    have hq:Below w2.heap.size w2 w3:=hc rfl
    have hb:=HB.out
    clear hc 
    simp only [Act.put,List.setIfInBounds_toArray,List.set_cons_zero,List.set_cons_succ]
    replace HXA:=Lib.hid (HXA.out.later hq)
    replace HXB:=Lib.hid (HXB.out.later hq)
    replace hb:=hb.trans (hq.mono hb.size)
    clear hq
    have hB:=hb.size
    go_wp2_with (go_at_call 8;refine HAW.out.step (w0:=w) (B:=w.heap.size) hb hB ?_;clear hb hB;intro wa hb hB)
    go_ret
    exact ⟨rfl,hb⟩
end Go.Proofs.Ytegpikfgajoopaa
