/- The law SieveSums of layer 18. -/
import Derived.Test.YtcofhnedidllpaaGZSieveFine
namespace Go.Proofs.Ytcofhnedidllpaa
open Go Go.RowKit
set_option maxHeartbeats 16000000 in
set_option maxRecDepth 100000 in
theorem sieveSums_calls {w:World}{vl vm vt:Value}{ll:List Tm}{lm:List Tm}{tt:Trm}(hl:TimesIn w vl ll)(hm:TimesIn w vm lm)(ht:TermIn w vt tt):GivesAt Try.prog 4 #[vl,vm,vt] w (.bool true):=by
 have HAW:=Lib.hid awake18_calls
 have HSL:Hid (∀ W,Below w.heap.size w W→GivesAt Try.prog 8 #[vl] W (.bool (smallV ll))):=fun W hW=>(small18_calls (hl.kept hW)).gives
 have HNL:=Lib.hid fun (h:smallV ll=true)=>facts18 h
 have HLL:=Lib.hid hl
 obtain ⟨Al,cl,rfl⟩:=times_slice hl
 have HSM:Hid (∀ W,Below w.heap.size w W→GivesAt Try.prog 8 #[vm] W (.bool (smallV lm))):=fun W hW=>(small18_calls (hm.kept hW)).gives
 have HNM:=Lib.hid fun (h:smallV lm=true)=>facts18 h
 have HLM:=Lib.hid hm
 obtain ⟨Am,cm,rfl⟩:=times_slice hm
 have HGT:Hid (∀ W,Below w.heap.size w W→GivesAt Try.prog 9 #[vt,.int .i64 0] W (.bool (greatV 0 tt))):=fun W hW=>great18_calls tt W vt 0 (by decide) (ht.kept hW)
 have HTT:=Lib.hid ht
 obtain ⟨Pt,pt,rfl⟩:=ht.parts15
 have alt:=Below.alloc (.refl w.heap.size w) (Nat.le_refl _) (.cells #[.int .u8 tt.op,.int .i64 tt.col,.string tt.cell,.slice Pt tt.kids.length pt] 25)
 have bxt:=trmbox_lit w 25 tt.op tt.col tt.cell (.slice Pt tt.kids.length pt)
 have HXT:=Lib.hid bxt
 have HB:=Lib.hid alt
 clear alt bxt
 clear hl hm ht
 unfold GivesAt
 go_enter Try.func4,Try.ntmps4
 cases hsl:smallV ll with
 | false =>
  rw [hsl] at HSL
  clear hsl
  go_wp2_with fail
  generalize World.alloc w _=w0 at *
  go_wp2_with fail
  refine Calls.mono (HSL.out w0 HB.out) ?_
  rintro e wn1 ⟨rfl,hq⟩
  replace HXT:=Lib.hid (HXT.out.later hq)
  replace HB:=Lib.hid (HB.out.trans (hq.mono HB.out.size))
  clear hq
  go_wp2_with fail
  refine Calls.mono (HAW.out wn1) ?_
  rintro e wn2 ⟨rfl,hq⟩
  replace HXT:=Lib.hid (HXT.out.later hq)
  replace HB:=Lib.hid (HB.out.trans (hq.mono HB.out.size))
  clear hq
  go_wp2
  go_ret
  exact ⟨rfl,HB.out⟩
 | true =>
  rw [hsl] at HSL
  replace HNL:=Lib.hid (HNL.out hsl)
  clear hsl
  go_wp2_with fail
  generalize World.alloc w _=w0 at *
  go_wp2_with fail
  refine Calls.mono (HSL.out w0 HB.out) ?_
  rintro e wn1 ⟨rfl,hq⟩
  replace HXT:=Lib.hid (HXT.out.later hq)
  replace HB:=Lib.hid (HB.out.trans (hq.mono HB.out.size))
  clear hq
  cases hsm:smallV lm with
  | false =>
   rw [hsm] at HSM
   clear hsm
   go_wp2_with fail
   refine Calls.mono (HSM.out wn1 HB.out) ?_
   rintro e wn2 ⟨rfl,hq⟩
   replace HXT:=Lib.hid (HXT.out.later hq)
   replace HB:=Lib.hid (HB.out.trans (hq.mono HB.out.size))
   clear hq
   go_wp2_with fail
   refine Calls.mono (HAW.out wn2) ?_
   rintro e wn3 ⟨rfl,hq⟩
   replace HXT:=Lib.hid (HXT.out.later hq)
   replace HB:=Lib.hid (HB.out.trans (hq.mono HB.out.size))
   clear hq
   go_wp2
   go_ret
   exact ⟨rfl,HB.out⟩
  | true =>
   rw [hsm] at HSM
   replace HNM:=Lib.hid (HNM.out hsm)
   clear hsm
   go_wp2_with fail
   refine Calls.mono (HSM.out wn1 HB.out) ?_
   rintro e wn2 ⟨rfl,hq⟩
   replace HXT:=Lib.hid (HXT.out.later hq)
   replace HB:=Lib.hid (HB.out.trans (hq.mono HB.out.size))
   clear hq
   cases hgt:greatV 0 tt with
   | true =>
    rw [hgt] at HGT
    clear hgt
    obtain ⟨t0,t1,t2,t3,_⟩:=HXT.out.cells
    go_wp2_with fail
    clear t0 t1 t2 t3
    refine Calls.mono (HGT.out wn2 HB.out) ?_
    rintro e wn3 ⟨rfl,hq⟩
    replace HXT:=Lib.hid (HXT.out.later hq)
    replace HB:=Lib.hid (HB.out.trans (hq.mono HB.out.size))
    clear hq
    go_wp2_with fail
    refine Calls.mono (HAW.out wn3) ?_
    rintro e wn4 ⟨rfl,hq⟩
    replace HXT:=Lib.hid (HXT.out.later hq)
    replace HB:=Lib.hid (HB.out.trans (hq.mono HB.out.size))
    clear hq
    go_wp2
    go_ret
    exact ⟨rfl,HB.out⟩
   | false =>
    rw [hgt] at HGT
    clear hgt
    obtain ⟨t0,t1,t2,t3,_⟩:=HXT.out.cells
    go_wp2_with fail
    clear t0 t1 t2 t3
    refine Calls.mono (HGT.out wn2 HB.out) ?_
    rintro e wn3 ⟨rfl,hq⟩
    replace HXT:=Lib.hid (HXT.out.later hq)
    replace HB:=Lib.hid (HB.out.trans (hq.mono HB.out.size))
    clear hq
    have HFL:Hid (Fine 60 109951162777600 ll):=HNL.out
    have HFM:Hid (Fine 60 109951162777600 lm):=HNM.out
    clear HNL HNM HSL HSM HGT
    go_wp2_with fail
    refine wp_region_calm (offC wn3) (fun _=>false) (fun _=>false) anyE false (by kernel_rfl) (by kernel_rfl) (by kernel_rfl) (by kernel_rfl) (by intro m hm;revert hm;simp;try omega) (offC_stable _) (offC_start _) ?_
    refine calm_fixA rfl rfl ?_
    apply Exists.intro
    refine ⟨fun a wz hc hk hf K hK=>?_,?_⟩
    ·have h0:=hk 0 (by kernel_rfl)
     clear hk hf hc
     go_simp
     exact hK _ _ (Below.refl _ _) rfl
    refine calm_fixA rfl rfl ?_
    apply Exists.intro
    refine ⟨fun a wz hc hk hf K hK=>?_,?_⟩
    ·have h1:=hk 1 (by kernel_rfl)
     clear hk hf hc
     go_simp
     exact hK _ _ (Below.refl _ _) rfl
    refine calm_varA (fun u wx=>TimesIn wx u (sumW ll lm)) rfl rfl (fun u w w' hb h=>TimesIn.kept h hb) (fun a wz hc hk hf K hK=>?_) ?_
    ·have hb:Below wn3.heap.size wn3 wz:=hc rfl
     have h24:=held_isV hf 1 rfl (by kernel_rfl)
     have h25:=held_isV hf 0 rfl (by kernel_rfl)
     clear hk hf hc
     go_simp
     refine Calls.mono (sum18 (HLL.out.kept (HB.out.trans (hb.mono HB.out.size))) (HLM.out.kept (HB.out.trans (hb.mono HB.out.size))) HFL.out HFM.out (by decide)) ?_
     rintro e w1 ⟨u,rfl,hk,hq⟩
     exact hK _ _ hq (fun _=>hk)
    refine calm_fixA rfl rfl ?_
    apply Exists.intro
    refine ⟨fun a wz hc hk hf K hK=>?_,?_⟩
    ·have hb:Below wn3.heap.size wn3 wz:=hc rfl
     have h5:=hk 5 (by kernel_rfl)
     clear hk hf hc
     obtain ⟨t0,t1,t2,t3,_⟩:=(HXT.out.later hb).cells
     go_simp
     exact hK _ _ (Below.refl _ _) rfl
    refine calm_varA (fun u wx=>TimesIn wx u (filtS tt (sumW ll lm))) rfl rfl (fun u w w' hb h=>TimesIn.kept h hb) (fun a wz hc hk hf K hK=>?_) ?_
    ·have hb:Below wn3.heap.size wn3 wz:=hc rfl
     obtain ⟨v26,h26,S26⟩:=held_at hf 1 rfl (by kernel_rfl)
     have h27:=held_isV hf 0 rfl (by kernel_rfl)
     clear hk hf hc
     go_simp
     refine Calls.mono (filter18 (S26 rfl) (HTT.out.kept (HB.out.trans (hb.mono HB.out.size))) (HFL.out.sum HFM.out) (by decide)) ?_
     rintro e w1 ⟨u,rfl,hk,hq⟩
     exact hK _ _ hq (fun _=>hk)
    refine calm_varA (fun u wx=>TimesIn wx u (filtS tt (sumW ll lm))) rfl rfl (fun u w w' hb h=>TimesIn.kept h hb) (fun a wz hc hk hf K hK=>?_) ?_
    ·have hb:Below wn3.heap.size wn3 wz:=hc rfl
     obtain ⟨v28,h28,S28⟩:=held_at hf 0 rfl (by kernel_rfl)
     clear hk hf hc
     go_simp
     exact hK _ _ (Below.refl _ _) fun _=>S28 rfl
    refine calm_nil ?_
    refine ⟨keeps_none,?_⟩
    intro wn4 hc
    simp only [lexL,calmEnd]
    rintro _ rfl _ rfl v26 S26 _ rfl v28 S28 v7 S7
    have hq:Below wn3.heap.size wn3 wn4:=hc rfl
    have Ha_:Hid (TimesIn wn4 v7 (filtS tt (sumW ll lm))):=S7 rfl
    clear hc S26 S28 S7
    simp only [Act.put,List.setIfInBounds_toArray,List.set_cons_zero,List.set_cons_succ]
    replace HXT:=Lib.hid (HXT.out.later hq)
    replace HB:=Lib.hid (HB.out.trans (hq.mono HB.out.size))
    clear hq
    have Ha:=Ha_
    clear Ha_
    go_wp2_with fail
    refine wp_region_calm (offC wn4) (fun _=>false) (fun _=>false) anyE false (by kernel_rfl) (by kernel_rfl) (by kernel_rfl) (by kernel_rfl) (by intro m hm;revert hm;simp;try omega) (offC_stable _) (offC_start _) ?_
    refine calm_fixA rfl rfl ?_
    apply Exists.intro
    refine ⟨fun a wz hc hk hf K hK=>?_,?_⟩
    ·have h0:=hk 0 (by kernel_rfl)
     clear hk hf hc
     go_simp
     exact hK _ _ (Below.refl _ _) rfl
    refine calm_fixA rfl rfl ?_
    apply Exists.intro
    refine ⟨fun a wz hc hk hf K hK=>?_,?_⟩
    ·have hb:Below wn4.heap.size wn4 wz:=hc rfl
     have h5:=hk 5 (by kernel_rfl)
     clear hk hf hc
     obtain ⟨t0,t1,t2,t3,_⟩:=(HXT.out.later hb).cells
     go_simp
     exact hK _ _ (Below.refl _ _) rfl
    refine calm_varA (fun u wx=>TimesIn wx u (filtS tt ll)) rfl rfl (fun u w w' hb h=>TimesIn.kept h hb) (fun a wz hc hk hf K hK=>?_) ?_
    ·have hb:Below wn4.heap.size wn4 wz:=hc rfl
     have h29:=held_isV hf 1 rfl (by kernel_rfl)
     have h30:=held_isV hf 0 rfl (by kernel_rfl)
     clear hk hf hc
     go_simp
     refine Calls.mono (filter18 (HLL.out.kept (HB.out.trans (hb.mono HB.out.size))) (HTT.out.kept (HB.out.trans (hb.mono HB.out.size))) HFL.out (by decide)) ?_
     rintro e w1 ⟨u,rfl,hk,hq⟩
     exact hK _ _ hq (fun _=>hk)
    refine calm_fixA rfl rfl ?_
    apply Exists.intro
    refine ⟨fun a wz hc hk hf K hK=>?_,?_⟩
    ·have h1:=hk 1 (by kernel_rfl)
     clear hk hf hc
     go_simp
     exact hK _ _ (Below.refl _ _) rfl
    refine calm_fixA rfl rfl ?_
    apply Exists.intro
    refine ⟨fun a wz hc hk hf K hK=>?_,?_⟩
    ·have hb:Below wn4.heap.size wn4 wz:=hc rfl
     have h5:=hk 5 (by kernel_rfl)
     clear hk hf hc
     obtain ⟨t0,t1,t2,t3,_⟩:=(HXT.out.later hb).cells
     go_simp
     exact hK _ _ (Below.refl _ _) rfl
    refine calm_varA (fun u wx=>TimesIn wx u (filtS tt lm)) rfl rfl (fun u w w' hb h=>TimesIn.kept h hb) (fun a wz hc hk hf K hK=>?_) ?_
    ·have hb:Below wn4.heap.size wn4 wz:=hc rfl
     have h32:=held_isV hf 1 rfl (by kernel_rfl)
     have h33:=held_isV hf 0 rfl (by kernel_rfl)
     clear hk hf hc
     go_simp
     refine Calls.mono (filter18 (HLM.out.kept (HB.out.trans (hb.mono HB.out.size))) (HTT.out.kept (HB.out.trans (hb.mono HB.out.size))) HFM.out (by decide)) ?_
     rintro e w1 ⟨u,rfl,hk,hq⟩
     exact hK _ _ hq (fun _=>hk)
    refine calm_varA (fun u wx=>TimesIn wx u (sumW (filtS tt ll) (filtS tt lm))) rfl rfl (fun u w w' hb h=>TimesIn.kept h hb) (fun a wz hc hk hf K hK=>?_) ?_
    ·have hb:Below wn4.heap.size wn4 wz:=hc rfl
     obtain ⟨v31,h31,S31⟩:=held_at hf 3 rfl (by kernel_rfl)
     obtain ⟨v34,h34,S34⟩:=held_at hf 0 rfl (by kernel_rfl)
     clear hk hf hc
     go_simp
     refine Calls.mono (sum18 (S31 rfl) (S34 rfl) (HFL.out.filt tt) (HFM.out.filt tt) (by decide)) ?_
     rintro e w1 ⟨u,rfl,hk,hq⟩
     exact hK _ _ hq (fun _=>hk)
    refine calm_varA (fun u wx=>TimesIn wx u (sumW (filtS tt ll) (filtS tt lm))) rfl rfl (fun u w w' hb h=>TimesIn.kept h hb) (fun a wz hc hk hf K hK=>?_) ?_
    ·have hb:Below wn4.heap.size wn4 wz:=hc rfl
     obtain ⟨v35,h35,S35⟩:=held_at hf 0 rfl (by kernel_rfl)
     clear hk hf hc
     go_simp
     exact hK _ _ (Below.refl _ _) fun _=>S35 rfl
    refine calm_nil ?_
    refine ⟨keeps_none,?_⟩
    intro wn5 hc
    simp only [lexL,calmEnd]
    rintro _ rfl _ rfl v31 S31 _ rfl _ rfl v34 S34 v35 S35 v8 S8
    have hq:Below wn4.heap.size wn4 wn5:=hc rfl
    have Hb_:Hid (TimesIn wn5 v8 (sumW (filtS tt ll) (filtS tt lm))):=S8 rfl
    clear hc S31 S34 S35 S8
    simp only [Act.put,List.setIfInBounds_toArray,List.set_cons_zero,List.set_cons_succ]
    replace HXT:=Lib.hid (HXT.out.later hq)
    replace HB:=Lib.hid (HB.out.trans (hq.mono HB.out.size))
    replace Ha:=Lib.hid (Ha.out.kept hq)
    clear hq
    have Hb:=Hb_
    clear Hb_
    rw [←filt_sum] at Hb
    go_wp2_with fail
    refine Calls.mono (sum18 (HLL.out.kept HB.out) (HLM.out.kept HB.out) HFL.out HFM.out (by decide)) ?_
    rintro e wn6 ⟨vs,rfl,hk,hq⟩
    have Hs:Hid (TimesIn wn6 vs (sumW ll lm)):=hk
    clear hk
    replace HXT:=Lib.hid (HXT.out.later hq)
    replace HB:=Lib.hid (HB.out.trans (hq.mono HB.out.size))
    replace Ha:=Lib.hid (Ha.out.kept hq)
    replace Hb:=Lib.hid (Hb.out.kept hq)
    clear hq
    go_wp2_with fail
    have hq1:=Below.alloc (.refl wn6.heap.size wn6) (Nat.le_refl _) (.cells #[.int .i64 0] 3)
    refine Calls.mono (project18 (cols:=[0]) ((Hs.out.kept hq1)) (lit_ones (Value.int .i64) wn6 3 [0] (by show 1≤1000;decide)) (HFL.out.sum HFM.out) (by decide) (by decide)) ?_
    rintro e wn7 ⟨vc,rfl,hk,hq⟩
    replace hq:=hq1.trans (hq.mono hq1.size)
    have Hc:Hid (TimesIn wn7 vc (projS [0] (sumW ll lm))):=hk
    clear hk hq1
    replace HXT:=Lib.hid (HXT.out.later hq)
    replace HB:=Lib.hid (HB.out.trans (hq.mono HB.out.size))
    replace Ha:=Lib.hid (Ha.out.kept hq)
    replace Hb:=Lib.hid (Hb.out.kept hq)
    replace Hs:=Lib.hid (Hs.out.kept hq)
    clear hq
    clear Hs
    go_wp2_with fail
    have hq1:=Below.alloc (.refl wn7.heap.size wn7) (Nat.le_refl _) (.cells #[.int .i64 0] 3)
    refine Calls.mono (project18 (cols:=[0]) (HLL.out.kept (HB.out.trans (hq1.mono HB.out.size))) (lit_ones (Value.int .i64) wn7 3 [0] (by show 1≤1000;decide)) HFL.out (by decide) (by decide)) ?_
    rintro e wn8 ⟨vx,rfl,hk,hq⟩
    replace hq:=hq1.trans (hq.mono hq1.size)
    have Hx:Hid (TimesIn wn8 vx (projS [0] (ll))):=hk
    clear hk hq1
    replace HXT:=Lib.hid (HXT.out.later hq)
    replace HB:=Lib.hid (HB.out.trans (hq.mono HB.out.size))
    replace Ha:=Lib.hid (Ha.out.kept hq)
    replace Hb:=Lib.hid (Hb.out.kept hq)
    replace Hc:=Lib.hid (Hc.out.kept hq)
    clear hq
    go_wp2_with fail
    have hq1:=Below.alloc (.refl wn8.heap.size wn8) (Nat.le_refl _) (.cells #[.int .i64 0] 3)
    refine Calls.mono (project18 (cols:=[0]) (HLM.out.kept (HB.out.trans (hq1.mono HB.out.size))) (lit_ones (Value.int .i64) wn8 3 [0] (by show 1≤1000;decide)) HFM.out (by decide) (by decide)) ?_
    rintro e wn9 ⟨vy,rfl,hk,hq⟩
    replace hq:=hq1.trans (hq.mono hq1.size)
    have Hy:Hid (TimesIn wn9 vy (projS [0] (lm))):=hk
    clear hk hq1
    replace HXT:=Lib.hid (HXT.out.later hq)
    replace HB:=Lib.hid (HB.out.trans (hq.mono HB.out.size))
    replace Ha:=Lib.hid (Ha.out.kept hq)
    replace Hb:=Lib.hid (Hb.out.kept hq)
    replace Hc:=Lib.hid (Hc.out.kept hq)
    replace Hx:=Lib.hid (Hx.out.kept hq)
    clear hq
    go_wp2_with fail
    refine Calls.mono (sum18 Hx.out Hy.out (HFL.out.proj (by decide)) (HFM.out.proj (by decide)) (by decide)) ?_
    rintro e wn10 ⟨vd,rfl,hk,hq⟩
    have Hd:Hid (TimesIn wn10 vd (sumW (projS [0] ll) (projS [0] lm))):=hk
    clear hk
    replace HXT:=Lib.hid (HXT.out.later hq)
    replace HB:=Lib.hid (HB.out.trans (hq.mono HB.out.size))
    replace Ha:=Lib.hid (Ha.out.kept hq)
    replace Hb:=Lib.hid (Hb.out.kept hq)
    replace Hc:=Lib.hid (Hc.out.kept hq)
    replace Hx:=Lib.hid (Hx.out.kept hq)
    replace Hy:=Lib.hid (Hy.out.kept hq)
    clear hq
    rw [←proj_sum] at Hd
    clear Hx Hy
    go_wp2_with fail
    refine wp_region_calm (offC wn10) (fun _=>false) (fun _=>false) anyE false (by kernel_rfl) (by kernel_rfl) (by kernel_rfl) (by kernel_rfl) (by intro m hm;revert hm;simp;try omega) (offC_stable _) (offC_start _) ?_
    refine calm_fixA rfl rfl ?_
    apply Exists.intro
    refine ⟨fun a wz hc hk hf K hK=>?_,?_⟩
    ·have hb:Below wn10.heap.size wn10 wz:=hc rfl
     clear hk hf hc
     go_simp
     refine Calls.mono (HAW.out wz) ?_
     rintro e w1 ⟨rfl,hq⟩
     exact hK _ _ hq rfl
    refine calm_fixA rfl rfl ?_
    apply Exists.intro
    refine ⟨fun a wz hc hk hf K hK=>?_,?_⟩
    ·have h48:=held_isV hf 0 rfl (by kernel_rfl)
     clear hk hf hc
     go_simp
     exact hK _ _ (Below.refl _ _) rfl
    refine calm_fixA rfl rfl ?_
    apply Exists.intro
    refine ⟨fun a wz hc hk hf K hK=>?_,?_⟩
    ·have h7:=hk 7 (by kernel_rfl)
     have h49:=held_isV hf 0 rfl (by kernel_rfl)
     clear hk hf hc
     go_simp
     exact hK _ _ (Below.refl _ _) rfl
    refine calm_fixA rfl rfl ?_
    apply Exists.intro
    refine ⟨fun a wz hc hk hf K hK=>?_,?_⟩
    ·have h8:=hk 8 (by kernel_rfl)
     have h49:=held_isV hf 1 rfl (by kernel_rfl)
     clear hk hf hc
     go_simp
     exact hK _ _ (Below.refl _ _) rfl
    refine calm_fixA rfl rfl ?_
    apply Exists.intro
    refine ⟨fun a wz hc hk hf K hK=>?_,?_⟩
    ·have hb:Below wn10.heap.size wn10 wz:=hc rfl
     have h50:=held_isV hf 1 rfl (by kernel_rfl)
     have h51:=held_isV hf 0 rfl (by kernel_rfl)
     have h49:=held_isV hf 2 rfl (by kernel_rfl)
     clear hk hf hc
     go_simp
     refine Calls.mono (same18F (Ha.out.kept hb) (Hb.out.kept hb) ((HFL.out.sum HFM.out).filt tt) (by decide)) ?_
     rintro e w1 ⟨rfl,hq⟩
     exact hK _ _ hq rfl
    refine calm_fixA rfl rfl ?_
    apply Exists.intro
    refine ⟨fun a wz hc hk hf K hK=>?_,?_⟩
    ·have h49:=held_isV hf 3 rfl (by kernel_rfl)
     have h52:=held_isV hf 0 rfl (by kernel_rfl)
     clear hk hf hc
     go_simp
     exact hK _ _ (Below.refl _ _) rfl
    refine calm_fixA rfl rfl ?_
    apply Exists.intro
    refine ⟨fun a wz hc hk hf K hK=>?_,?_⟩
    ·have h53:=held_isV hf 0 rfl (by kernel_rfl)
     clear hk hf hc
     go_simp
     exact hK _ _ (Below.refl _ _) rfl
    refine calm_fixA rfl rfl ?_
    apply Exists.intro
    refine ⟨fun a wz hc hk hf K hK=>?_,?_⟩
    ·have h9:=hk 9 (by kernel_rfl)
     have h54:=held_isV hf 0 rfl (by kernel_rfl)
     clear hk hf hc
     go_simp
     exact hK _ _ (Below.refl _ _) rfl
    refine calm_fixA rfl rfl ?_
    apply Exists.intro
    refine ⟨fun a wz hc hk hf K hK=>?_,?_⟩
    ·have h10:=hk 10 (by kernel_rfl)
     have h54:=held_isV hf 1 rfl (by kernel_rfl)
     clear hk hf hc
     go_simp
     exact hK _ _ (Below.refl _ _) rfl
    refine calm_fixA rfl rfl ?_
    apply Exists.intro
    refine ⟨fun a wz hc hk hf K hK=>?_,?_⟩
    ·have hb:Below wn10.heap.size wn10 wz:=hc rfl
     have h55:=held_isV hf 1 rfl (by kernel_rfl)
     have h56:=held_isV hf 0 rfl (by kernel_rfl)
     have h54:=held_isV hf 2 rfl (by kernel_rfl)
     clear hk hf hc
     go_simp
     refine Calls.mono (same18F (Hc.out.kept hb) (Hd.out.kept hb) ((HFL.out.sum HFM.out).proj (by decide)) (by decide)) ?_
     rintro e w1 ⟨rfl,hq⟩
     exact hK _ _ hq rfl
    refine calm_fixA rfl rfl ?_
    apply Exists.intro
    refine ⟨fun a wz hc hk hf K hK=>?_,?_⟩
    ·have h54:=held_isV hf 3 rfl (by kernel_rfl)
     have h57:=held_isV hf 0 rfl (by kernel_rfl)
     clear hk hf hc
     go_simp
     exact hK _ _ (Below.refl _ _) rfl
    refine calm_fixA rfl rfl ?_
    apply Exists.intro
    refine ⟨fun a wz hc hk hf K hK=>?_,?_⟩
    ·have h58:=held_isV hf 0 rfl (by kernel_rfl)
     clear hk hf hc
     go_simp
     exact hK _ _ (Below.refl _ _) rfl
    refine calm_fixA rfl rfl ?_
    apply Exists.intro
    refine ⟨fun a wz hc hk hf K hK=>?_,?_⟩
    ·have h0:=hk 0 (by kernel_rfl)
     have h59:=held_isV hf 0 rfl (by kernel_rfl)
     clear hk hf hc
     go_simp
     exact hK _ _ (Below.refl _ _) rfl
    refine calm_varA (fun u wx=>TimesIn wx u (minusW ll)) rfl rfl (fun u w w' hb h=>TimesIn.kept h hb) (fun a wz hc hk hf K hK=>?_) ?_
    ·have hb:Below wn10.heap.size wn10 wz:=hc rfl
     have h60:=held_isV hf 0 rfl (by kernel_rfl)
     have h59:=held_isV hf 1 rfl (by kernel_rfl)
     clear hk hf hc
     go_simp
     refine Calls.mono (minus18 (HLL.out.kept (HB.out.trans (hb.mono HB.out.size))) HFL.out (by decide)) ?_
     rintro e w1 ⟨u,rfl,hk,hq⟩
     exact hK _ _ hq (fun _=>hk)
    refine calm_fixA rfl rfl ?_
    apply Exists.intro
    refine ⟨fun a wz hc hk hf K hK=>?_,?_⟩
    ·have hb:Below wn10.heap.size wn10 wz:=hc rfl
     have h5:=hk 5 (by kernel_rfl)
     have h59:=held_isV hf 2 rfl (by kernel_rfl)
     clear hk hf hc
     obtain ⟨t0,t1,t2,t3,_⟩:=(HXT.out.later hb).cells
     go_simp
     exact hK _ _ (Below.refl _ _) rfl
    refine calm_varA (fun u wx=>TimesIn wx u (filtS tt (minusW ll))) rfl rfl (fun u w w' hb h=>TimesIn.kept h hb) (fun a wz hc hk hf K hK=>?_) ?_
    ·have hb:Below wn10.heap.size wn10 wz:=hc rfl
     obtain ⟨v61,h61,S61⟩:=held_at hf 1 rfl (by kernel_rfl)
     have h62:=held_isV hf 0 rfl (by kernel_rfl)
     have h59:=held_isV hf 3 rfl (by kernel_rfl)
     clear hk hf hc
     go_simp
     refine Calls.mono (filter18 (S61 rfl) (HTT.out.kept (HB.out.trans (hb.mono HB.out.size))) HFL.out.minus (by decide)) ?_
     rintro e w1 ⟨u,rfl,hk,hq⟩
     exact hK _ _ hq (fun _=>hk)
    refine calm_fixA rfl rfl ?_
    apply Exists.intro
    refine ⟨fun a wz hc hk hf K hK=>?_,?_⟩
    ·have h0:=hk 0 (by kernel_rfl)
     have h59:=held_isV hf 4 rfl (by kernel_rfl)
     clear hk hf hc
     go_simp
     exact hK _ _ (Below.refl _ _) rfl
    refine calm_fixA rfl rfl ?_
    apply Exists.intro
    refine ⟨fun a wz hc hk hf K hK=>?_,?_⟩
    ·have hb:Below wn10.heap.size wn10 wz:=hc rfl
     have h5:=hk 5 (by kernel_rfl)
     have h59:=held_isV hf 5 rfl (by kernel_rfl)
     clear hk hf hc
     obtain ⟨t0,t1,t2,t3,_⟩:=(HXT.out.later hb).cells
     go_simp
     exact hK _ _ (Below.refl _ _) rfl
    refine calm_varA (fun u wx=>TimesIn wx u (filtS tt ll)) rfl rfl (fun u w w' hb h=>TimesIn.kept h hb) (fun a wz hc hk hf K hK=>?_) ?_
    ·have hb:Below wn10.heap.size wn10 wz:=hc rfl
     have h64:=held_isV hf 1 rfl (by kernel_rfl)
     have h65:=held_isV hf 0 rfl (by kernel_rfl)
     have h59:=held_isV hf 6 rfl (by kernel_rfl)
     clear hk hf hc
     go_simp
     refine Calls.mono (filter18 (HLL.out.kept (HB.out.trans (hb.mono HB.out.size))) (HTT.out.kept (HB.out.trans (hb.mono HB.out.size))) HFL.out (by decide)) ?_
     rintro e w1 ⟨u,rfl,hk,hq⟩
     exact hK _ _ hq (fun _=>hk)
    refine calm_varA (fun u wx=>TimesIn wx u (minusW (filtS tt ll))) rfl rfl (fun u w w' hb h=>TimesIn.kept h hb) (fun a wz hc hk hf K hK=>?_) ?_
    ·have hb:Below wn10.heap.size wn10 wz:=hc rfl
     obtain ⟨v66,h66,S66⟩:=held_at hf 0 rfl (by kernel_rfl)
     have h59:=held_isV hf 7 rfl (by kernel_rfl)
     clear hk hf hc
     go_simp
     refine Calls.mono (minus18 (S66 rfl) (HFL.out.filt tt) (by decide)) ?_
     rintro e w1 ⟨u,rfl,hk,hq⟩
     exact hK _ _ hq (fun _=>hk)
    refine calm_fixA rfl rfl ?_
    apply Exists.intro
    refine ⟨fun a wz hc hk hf K hK=>?_,?_⟩
    ·have hb:Below wn10.heap.size wn10 wz:=hc rfl
     obtain ⟨v63,h63,S63⟩:=held_at hf 4 rfl (by kernel_rfl)
     obtain ⟨v67,h67,S67⟩:=held_at hf 0 rfl (by kernel_rfl)
     have h59:=held_isV hf 8 rfl (by kernel_rfl)
     clear hk hf hc
     go_simp
     refine Calls.mono (same18F (S63 rfl) (by rw [filt_minus];exact S67 rfl) (HFL.out.minus.filt tt) (by decide)) ?_
     rintro e w1 ⟨rfl,hq⟩
     exact hK _ _ hq rfl
    refine calm_fixA rfl rfl ?_
    apply Exists.intro
    refine ⟨fun a wz hc hk hf K hK=>?_,?_⟩
    ·have h59:=held_isV hf 9 rfl (by kernel_rfl)
     have h68:=held_isV hf 0 rfl (by kernel_rfl)
     clear hk hf hc
     go_simp
     exact hK _ _ (Below.refl _ _) rfl
    refine calm_fixA rfl rfl ?_
    apply Exists.intro
    refine ⟨fun a wz hc hk hf K hK=>?_,?_⟩
    ·have h69:=held_isV hf 0 rfl (by kernel_rfl)
     clear hk hf hc
     go_simp
     exact hK _ _ (Below.refl _ _) rfl
    refine calm_nil ?_
    refine ⟨keeps_none,?_⟩
    intro wn11 hc
    simp only [lexL,calmEnd]
    rintro _ rfl _ rfl _ rfl _ rfl _ rfl _ rfl _ rfl _ rfl _ rfl _ rfl _ rfl _ rfl _ rfl v61 S61 _ rfl v63 S63 _ rfl _ rfl v66 S66 v67 S67 _ rfl _ rfl _ rfl
    have hq:Below wn10.heap.size wn10 wn11:=hc rfl
    clear hc S61 S63 S66 S67
    simp only [Act.put,List.setIfInBounds_toArray,List.set_cons_zero,List.set_cons_succ]
    replace HXT:=Lib.hid (HXT.out.later hq)
    replace HB:=Lib.hid (HB.out.trans (hq.mono HB.out.size))
    replace Ha:=Lib.hid (Ha.out.kept hq)
    replace Hb:=Lib.hid (Hb.out.kept hq)
    replace Hc:=Lib.hid (Hc.out.kept hq)
    replace Hd:=Lib.hid (Hd.out.kept hq)
    clear hq
    go_wp2
    go_ret
    exact ⟨rfl,HB.out⟩
end Go.Proofs.Ytcofhnedidllpaa
