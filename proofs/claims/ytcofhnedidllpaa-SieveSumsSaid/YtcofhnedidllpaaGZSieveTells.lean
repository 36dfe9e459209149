/- The law SieveTells of layer 18. -/
import Derived.Test.YtcofhnedidllpaaGZSieveKit
namespace Go.Proofs.Ytcofhnedidllpaa
open Go Go.RowKit
set_option maxHeartbeats 16000000 in
set_option maxRecDepth 100000 in
theorem sieveTells_calls {w:World}{vl vt vc:Value}{ll:List Tm}{tt:Trm}{cc:List Int}(hl:TimesIn w vl ll)(ht:TermIn w vt tt)(hc:IntsIn w vc cc):GivesAt Try.prog 3 #[vl,vt,vc] w (.bool true):=by
 have HAW:=Lib.hid awake18_calls
 have HSL:Hid (∀ W,Below w.heap.size w W→GivesAt Try.prog 8 #[vl] W (.bool (smallV ll))):=fun W hW=>(small18_calls (hl.kept hW)).gives
 have HNL:=Lib.hid fun (h:smallV ll=true)=>facts18 h
 have HLL:=Lib.hid hl
 obtain ⟨Al,cl,rfl⟩:=times_slice hl
 have HGT:Hid (∀ W,Below w.heap.size w W→GivesAt Try.prog 9 #[vt,.int .i64 0] W (.bool (greatV 0 tt))):=fun W hW=>great18_calls tt W vt 0 (by decide) (ht.kept hW)
 have HTT:=Lib.hid ht
 obtain ⟨Pt,pt,rfl⟩:=ht.parts15
 have HCC:=Lib.hid hc
 obtain ⟨Ac,cc_,rfl,_⟩:=one_at hc
 have alt:=Below.alloc (.refl w.heap.size w) (Nat.le_refl _) (.cells #[.int .u8 tt.op,.int .i64 tt.col,.string tt.cell,.slice Pt tt.kids.length pt] 25)
 have bxt:=trmbox_lit w 25 tt.op tt.col tt.cell (.slice Pt tt.kids.length pt)
 have HXT:=Lib.hid bxt
 have HB:=Lib.hid alt
 clear alt bxt
 clear hl ht hc
 unfold GivesAt
 go_enter Try.func3,Try.ntmps3
 cases hsl:smallV ll with
 | false =>
  rw [hsl] at HSL
  clear hsl
  go_wp2_with fail
  generalize World.alloc w _=w0 at *
  go_wp2_with fail
  refine Calls.mono (HSL.out w0 HB.out) ?_
  rintro e wn1 ⟨rfl,hq⟩
  replace HXT:=Lib.hid (HXT.out.later hq)
  replace HB:=Lib.hid (HB.out.trans (hq.mono HB.out.size))
  clear hq
  go_wp2_with fail
  refine Calls.mono (HAW.out wn1) ?_
  rintro e wn2 ⟨rfl,hq⟩
  replace HXT:=Lib.hid (HXT.out.later hq)
  replace HB:=Lib.hid (HB.out.trans (hq.mono HB.out.size))
  clear hq
  go_wp2
  go_ret
  exact ⟨rfl,HB.out⟩
 | true =>
  rw [hsl] at HSL
  replace HNL:=Lib.hid (HNL.out hsl)
  clear hsl
  go_wp2_with fail
  generalize World.alloc w _=w0 at *
  go_wp2_with fail
  refine Calls.mono (HSL.out w0 HB.out) ?_
  rintro e wn1 ⟨rfl,hq⟩
  replace HXT:=Lib.hid (HXT.out.later hq)
  replace HB:=Lib.hid (HB.out.trans (hq.mono HB.out.size))
  clear hq
  cases hgt:greatV 0 tt with
  | true =>
   rw [hgt] at HGT
   clear hgt
   obtain ⟨t0,t1,t2,t3,_⟩:=HXT.out.cells
   go_wp2_with fail
   clear t0 t1 t2 t3
   refine Calls.mono (HGT.out wn1 HB.out) ?_
   rintro e wn2 ⟨rfl,hq⟩
   replace HXT:=Lib.hid (HXT.out.later hq)
   replace HB:=Lib.hid (HB.out.trans (hq.mono HB.out.size))
   clear hq
   go_wp2_with fail
   refine Calls.mono (HAW.out wn2) ?_
   rintro e wn3 ⟨rfl,hq⟩
   replace HXT:=Lib.hid (HXT.out.later hq)
   replace HB:=Lib.hid (HB.out.trans (hq.mono HB.out.size))
   clear hq
   go_wp2
   go_ret
   exact ⟨rfl,HB.out⟩
  | false =>
   rw [hgt] at HGT
   clear hgt
   obtain ⟨t0,t1,t2,t3,_⟩:=HXT.out.cells
   go_wp2_with fail
   clear t0 t1 t2 t3
   refine Calls.mono (HGT.out wn1 HB.out) ?_
   rintro e wn2 ⟨rfl,hq⟩
   replace HXT:=Lib.hid (HXT.out.later hq)
   replace HB:=Lib.hid (HB.out.trans (hq.mono HB.out.size))
   clear hq
   by_cases hcc:cc.length≤10
   ·have dcc:decide ((10:Int) < (cc.length:Int))=false:=decide_eq_false (by omega)
    have HKC:Hid (cc.length≤10):=hcc
    clear hcc
    have HZ:Hid ((filtS tt ll).length≤1000000∧ShortR (filtS tt ll)∧(projS cc ll).length≤1000000∧ShortR (projS cc ll)∧ll.length≤1000000∧wtW ll≤4611686018427387904∧ShortR ll∧cc.length≤1000000):=by
     obtain ⟨h1,h2,h3⟩:=HNL.out
     have h4:=HKC.out
     have h5:=filt_length tt ll
     have h6:=proj_length cc ll
     exact ⟨by omega,h3.filt _,by omega,ShortR.proj _ (by omega),by omega,by omega,h3,by omega⟩
    go_wp2_with fail
    refine wp_region_calm (offC wn2) (fun _=>false) (fun _=>false) anyE false (by kernel_rfl) (by kernel_rfl) (by kernel_rfl) (by kernel_rfl) (by intro m hm;revert hm;simp;try omega) (offC_stable _) (offC_start _) ?_
    refine calm_fixA rfl rfl ?_
    apply Exists.intro
    refine ⟨fun a wz hc hk hf K hK=>?_,?_⟩
    ·have hb:Below wn2.heap.size wn2 wz:=hc rfl
     clear hk hf hc
     go_simp
     refine Calls.mono (HAW.out wz) ?_
     rintro e w1 ⟨rfl,hq⟩
     exact hK _ _ hq rfl
    refine calm_fixA rfl rfl ?_
    apply Exists.intro
    refine ⟨fun a wz hc hk hf K hK=>?_,?_⟩
    ·have h20:=held_isV hf 0 rfl (by kernel_rfl)
     clear hk hf hc
     go_simp
     exact hK _ _ (Below.refl _ _) rfl
    refine calm_fixA rfl rfl ?_
    apply Exists.intro
    refine ⟨fun a wz hc hk hf K hK=>?_,?_⟩
    ·have h0:=hk 0 (by kernel_rfl)
     have h21:=held_isV hf 0 rfl (by kernel_rfl)
     clear hk hf hc
     go_simp
     exact hK _ _ (Below.refl _ _) rfl
    refine calm_fixA rfl rfl ?_
    apply Exists.intro
    refine ⟨fun a wz hc hk hf K hK=>?_,?_⟩
    ·have hb:Below wn2.heap.size wn2 wz:=hc rfl
     have h4:=hk 4 (by kernel_rfl)
     have h21:=held_isV hf 1 rfl (by kernel_rfl)
     clear hk hf hc
     obtain ⟨t0,t1,t2,t3,_⟩:=(HXT.out.later hb).cells
     go_simp
     exact hK _ _ (Below.refl _ _) rfl
    refine calm_varA (fun u wx=>TimesIn wx u (filtS tt ll)) rfl rfl (fun u w w' hb h=>TimesIn.kept h hb) (fun a wz hc hk hf K hK=>?_) ?_
    ·have hb:Below wn2.heap.size wn2 wz:=hc rfl
     have h22:=held_isV hf 1 rfl (by kernel_rfl)
     have h23:=held_isV hf 0 rfl (by kernel_rfl)
     have h21:=held_isV hf 2 rfl (by kernel_rfl)
     clear hk hf hc
     go_simp
     refine Calls.mono (sieve_filter_calls (HLL.out.kept (HB.out.trans (hb.mono HB.out.size))) (HTT.out.kept (HB.out.trans (hb.mono HB.out.size))) HZ.out.2.2.2.2.1 HZ.out.2.2.2.2.2.2.1) ?_
     rintro e w1 ⟨u,rfl,hk,hq⟩
     exact hK _ _ hq (fun _=>hk)
    refine calm_fixA rfl rfl ?_
    apply Exists.intro
    refine ⟨fun a wz hc hk hf K hK=>?_,?_⟩
    ·have h0:=hk 0 (by kernel_rfl)
     have h21:=held_isV hf 3 rfl (by kernel_rfl)
     clear hk hf hc
     go_simp
     exact hK _ _ (Below.refl _ _) rfl
    refine calm_fixA rfl rfl ?_
    apply Exists.intro
    refine ⟨fun a wz hc hk hf K hK=>?_,?_⟩
    ·have hb:Below wn2.heap.size wn2 wz:=hc rfl
     have h4:=hk 4 (by kernel_rfl)
     have h21:=held_isV hf 4 rfl (by kernel_rfl)
     clear hk hf hc
     obtain ⟨t0,t1,t2,t3,_⟩:=(HXT.out.later hb).cells
     go_simp
     exact hK _ _ (Below.refl _ _) rfl
    refine calm_varA (fun u wx=>TimesIn wx u (filtS tt ll)) rfl rfl (fun u w w' hb h=>TimesIn.kept h hb) (fun a wz hc hk hf K hK=>?_) ?_
    ·have hb:Below wn2.heap.size wn2 wz:=hc rfl
     have h25:=held_isV hf 1 rfl (by kernel_rfl)
     have h26:=held_isV hf 0 rfl (by kernel_rfl)
     have h21:=held_isV hf 5 rfl (by kernel_rfl)
     clear hk hf hc
     go_simp
     refine Calls.mono (ref_filter_calls (HLL.out.kept (HB.out.trans (hb.mono HB.out.size))) (HTT.out.kept (HB.out.trans (hb.mono HB.out.size))) HZ.out.2.2.2.2.1) ?_
     rintro e w1 ⟨u,rfl,hk,hq⟩
     exact hK _ _ hq (fun _=>hk)
    refine calm_fixA rfl rfl ?_
    apply Exists.intro
    refine ⟨fun a wz hc hk hf K hK=>?_,?_⟩
    ·have hb:Below wn2.heap.size wn2 wz:=hc rfl
     obtain ⟨v24,h24,S24⟩:=held_at hf 3 rfl (by kernel_rfl)
     obtain ⟨v27,h27,S27⟩:=held_at hf 0 rfl (by kernel_rfl)
     have h21:=held_isV hf 6 rfl (by kernel_rfl)
     clear hk hf hc
     go_simp
     refine Calls.mono (same18 (S24 rfl) (S27 rfl) HZ.out.1 HZ.out.2.1) ?_
     rintro e w1 ⟨rfl,hq⟩
     exact hK _ _ hq rfl
    refine calm_fixA rfl rfl ?_
    apply Exists.intro
    refine ⟨fun a wz hc hk hf K hK=>?_,?_⟩
    ·have h21:=held_isV hf 7 rfl (by kernel_rfl)
     have h28:=held_isV hf 0 rfl (by kernel_rfl)
     clear hk hf hc
     go_simp
     exact hK _ _ (Below.refl _ _) rfl
    refine calm_fixA rfl rfl ?_
    apply Exists.intro
    refine ⟨fun a wz hc hk hf K hK=>?_,?_⟩
    ·have h29:=held_isV hf 0 rfl (by kernel_rfl)
     clear hk hf hc
     go_simp
     exact hK _ _ (Below.refl _ _) rfl
    refine calm_fixA rfl rfl ?_
    apply Exists.intro
    refine ⟨fun a wz hc hk hf K hK=>?_,?_⟩
    ·have h0:=hk 0 (by kernel_rfl)
     have h30:=held_isV hf 0 rfl (by kernel_rfl)
     clear hk hf hc
     go_simp
     exact hK _ _ (Below.refl _ _) rfl
    refine calm_fixA rfl rfl ?_
    apply Exists.intro
    refine ⟨fun a wz hc hk hf K hK=>?_,?_⟩
    ·have h2:=hk 2 (by kernel_rfl)
     have h30:=held_isV hf 1 rfl (by kernel_rfl)
     clear hk hf hc
     go_simp
     exact hK _ _ (Below.refl _ _) rfl
    refine calm_varA (fun u wx=>TimesIn wx u (projS cc ll)) rfl rfl (fun u w w' hb h=>TimesIn.kept h hb) (fun a wz hc hk hf K hK=>?_) ?_
    ·have hb:Below wn2.heap.size wn2 wz:=hc rfl
     have h31:=held_isV hf 1 rfl (by kernel_rfl)
     have h32:=held_isV hf 0 rfl (by kernel_rfl)
     have h30:=held_isV hf 2 rfl (by kernel_rfl)
     clear hk hf hc
     go_simp
     refine Calls.mono (sieve_project_calls (HLL.out.kept (HB.out.trans (hb.mono HB.out.size))) (IntsIn.kept HCC.out (HB.out.trans (hb.mono HB.out.size))) HZ.out.2.2.2.2.1 HZ.out.2.2.2.2.2.1 HZ.out.2.2.2.2.2.2.2) ?_
     rintro e w1 ⟨u,rfl,hk,hq⟩
     exact hK _ _ hq (fun _=>hk)
    refine calm_fixA rfl rfl ?_
    apply Exists.intro
    refine ⟨fun a wz hc hk hf K hK=>?_,?_⟩
    ·have h0:=hk 0 (by kernel_rfl)
     have h30:=held_isV hf 3 rfl (by kernel_rfl)
     clear hk hf hc
     go_simp
     exact hK _ _ (Below.refl _ _) rfl
    refine calm_fixA rfl rfl ?_
    apply Exists.intro
    refine ⟨fun a wz hc hk hf K hK=>?_,?_⟩
    ·have h2:=hk 2 (by kernel_rfl)
     have h30:=held_isV hf 4 rfl (by kernel_rfl)
     clear hk hf hc
     go_simp
     exact hK _ _ (Below.refl _ _) rfl
    refine calm_varA (fun u wx=>TimesIn wx u (projS cc ll)) rfl rfl (fun u w w' hb h=>TimesIn.kept h hb) (fun a wz hc hk hf K hK=>?_) ?_
    ·have hb:Below wn2.heap.size wn2 wz:=hc rfl
     have h34:=held_isV hf 1 rfl (by kernel_rfl)
     have h35:=held_isV hf 0 rfl (by kernel_rfl)
     have h30:=held_isV hf 5 rfl (by kernel_rfl)
     clear hk hf hc
     go_simp
     refine Calls.mono (ref_project_calls (HLL.out.kept (HB.out.trans (hb.mono HB.out.size))) (IntsIn.kept HCC.out (HB.out.trans (hb.mono HB.out.size))) HZ.out.2.2.2.2.1 HZ.out.2.2.2.2.2.1 HZ.out.2.2.2.2.2.2.2) ?_
     rintro e w1 ⟨u,rfl,hk,hq⟩
     exact hK _ _ hq (fun _=>hk)
    refine calm_fixA rfl rfl ?_
    apply Exists.intro
    refine ⟨fun a wz hc hk hf K hK=>?_,?_⟩
    ·have hb:Below wn2.heap.size wn2 wz:=hc rfl
     obtain ⟨v33,h33,S33⟩:=held_at hf 3 rfl (by kernel_rfl)
     obtain ⟨v36,h36,S36⟩:=held_at hf 0 rfl (by kernel_rfl)
     have h30:=held_isV hf 6 rfl (by kernel_rfl)
     clear hk hf hc
     go_simp
     refine Calls.mono (same18 (S33 rfl) (S36 rfl) HZ.out.2.2.1 HZ.out.2.2.2.1) ?_
     rintro e w1 ⟨rfl,hq⟩
     exact hK _ _ hq rfl
    refine calm_fixA rfl rfl ?_
    apply Exists.intro
    refine ⟨fun a wz hc hk hf K hK=>?_,?_⟩
    ·have h30:=held_isV hf 7 rfl (by kernel_rfl)
     have h37:=held_isV hf 0 rfl (by kernel_rfl)
     clear hk hf hc
     go_simp
     exact hK _ _ (Below.refl _ _) rfl
    refine calm_fixA rfl rfl ?_
    apply Exists.intro
    refine ⟨fun a wz hc hk hf K hK=>?_,?_⟩
    ·have h38:=held_isV hf 0 rfl (by kernel_rfl)
     clear hk hf hc
     go_simp
     exact hK _ _ (Below.refl _ _) rfl
    refine calm_nil ?_
    refine ⟨keeps_none,?_⟩
    intro wn3 hc
    simp only [lexL,calmEnd]
    rintro _ rfl _ rfl _ rfl _ rfl v24 S24 _ rfl _ rfl v27 S27 _ rfl _ rfl _ rfl _ rfl _ rfl v33 S33 _ rfl _ rfl v36 S36 _ rfl _ rfl _ rfl
    have hq:Below wn2.heap.size wn2 wn3:=hc rfl
    clear hc S24 S27 S33 S36
    simp only [Act.put,List.setIfInBounds_toArray,List.set_cons_zero,List.set_cons_succ]
    replace HXT:=Lib.hid (HXT.out.later hq)
    replace HB:=Lib.hid (HB.out.trans (hq.mono HB.out.size))
    clear hq
    go_wp2
    go_ret
    exact ⟨rfl,HB.out⟩
   ·have dcc:decide ((10:Int) < (cc.length:Int))=true:=decide_eq_true (by omega)
    clear hcc
    go_wp2_with fail
    refine Calls.mono (HAW.out wn2) ?_
    rintro e wn3 ⟨rfl,hq⟩
    replace HXT:=Lib.hid (HXT.out.later hq)
    replace HB:=Lib.hid (HB.out.trans (hq.mono HB.out.size))
    clear hq
    go_wp2
    go_ret
    exact ⟨rfl,HB.out⟩
end Go.Proofs.Ytcofhnedidllpaa
