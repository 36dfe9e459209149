/- The law SieveBoth of layer 18. -/
import Derived.Test.YtcofhnedidllpaaGZTermKit
import Derived.Test.YtcofhnedidllpaaGZSieveFine
namespace Go.Proofs.Ytcofhnedidllpaa
open Go Go.RowKit
theorem two_built {w:World}(T:TypeId)(op:Int)(h1:0≤op)(h2:op≤255){a b:Trm}{oa ca ob cb:Int}{ba bb:ByteArray}{ka kb:Value}(ha:TermIn w (.agg #[.int .u8 oa,.int .i64 ca,.string ba,ka]) a)(hb:TermIn w (.agg #[.int .u8 ob,.int .i64 cb,.string bb,kb]) b) :
  TermIn (w.alloc (.cells #[.int .u8 oa,.int .i64 ca,.string ba,ka,.int .u8 ob,.int .i64 cb,.string bb,kb] T)) (.agg #[.int .u8 op,.int .i64 0,.string ⟨#[]⟩,.slice (some ⟨w.heap.size,0,none⟩) 2 2]) (twoT15 op a b):=by
 obtain ⟨ka',e,hoa,hka⟩:=ha
 simp only [trmA,Value.agg.injEq,Array.mk.injEq,List.cons.injEq,Value.int.injEq,Value.string.injEq,true_and,and_true] at e
 obtain ⟨rfl,rfl,rfl,rfl⟩:=e
 obtain ⟨kb',e,hob,hkb⟩:=hb
 simp only [trmA,Value.agg.injEq,Array.mk.injEq,List.cons.injEq,Value.int.injEq,Value.string.injEq,true_and,and_true] at e
 obtain ⟨rfl,rfl,rfl,rfl⟩:=e
 refine ⟨_,rfl,⟨h1,h2,by show (-9223372036854775808:Int)≤0;decide,by show (0:Int)≤9223372036854775807;decide⟩,?_⟩
 exact kids_lit T [(ka,a),(kb,b)] (fun t ht=>by
  simp only [List.mem_cons,List.not_mem_nil,or_false] at ht
  rcases ht with rfl|rfl
  ·exact ⟨hoa,hka⟩
  ·exact ⟨hob,hkb⟩) (by show 2≤1000;decide) rfl rfl rfl _ rfl
theorem both_yes18 {a b:ByteArray}:bothC a b=yesC↔a=yesC∧b=yesC:=by
 unfold bothC
 constructor
 ·intro h
  split at h
  ·exact absurd h.symm yes_nay
  ·split at h
   ·assumption
   ·exact absurd h.symm yes_no
 ·rintro ⟨rfl,rfl⟩
  rw [if_neg (by rintro (h|h) <;> exact yes_nay h),if_pos ⟨rfl,rfl⟩]
theorem filt_and (a b:Trm)(l:List Tm):filtS (twoT15 38 a b) l=filtS b (filtS a l):=by
 rw [filt_both]
 unfold filtS
 congr 1
 funext x
 rw [eval_and,Bool.eq_iff_iff,Bool.and_eq_true,decide_eq_true_iff,decide_eq_true_iff,decide_eq_true_iff,both_yes18]
 exact and_comm
theorem filt_or_length (a b:Trm)(l:List Tm):(filtS (twoT15 38 a b) l).length≤(filtS (twoT15 124 a b) l).length:=by
 unfold filtS
 rw [←List.countP_eq_length_filter,←List.countP_eq_length_filter]
 refine List.countP_mono_left fun x _ h=>?_
 rw [decide_eq_true_iff] at h ⊢
 rw [eval_or]
 rw [eval_and] at h
 exact both_is_yes h
set_option maxHeartbeats 16000000 in
set_option maxRecDepth 100000 in
theorem sieveBoth_calls {w:World}{vl va vb:Value}{ll:List Tm}{ta:Trm}{tb:Trm}(hl:TimesIn w vl ll)(ha:TermIn w va ta)(hb:TermIn w vb tb):GivesAt Try.prog 7 #[vl,va,vb] w (.bool true):=by
 have HAW:=Lib.hid awake18_calls
 have HSL:Hid (∀ W,Below w.heap.size w W→GivesAt Try.prog 8 #[vl] W (.bool (smallV ll))):=fun W hW=>(small18_calls (hl.kept hW)).gives
 have HNL:=Lib.hid fun (h:smallV ll=true)=>facts18 h
 have HLL:=Lib.hid hl
 obtain ⟨Al,cl,rfl⟩:=times_slice hl
 have HGA:Hid (∀ W,Below w.heap.size w W→GivesAt Try.prog 9 #[va,.int .i64 1] W (.bool (greatV 1 ta))):=fun W hW=>great18_calls ta W va 1 (by decide) (ha.kept hW)
 have HTA:=Lib.hid ha
 obtain ⟨Pa,pa,rfl⟩:=ha.parts15
 have HGB:Hid (∀ W,Below w.heap.size w W→GivesAt Try.prog 9 #[vb,.int .i64 1] W (.bool (greatV 1 tb))):=fun W hW=>great18_calls tb W vb 1 (by decide) (hb.kept hW)
 have HTB:=Lib.hid hb
 obtain ⟨Pb,pb,rfl⟩:=hb.parts15
 have ala:=Below.alloc (.refl w.heap.size w) (Nat.le_refl _) (.cells #[.int .u8 ta.op,.int .i64 ta.col,.string ta.cell,.slice Pa ta.kids.length pa] 25)
 have bxa:=trmbox_lit w 25 ta.op ta.col ta.cell (.slice Pa ta.kids.length pa)
 have alb:=Below.alloc (.refl (w.alloc (.cells #[.int .u8 ta.op,.int .i64 ta.col,.string ta.cell,.slice Pa ta.kids.length pa] 25)).heap.size (w.alloc (.cells #[.int .u8 ta.op,.int .i64 ta.col,.string ta.cell,.slice Pa ta.kids.length pa] 25))) (Nat.le_refl _) (.cells #[.int .u8 tb.op,.int .i64 tb.col,.string tb.cell,.slice Pb tb.kids.length pb] 25)
 have bxb:=trmbox_lit (w.alloc (.cells #[.int .u8 ta.op,.int .i64 ta.col,.string ta.cell,.slice Pa ta.kids.length pa] 25)) 25 tb.op tb.col tb.cell (.slice Pb tb.kids.length pb)
 rw [show (w.alloc (.cells #[.int .u8 ta.op,.int .i64 ta.col,.string ta.cell,.slice Pa ta.kids.length pa] 25)).heap.size=w.heap.size+1 by simp] at bxb
 have HXA:=Lib.hid (bxa.later alb)
 have HXB:=Lib.hid bxb
 have HB:=Lib.hid (ala.trans (alb.mono ala.size))
 clear ala bxa alb bxb
 clear hl ha hb
 unfold GivesAt
 go_enter Try.func7,Try.ntmps7
 cases hsl:smallV ll with
 | false =>
  rw [hsl] at HSL
  clear hsl
  go_wp2_with fail
  generalize World.alloc (World.alloc w _) _=w0 at *
  go_wp2_with fail
  refine Calls.mono (HSL.out w0 HB.out) ?_
  rintro e wn1 ⟨rfl,hq⟩
  replace HXA:=Lib.hid (HXA.out.later hq)
  replace HXB:=Lib.hid (HXB.out.later hq)
  replace HB:=Lib.hid (HB.out.trans (hq.mono HB.out.size))
  clear hq
  go_wp2_with fail
  refine Calls.mono (HAW.out wn1) ?_
  rintro e wn2 ⟨rfl,hq⟩
  replace HXA:=Lib.hid (HXA.out.later hq)
  replace HXB:=Lib.hid (HXB.out.later hq)
  replace HB:=Lib.hid (HB.out.trans (hq.mono HB.out.size))
  clear hq
  go_wp2
  go_ret
  exact ⟨rfl,HB.out⟩
 | true =>
  rw [hsl] at HSL
  replace HNL:=Lib.hid (HNL.out hsl)
  clear hsl
  go_wp2_with fail
  generalize World.alloc (World.alloc w _) _=w0 at *
  go_wp2_with fail
  refine Calls.mono (HSL.out w0 HB.out) ?_
  rintro e wn1 ⟨rfl,hq⟩
  replace HXA:=Lib.hid (HXA.out.later hq)
  replace HXB:=Lib.hid (HXB.out.later hq)
  replace HB:=Lib.hid (HB.out.trans (hq.mono HB.out.size))
  clear hq
  cases hga:greatV 1 ta with
  | true =>
   rw [hga] at HGA
   clear hga
   obtain ⟨a0,a1,a2,a3,_⟩:=HXA.out.cells
   go_wp2_with fail
   clear a0 a1 a2 a3
   refine Calls.mono (HGA.out wn1 HB.out) ?_
   rintro e wn2 ⟨rfl,hq⟩
   replace HXA:=Lib.hid (HXA.out.later hq)
   replace HXB:=Lib.hid (HXB.out.later hq)
   replace HB:=Lib.hid (HB.out.trans (hq.mono HB.out.size))
   clear hq
   go_wp2_with fail
   refine Calls.mono (HAW.out wn2) ?_
   rintro e wn3 ⟨rfl,hq⟩
   replace HXA:=Lib.hid (HXA.out.later hq)
   replace HXB:=Lib.hid (HXB.out.later hq)
   replace HB:=Lib.hid (HB.out.trans (hq.mono HB.out.size))
   clear hq
   go_wp2
   go_ret
   exact ⟨rfl,HB.out⟩
  | false =>
   rw [hga] at HGA
   clear hga
   obtain ⟨a0,a1,a2,a3,_⟩:=HXA.out.cells
   go_wp2_with fail
   clear a0 a1 a2 a3
   refine Calls.mono (HGA.out wn1 HB.out) ?_
   rintro e wn2 ⟨rfl,hq⟩
   replace HXA:=Lib.hid (HXA.out.later hq)
   replace HXB:=Lib.hid (HXB.out.later hq)
   replace HB:=Lib.hid (HB.out.trans (hq.mono HB.out.size))
   clear hq
   cases hgb:greatV 1 tb with
   | true =>
    rw [hgb] at HGB
    clear hgb
    obtain ⟨b0,b1,b2,b3,_⟩:=HXB.out.cells
    go_wp2_with fail
    clear b0 b1 b2 b3
    refine Calls.mono (HGB.out wn2 HB.out) ?_
    rintro e wn3 ⟨rfl,hq⟩
    replace HXA:=Lib.hid (HXA.out.later hq)
    replace HXB:=Lib.hid (HXB.out.later hq)
    replace HB:=Lib.hid (HB.out.trans (hq.mono HB.out.size))
    clear hq
    go_wp2_with fail
    refine Calls.mono (HAW.out wn3) ?_
    rintro e wn4 ⟨rfl,hq⟩
    replace HXA:=Lib.hid (HXA.out.later hq)
    replace HXB:=Lib.hid (HXB.out.later hq)
    replace HB:=Lib.hid (HB.out.trans (hq.mono HB.out.size))
    clear hq
    go_wp2
    go_ret
    exact ⟨rfl,HB.out⟩
   | false =>
    rw [hgb] at HGB
    clear hgb
    obtain ⟨b0,b1,b2,b3,_⟩:=HXB.out.cells
    go_wp2_with fail
    clear b0 b1 b2 b3
    refine Calls.mono (HGB.out wn2 HB.out) ?_
    rintro e wn3 ⟨rfl,hq⟩
    replace HXA:=Lib.hid (HXA.out.later hq)
    replace HXB:=Lib.hid (HXB.out.later hq)
    replace HB:=Lib.hid (HB.out.trans (hq.mono HB.out.size))
    clear hq
    have HFL:Hid (Fine 60 109951162777600 ll):=HNL.out
    clear HNL HSL HGA HGB
    obtain ⟨a0,a1,a2,a3,_⟩:=HXA.out.cells
    obtain ⟨b0,b1,b2,b3,_⟩:=HXB.out.cells
    go_upto_region 4 with fail
    clear a0 a1 a2 a3
    clear b0 b1 b2 b3
    have q1:=Below.alloc (.refl wn3.heap.size wn3) (Nat.le_refl _) (.cells #[.int .u8 ta.op,.int .i64 ta.col,.string ta.cell,.slice Pa ta.kids.length pa,.int .u8 tb.op,.int .i64 tb.col,.string tb.cell,.slice Pb tb.kids.length pb] 25)
    have hq:=Below.alloc q1 q1.size (.cells #[.int .u8 38,.int .i64 0,.string ⟨#[]⟩,.slice (some ⟨wn3.heap.size,0,none⟩) 2 2] 25)
    have hbt:=two_built 25 38 (by decide) (by decide) (HTA.out.kept HB.out) (HTB.out.kept HB.out)
    have HTO:=Lib.hid (hbt.kept (Below.alloc (.refl _ _) (Nat.le_refl _) (.cells #[.int .u8 38,.int .i64 0,.string ⟨#[]⟩,.slice (some ⟨wn3.heap.size,0,none⟩) 2 2] 25)))
    have hbx:=trmbox_lit (wn3.alloc (.cells #[.int .u8 ta.op,.int .i64 ta.col,.string ta.cell,.slice Pa ta.kids.length pa,.int .u8 tb.op,.int .i64 tb.col,.string tb.cell,.slice Pb tb.kids.length pb] 25)) 25 38 0 ⟨#[]⟩ (.slice (some ⟨wn3.heap.size,0,none⟩) 2 2)
    rw [show (wn3.alloc (.cells #[.int .u8 ta.op,.int .i64 ta.col,.string ta.cell,.slice Pa ta.kids.length pa,.int .u8 tb.op,.int .i64 tb.col,.string tb.cell,.slice Pb tb.kids.length pb] 25)).heap.size=wn3.heap.size+1 by simp] at hbx
    have HXO:=Lib.hid hbx
    clear hbt hbx q1
    replace HXA:=Lib.hid (HXA.out.later hq)
    replace HXB:=Lib.hid (HXB.out.later hq)
    replace HB:=Lib.hid (HB.out.trans (hq.mono HB.out.size))
    clear hq
    generalize World.alloc (World.alloc wn3 _) _=wn4 at *
    obtain ⟨a0,a1,a2,a3,_⟩:=HXA.out.cells
    obtain ⟨b0,b1,b2,b3,_⟩:=HXB.out.cells
    go_upto_region 5 with fail
    clear a0 a1 a2 a3
    clear b0 b1 b2 b3
    have q1:=Below.alloc (.refl wn4.heap.size wn4) (Nat.le_refl _) (.cells #[.int .u8 ta.op,.int .i64 ta.col,.string ta.cell,.slice Pa ta.kids.length pa,.int .u8 tb.op,.int .i64 tb.col,.string tb.cell,.slice Pb tb.kids.length pb] 25)
    have hq:=Below.alloc q1 q1.size (.cells #[.int .u8 124,.int .i64 0,.string ⟨#[]⟩,.slice (some ⟨wn4.heap.size,0,none⟩) 2 2] 25)
    have hbt:=two_built 25 124 (by decide) (by decide) (HTA.out.kept HB.out) (HTB.out.kept HB.out)
    have HTE:=Lib.hid (hbt.kept (Below.alloc (.refl _ _) (Nat.le_refl _) (.cells #[.int .u8 124,.int .i64 0,.string ⟨#[]⟩,.slice (some ⟨wn4.heap.size,0,none⟩) 2 2] 25)))
    have hbx:=trmbox_lit (wn4.alloc (.cells #[.int .u8 ta.op,.int .i64 ta.col,.string ta.cell,.slice Pa ta.kids.length pa,.int .u8 tb.op,.int .i64 tb.col,.string tb.cell,.slice Pb tb.kids.length pb] 25)) 25 124 0 ⟨#[]⟩ (.slice (some ⟨wn4.heap.size,0,none⟩) 2 2)
    rw [show (wn4.alloc (.cells #[.int .u8 ta.op,.int .i64 ta.col,.string ta.cell,.slice Pa ta.kids.length pa,.int .u8 tb.op,.int .i64 tb.col,.string tb.cell,.slice Pb tb.kids.length pb] 25)).heap.size=wn4.heap.size+1 by simp] at hbx
    have HXE:=Lib.hid hbx
    clear hbt hbx q1
    replace HXA:=Lib.hid (HXA.out.later hq)
    replace HXB:=Lib.hid (HXB.out.later hq)
    replace HB:=Lib.hid (HB.out.trans (hq.mono HB.out.size))
    replace HXO:=Lib.hid (HXO.out.later hq)
    replace HTO:=Lib.hid (HTO.out.kept hq)
    clear hq
    generalize World.alloc (World.alloc wn4 _) _=wn5 at *
    obtain ⟨o0,o1,o2,o3,_⟩:=HXO.out.cells
    go_wp2_with fail
    clear o0 o1 o2 o3
    refine Calls.mono (filter18 (HLL.out.kept HB.out) HTO.out HFL.out (by decide)) ?_
    rintro e wn6 ⟨vx,rfl,hk,hq⟩
    have Hx:Hid (TimesIn wn6 vx (filtS (twoT15 38 ta tb) ll)):=hk
    clear hk
    replace HXA:=Lib.hid (HXA.out.later hq)
    replace HXB:=Lib.hid (HXB.out.later hq)
    replace HB:=Lib.hid (HB.out.trans (hq.mono HB.out.size))
    replace HXO:=Lib.hid (HXO.out.later hq)
    replace HTO:=Lib.hid (HTO.out.kept hq)
    replace HXE:=Lib.hid (HXE.out.later hq)
    replace HTE:=Lib.hid (HTE.out.kept hq)
    clear hq
    clear HXO HTO
    go_wp2_with fail
    refine wp_region_calm (offC wn6) (fun _=>false) (fun _=>false) anyE false (by kernel_rfl) (by kernel_rfl) (by kernel_rfl) (by kernel_rfl) (by intro m hm;revert hm;simp;try omega) (offC_stable _) (offC_start _) ?_
    refine calm_fixA rfl rfl ?_
    apply Exists.intro
    refine ⟨fun a wz hc hk hf K hK=>?_,?_⟩
    ·have h0:=hk 0 (by kernel_rfl)
     clear hk hf hc
     go_simp
     exact hK _ _ (Below.refl _ _) rfl
    refine calm_fixA rfl rfl ?_
    apply Exists.intro
    refine ⟨fun a wz hc hk hf K hK=>?_,?_⟩
    ·have hb:Below wn6.heap.size wn6 wz:=hc rfl
     have h4:=hk 4 (by kernel_rfl)
     clear hk hf hc
     obtain ⟨a0,a1,a2,a3,_⟩:=(HXA.out.later hb).cells
     go_simp
     exact hK _ _ (Below.refl _ _) rfl
    refine calm_varA (fun u wx=>TimesIn wx u (filtS ta ll)) rfl rfl (fun u w w' hb h=>TimesIn.kept h hb) (fun a wz hc hk hf K hK=>?_) ?_
    ·have hb:Below wn6.heap.size wn6 wz:=hc rfl
     have h34:=held_isV hf 1 rfl (by kernel_rfl)
     have h35:=held_isV hf 0 rfl (by kernel_rfl)
     clear hk hf hc
     go_simp
     refine Calls.mono (filter18 (HLL.out.kept (HB.out.trans (hb.mono HB.out.size))) (HTA.out.kept (HB.out.trans (hb.mono HB.out.size))) HFL.out (by decide)) ?_
     rintro e w1 ⟨u,rfl,hk,hq⟩
     exact hK _ _ hq (fun _=>hk)
    refine calm_fixA rfl rfl ?_
    apply Exists.intro
    refine ⟨fun a wz hc hk hf K hK=>?_,?_⟩
    ·have hb:Below wn6.heap.size wn6 wz:=hc rfl
     have h5:=hk 5 (by kernel_rfl)
     clear hk hf hc
     obtain ⟨b0,b1,b2,b3,_⟩:=(HXB.out.later hb).cells
     go_simp
     exact hK _ _ (Below.refl _ _) rfl
    refine calm_varA (fun u wx=>TimesIn wx u (filtS tb (filtS ta ll))) rfl rfl (fun u w w' hb h=>TimesIn.kept h hb) (fun a wz hc hk hf K hK=>?_) ?_
    ·have hb:Below wn6.heap.size wn6 wz:=hc rfl
     obtain ⟨v36,h36,S36⟩:=held_at hf 1 rfl (by kernel_rfl)
     have h37:=held_isV hf 0 rfl (by kernel_rfl)
     clear hk hf hc
     go_simp
     refine Calls.mono (filter18 (S36 rfl) (HTB.out.kept (HB.out.trans (hb.mono HB.out.size))) (HFL.out.filt ta) (by decide)) ?_
     rintro e w1 ⟨u,rfl,hk,hq⟩
     exact hK _ _ hq (fun _=>hk)
    refine calm_varA (fun u wx=>TimesIn wx u (filtS tb (filtS ta ll))) rfl rfl (fun u w w' hb h=>TimesIn.kept h hb) (fun a wz hc hk hf K hK=>?_) ?_
    ·have hb:Below wn6.heap.size wn6 wz:=hc rfl
     obtain ⟨v38,h38,S38⟩:=held_at hf 0 rfl (by kernel_rfl)
     clear hk hf hc
     go_simp
     exact hK _ _ (Below.refl _ _) fun _=>S38 rfl
    refine calm_nil ?_
    refine ⟨keeps_none,?_⟩
    intro wn7 hc
    simp only [lexL,calmEnd]
    rintro _ rfl _ rfl v36 S36 _ rfl v38 S38 v10 S10
    have hq:Below wn6.heap.size wn6 wn7:=hc rfl
    have Hy_:Hid (TimesIn wn7 v10 (filtS tb (filtS ta ll))):=S10 rfl
    clear hc S36 S38 S10
    simp only [Act.put,List.setIfInBounds_toArray,List.set_cons_zero,List.set_cons_succ]
    replace HXA:=Lib.hid (HXA.out.later hq)
    replace HXB:=Lib.hid (HXB.out.later hq)
    replace HB:=Lib.hid (HB.out.trans (hq.mono HB.out.size))
    replace HXE:=Lib.hid (HXE.out.later hq)
    replace HTE:=Lib.hid (HTE.out.kept hq)
    replace Hx:=Lib.hid (Hx.out.kept hq)
    clear hq
    have Hy:=Hy_
    clear Hy_
    rw [←filt_and] at Hy
    go_wp2_with fail
    refine Calls.mono (HAW.out wn7) ?_
    rintro e wn8 ⟨rfl,hq⟩
    replace HXA:=Lib.hid (HXA.out.later hq)
    replace HXB:=Lib.hid (HXB.out.later hq)
    replace HB:=Lib.hid (HB.out.trans (hq.mono HB.out.size))
    replace HXE:=Lib.hid (HXE.out.later hq)
    replace HTE:=Lib.hid (HTE.out.kept hq)
    replace Hx:=Lib.hid (Hx.out.kept hq)
    replace Hy:=Lib.hid (Hy.out.kept hq)
    clear hq
    go_wp2_with fail
    refine Calls.mono (same18F Hx.out Hy.out (HFL.out.filt _) (by decide)) ?_
    rintro e wn9 ⟨rfl,hq⟩
    replace HXA:=Lib.hid (HXA.out.later hq)
    replace HXB:=Lib.hid (HXB.out.later hq)
    replace HB:=Lib.hid (HB.out.trans (hq.mono HB.out.size))
    replace HXE:=Lib.hid (HXE.out.later hq)
    replace HTE:=Lib.hid (HTE.out.kept hq)
    replace Hx:=Lib.hid (Hx.out.kept hq)
    replace Hy:=Lib.hid (Hy.out.kept hq)
    clear hq
    clear Hy
    obtain ⟨e0,e1,e2,e3,_⟩:=HXE.out.cells
    go_wp2_with fail
    clear e0 e1 e2 e3
    refine Calls.mono (filter18 (HLL.out.kept HB.out) HTE.out HFL.out (by decide)) ?_
    rintro e wn10 ⟨ve,rfl,hk,hq⟩
    have He:Hid (TimesIn wn10 ve (filtS (twoT15 124 ta tb) ll)):=hk
    clear hk
    replace HXA:=Lib.hid (HXA.out.later hq)
    replace HXB:=Lib.hid (HXB.out.later hq)
    replace HB:=Lib.hid (HB.out.trans (hq.mono HB.out.size))
    replace HXE:=Lib.hid (HXE.out.later hq)
    replace HTE:=Lib.hid (HTE.out.kept hq)
    replace Hx:=Lib.hid (Hx.out.kept hq)
    clear hq
    have hle:=filt_or_length ta tb ll
    obtain ⟨Snx,cnx,enx⟩:=times_slice Hx.out
    obtain ⟨nx,hnnx⟩:∃ n,(filtS (twoT15 38 ta tb) ll).length=n:=⟨_,rfl⟩
    have HLnx:Hid ((filtS (twoT15 38 ta tb) ll).length=nx):=hnnx
    rw [hnnx] at enx
    subst enx
    clear hnnx
    obtain ⟨Sne,cne,ene⟩:=times_slice He.out
    obtain ⟨ne,hnne⟩:∃ n,(filtS (twoT15 124 ta tb) ll).length=n:=⟨_,rfl⟩
    have HLne:Hid ((filtS (twoT15 124 ta tb) ll).length=ne):=hnne
    rw [hnne] at ene
    subst ene
    clear hnne
    rw [HLnx.out,HLne.out] at hle
    have d1:decide ((nx:Int)≤(ne:Int))=true:=decide_eq_true (by omega)
    clear HTE HXE
    clear Hx He
    go_wp2_with fail
    have hq1:=Below.alloc (.refl wn10.heap.size wn10) (Nat.le_refl _) (.cells #[.int .i64 0] 3)
    refine Calls.mono (project18 (cols:=[0]) (HLL.out.kept (HB.out.trans (hq1.mono HB.out.size))) (lit_ones (Value.int .i64) wn10 3 [0] (by show 1≤1000;decide)) HFL.out (by decide) (by decide)) ?_
    rintro e wn11 ⟨vp,rfl,hk,hq⟩
    replace hq:=hq1.trans (hq.mono hq1.size)
    have Hp:Hid (TimesIn wn11 vp (projS [0] (ll))):=hk
    clear hk hq1
    replace HXA:=Lib.hid (HXA.out.later hq)
    replace HXB:=Lib.hid (HXB.out.later hq)
    replace HB:=Lib.hid (HB.out.trans (hq.mono HB.out.size))
    clear hq
    clear d1 hle
    go_wp2_with fail
    have hq1:=Below.alloc (.refl wn11.heap.size wn11) (Nat.le_refl _) (.cells #[.int .i64 0,.int .i64 0] 3)
    refine Calls.mono (project18 (cols:=[0,0]) (Hp.out.kept hq1) (lit_ones (Value.int .i64) wn11 3 [0,0] (by show 2≤1000;decide)) (HFL.out.proj (by decide)) (by decide) (by decide)) ?_
    rintro e wn12 ⟨vq,rfl,hk,hq⟩
    replace hq:=hq1.trans (hq.mono hq1.size)
    have Hq:Hid (TimesIn wn12 vq (projS [0,0] (projS [0] ll))):=hk
    clear hk hq1
    replace HXA:=Lib.hid (HXA.out.later hq)
    replace HXB:=Lib.hid (HXB.out.later hq)
    replace HB:=Lib.hid (HB.out.trans (hq.mono HB.out.size))
    replace Hp:=Lib.hid (Hp.out.kept hq)
    clear hq
    rw [proj_proj] at Hq
    clear Hp
    go_wp2_with fail
    have hq1:=Below.alloc (.refl wn12.heap.size wn12) (Nat.le_refl _) (.cells #[.int .i64 0,.int .i64 0] 3)
    refine Calls.mono (project18 (cols:=[0,0]) (HLL.out.kept (HB.out.trans (hq1.mono HB.out.size))) (lit_ones (Value.int .i64) wn12 3 [0,0] (by show 2≤1000;decide)) HFL.out (by decide) (by decide)) ?_
    rintro e wn13 ⟨vr,rfl,hk,hq⟩
    replace hq:=hq1.trans (hq.mono hq1.size)
    have Hr:Hid (TimesIn wn13 vr (projS [0,0] (ll))):=hk
    clear hk hq1
    replace HXA:=Lib.hid (HXA.out.later hq)
    replace HXB:=Lib.hid (HXB.out.later hq)
    replace HB:=Lib.hid (HB.out.trans (hq.mono HB.out.size))
    replace Hq:=Lib.hid (Hq.out.kept hq)
    clear hq
    go_wp2_with fail
    refine Calls.mono (same18F Hq.out Hr.out (HFL.out.proj (by decide)) (by decide)) ?_
    rintro e wn14 ⟨rfl,hq⟩
    replace HXA:=Lib.hid (HXA.out.later hq)
    replace HXB:=Lib.hid (HXB.out.later hq)
    replace HB:=Lib.hid (HB.out.trans (hq.mono HB.out.size))
    replace Hq:=Lib.hid (Hq.out.kept hq)
    replace Hr:=Lib.hid (Hr.out.kept hq)
    clear hq
    go_wp2
    go_ret
    exact ⟨rfl,HB.out⟩
end Go.Proofs.Ytcofhnedidllpaa
