/- The law NormApart of layer 17. -/
import Derived.Test.YtnkhkkdmjabhnaaGZNormOrderLaw
import Derived.Test.YtnkhkkdmjabhnaaGZNormSameAny
namespace Go.Proofs.Ytnkhkkdmjabhnaa
open Go Go.RowKit
theorem print_two (op:Int)(a b:Trm):printL (twoT15 op a b)=headL op 0 noC 2++(swapL op [printL a,printL b]).flatten:=printL_eq _
theorem apart_eq (a b:Trm):printL (twoT15 61 a b)=printL (twoT15 61 b a):=by
 rw [print_two,print_two]
 by_cases e:printL a=printL b
 ·rw [e]
 ·have key:swapL 61 [printL a,printL b]=swapL 61 [printL b,printL a]:=by
   by_cases h:ltP a b=true
   ·have h2:¬ltP b a=true:=fun h2=>ltP_ne (ltP_trans h h2) rfl
    have h':Op.bytesLess (printL a) (printL b)=true:=h
    have h2':¬Op.bytesLess (printL b) (printL a)=true:=h2
    rw [swap_two,swap_two,if_neg fun x=>h2' x.2,if_pos ⟨rfl,h'⟩]
   ·have h2:=ltP_tri h e
    have h':¬Op.bytesLess (printL a) (printL b)=true:=h
    have h2':Op.bytesLess (printL b) (printL a)=true:=h2
    rw [swap_two,swap_two,if_pos ⟨rfl,h2'⟩,if_neg fun x=>h' x.2]
  rw [key]
theorem apart_less {a b:Trm}(ha:OkA a)(hb:OkA b):printL (twoT15 60 a b)=printL (twoT15 60 b a)↔printL a=printL b:=by
 rw [print_two,print_two,List.append_cancel_left_eq]
 have e:∀ p q:List UInt8,(swapL 60 [p,q]).flatten=p++q:=fun p q=>by
  have:swapL 60 [p,q]=[p,q]:=by rw [swap_two,if_neg fun x=>absurd x.1 (by decide)]
  rw [this];simp
 rw [e,e]
 constructor
 ·intro h
  exact (print_front a ha b hb _ _ h).1
 ·intro h;rw [h]
theorem apart_begins {a b:Trm}(ha:OkA a)(hb:OkA b)(h:(printL b).take (printL a).length=printL a):printL b=printL a:=by
 have e:printL a++(printL b).drop (printL a).length=printL b++[]:=by
  rw [List.append_nil]
  conv=>lhs;lhs;rw [←h]
  exact List.take_append_drop _ _
 exact (print_front a ha b hb _ _ e).1.symm
set_option maxHeartbeats 16000000 in
set_option maxRecDepth 100000 in
theorem normApart_calls {w:World}{va vb:Value}{ta tb:Trm}(ha:TermIn w va ta)(hb:TermIn w vb tb):GivesAt Try.prog 6 #[va,vb] w (.bool true):=by
 have HAW:=Lib.hid awake17_calls
 have HGA:Hid (∀ W,Below w.heap.size w W→GivesAt Try.prog 8 #[va,.int .i64 1] W (.bool (greatN 1 ta))):=fun W hW=>great17_calls ta W va 1 (by decide) (ha.kept hW)
 have HSA:=Lib.hid fun (h:greatN 1 ta=false)=>greatN_sm ha (by decide) h
 have HTA:=Lib.hid ha
 obtain ⟨Pa,pa,rfl⟩:=ha.parts15
 have HGB:Hid (∀ W,Below w.heap.size w W→GivesAt Try.prog 8 #[vb,.int .i64 1] W (.bool (greatN 1 tb))):=fun W hW=>great17_calls tb W vb 1 (by decide) (hb.kept hW)
 have HSB:=Lib.hid fun (h:greatN 1 tb=false)=>greatN_sm hb (by decide) h
 have HTB:=Lib.hid hb
 obtain ⟨Pb,pb,rfl⟩:=hb.parts15
 have ala:=Below.alloc (.refl w.heap.size w) (Nat.le_refl _) (.cells #[.int .u8 ta.op,.int .i64 ta.col,.string ta.cell,.slice Pa ta.kids.length pa] 24)
 have bxa:=trmbox_lit w 24 ta.op ta.col ta.cell (.slice Pa ta.kids.length pa)
 have alb:=Below.alloc (.refl (w.alloc (.cells #[.int .u8 ta.op,.int .i64 ta.col,.string ta.cell,.slice Pa ta.kids.length pa] 24)).heap.size (w.alloc (.cells #[.int .u8 ta.op,.int .i64 ta.col,.string ta.cell,.slice Pa ta.kids.length pa] 24))) (Nat.le_refl _) (.cells #[.int .u8 tb.op,.int .i64 tb.col,.string tb.cell,.slice Pb tb.kids.length pb] 24)
 have bxb:=trmbox_lit (w.alloc (.cells #[.int .u8 ta.op,.int .i64 ta.col,.string ta.cell,.slice Pa ta.kids.length pa] 24)) 24 tb.op tb.col tb.cell (.slice Pb tb.kids.length pb)
 rw [show (w.alloc (.cells #[.int .u8 ta.op,.int .i64 ta.col,.string ta.cell,.slice Pa ta.kids.length pa] 24)).heap.size=w.heap.size+1 by simp] at bxb
 have HXA:=Lib.hid (bxa.later alb)
 have HXB:=Lib.hid bxb
 have HB:=Lib.hid (ala.trans (alb.mono ala.size))
 clear ala bxa ha alb bxb hb
 unfold GivesAt
 go_enter Try.func6,Try.ntmps6
 obtain ⟨a0,a1,a2,a3,_⟩:=HXA.out.cells
 go_wp2_with fail
 generalize World.alloc (World.alloc w _) _=w0 at *
 clear a0 a1 a2 a3
 cases hga:greatN 1 ta with
 | true =>
  rw [hga] at HGA
  clear hga
  obtain ⟨a0,a1,a2,a3,_⟩:=HXA.out.cells
  go_wp2_with fail
  clear a0 a1 a2 a3
  refine Calls.mono (HGA.out w0 HB.out) ?_
  rintro e wn1 ⟨rfl,hq⟩
  replace HXA:=Lib.hid (HXA.out.later hq)
  replace HXB:=Lib.hid (HXB.out.later hq)
  replace HB:=Lib.hid (HB.out.trans (hq.mono HB.out.size))
  clear hq
  go_wp2_with fail
  refine Calls.mono (HAW.out wn1) ?_
  rintro e wn2 ⟨rfl,hq⟩
  replace HXA:=Lib.hid (HXA.out.later hq)
  replace HXB:=Lib.hid (HXB.out.later hq)
  replace HB:=Lib.hid (HB.out.trans (hq.mono HB.out.size))
  clear hq
  go_wp2
  go_ret
  exact ⟨rfl,HB.out⟩
 | false =>
  rw [hga] at HGA
  replace HSA:=Lib.hid (HSA.out hga)
  clear hga
  obtain ⟨a0,a1,a2,a3,_⟩:=HXA.out.cells
  go_wp2_with fail
  clear a0 a1 a2 a3
  refine Calls.mono (HGA.out w0 HB.out) ?_
  rintro e wn1 ⟨rfl,hq⟩
  replace HXA:=Lib.hid (HXA.out.later hq)
  replace HXB:=Lib.hid (HXB.out.later hq)
  replace HB:=Lib.hid (HB.out.trans (hq.mono HB.out.size))
  clear hq
  cases hgb:greatN 1 tb with
  | true =>
   rw [hgb] at HGB
   clear hgb
   obtain ⟨b0,b1,b2,b3,_⟩:=HXB.out.cells
   go_wp2_with fail
   clear b0 b1 b2 b3
   refine Calls.mono (HGB.out wn1 HB.out) ?_
   rintro e wn2 ⟨rfl,hq⟩
   replace HXA:=Lib.hid (HXA.out.later hq)
   replace HXB:=Lib.hid (HXB.out.later hq)
   replace HB:=Lib.hid (HB.out.trans (hq.mono HB.out.size))
   clear hq
   go_wp2_with fail
   refine Calls.mono (HAW.out wn2) ?_
   rintro e wn3 ⟨rfl,hq⟩
   replace HXA:=Lib.hid (HXA.out.later hq)
   replace HXB:=Lib.hid (HXB.out.later hq)
   replace HB:=Lib.hid (HB.out.trans (hq.mono HB.out.size))
   clear hq
   go_wp2
   go_ret
   exact ⟨rfl,HB.out⟩
  | false =>
   rw [hgb] at HGB
   replace HSB:=Lib.hid (HSB.out hgb)
   clear hgb
   obtain ⟨b0,b1,b2,b3,_⟩:=HXB.out.cells
   go_wp2_with fail
   clear b0 b1 b2 b3
   refine Calls.mono (HGB.out wn1 HB.out) ?_
   rintro e wn2 ⟨rfl,hq⟩
   replace HXA:=Lib.hid (HXA.out.later hq)
   replace HXB:=Lib.hid (HXB.out.later hq)
   replace HB:=Lib.hid (HB.out.trans (hq.mono HB.out.size))
   clear hq
   have HA:Hid (OkA ta):=HSA.out.2.2.okA
   have HO:Hid (OkA tb):=HSB.out.2.2.okA
   clear HGA HGB
   obtain ⟨PA,hPA⟩:∃ x,Hid (mkB (printL ta)=x):=⟨_,rfl⟩
   obtain ⟨PB,hPB⟩:∃ x,Hid (mkB (printL tb)=x):=⟨_,rfl⟩
   go_wp2_with fail
   refine wp_region_calm (offC wn2) (fun _=>false) (fun _=>false) anyE false (by kernel_rfl) (by kernel_rfl) (by kernel_rfl) (by kernel_rfl) (by intro m hm;revert hm;simp;try omega) (offC_stable _) (offC_start _) ?_
   refine calm_fixA rfl rfl ?_
   apply Exists.intro
   refine ⟨fun a wz hc hk hf K hK=>?_,?_⟩
   ·have hb:Below wn2.heap.size wn2 wz:=hc rfl
    have h2:=hk 2 (by kernel_rfl)
    clear hk hf hc
    obtain ⟨a0,a1,a2,a3,_⟩:=(HXA.out.later hb).cells
    go_simp
    exact hK _ _ (Below.refl _ _) rfl
   refine calm_fixA rfl rfl ?_
   apply Exists.intro
   refine ⟨fun a wz hc hk hf K hK=>?_,?_⟩
   ·have hb:Below wn2.heap.size wn2 wz:=hc rfl
    have h15:=held_isV hf 0 rfl (by kernel_rfl)
    clear hk hf hc
    have hs:=norm_print_calls (HTA.out.kept (HB.out.trans (hb.mono HB.out.size))) HSA.out.2.2
    rw [hPA.out] at hs
    go_simp
    refine Calls.mono (hs) ?_
    rintro e w1 ⟨rfl,hq⟩
    exact hK _ _ hq rfl
   refine calm_fixA rfl rfl ?_
   apply Exists.intro
   refine ⟨fun a wz hc hk hf K hK=>?_,?_⟩
   ·have hb:Below wn2.heap.size wn2 wz:=hc rfl
    have h3:=hk 3 (by kernel_rfl)
    clear hk hf hc
    obtain ⟨b0,b1,b2,b3,_⟩:=(HXB.out.later hb).cells
    go_simp
    exact hK _ _ (Below.refl _ _) rfl
   refine calm_fixA rfl rfl ?_
   apply Exists.intro
   refine ⟨fun a wz hc hk hf K hK=>?_,?_⟩
   ·have hb:Below wn2.heap.size wn2 wz:=hc rfl
    have h17:=held_isV hf 0 rfl (by kernel_rfl)
    clear hk hf hc
    have hs:=norm_print_calls (HTB.out.kept (HB.out.trans (hb.mono HB.out.size))) HSB.out.2.2
    rw [hPB.out] at hs
    go_simp
    refine Calls.mono (hs) ?_
    rintro e w1 ⟨rfl,hq⟩
    exact hK _ _ hq rfl
   refine calm_fixA rfl rfl ?_
   apply Exists.intro
   refine ⟨fun a wz hc hk hf K hK=>?_,?_⟩
   ·have h16:=held_isV hf 2 rfl (by kernel_rfl)
    clear hk hf hc
    go_simp
    exact hK _ _ (Below.refl _ _) rfl
   refine calm_fixA rfl rfl ?_
   apply Exists.intro
   refine ⟨fun a wz hc hk hf K hK=>?_,?_⟩
   ·have h18:=held_isV hf 1 rfl (by kernel_rfl)
    clear hk hf hc
    go_simp
    exact hK _ _ (Below.refl _ _) rfl
   refine calm_nil ?_
   refine ⟨keeps_none,?_⟩
   intro wn3 hc
   simp only [lexL,calmEnd]
   rintro _ rfl _ rfl _ rfl _ rfl _ rfl _ rfl
   have hq:Below wn2.heap.size wn2 wn3:=hc rfl
   clear hc 
   simp only [Act.put,List.setIfInBounds_toArray,List.set_cons_zero,List.set_cons_succ]
   replace HXA:=Lib.hid (HXA.out.later hq)
   replace HXB:=Lib.hid (HXB.out.later hq)
   replace HB:=Lib.hid (HB.out.trans (hq.mono HB.out.size))
   clear hq
   obtain ⟨a0,a1,a2,a3,_⟩:=HXA.out.cells
   obtain ⟨b0,b1,b2,b3,_⟩:=HXB.out.cells
   go_wp2_with fail
   clear a0 a1 a2 a3
   clear b0 b1 b2 b3
   refine Calls.mono (same_any_at ta tb wn3 _ _ (HTA.out.kept HB.out) (HTB.out.kept HB.out)) ?_
   rintro e ws ⟨r,rfl,hr,hq⟩
   have HR:=Lib.hid hr
   clear hr
   replace HXA:=Lib.hid (HXA.out.later hq)
   replace HXB:=Lib.hid (HXB.out.later hq)
   replace HB:=Lib.hid (HB.out.trans (hq.mono HB.out.size))
   clear hq
   have HEQ:Hid ((PA.toList==PB.toList)=true↔printL ta=printL tb):=by
    rw [←hPA.out,←hPB.out,beq_iff_eq,ByteArray.toList_eq,ByteArray.toList_eq]
    exact Iff.rfl
   have HSZ:Hid (PA.size=(printL ta).length∧PB.size=(printL tb).length):=⟨by rw [←hPA.out];rfl,by rw [←hPB.out];rfl⟩
   obtain ⟨L1,hL1⟩:∃ x,Hid (mkB (printL (twoT15 60 ta tb))=x):=⟨_,rfl⟩
   obtain ⟨L2,hL2⟩:∃ x,Hid (mkB (printL (twoT15 60 tb ta))=x):=⟨_,rfl⟩
   obtain ⟨E1,hE1⟩:∃ x,Hid (mkB (printL (twoT15 61 ta tb))=x):=⟨_,rfl⟩
   have hE2:Hid (mkB (printL (twoT15 61 tb ta))=E1):=by show _=_;rw [←hE1.out,apart_eq]
   have HLE:Hid ((L1.toList==L2.toList)=true↔printL ta=printL tb):=by
    rw [←hL1.out,←hL2.out,beq_iff_eq,ByteArray.toList_eq,ByteArray.toList_eq]
    exact apart_less HA.out HO.out
   have HM:Hid (∀ op,0≤op→op≤255→Sm17 (twoT15 op ta tb)∧Sm17 (twoT15 op tb ta)):=fun op h1 h2=>by
    obtain ⟨a1,a2,a3⟩:=HSA.out
    obtain ⟨b1,b2,b3⟩:=HSB.out
    exact ⟨sm17_two h1 h2 a3 b3 (by omega),sm17_two h1 h2 b3 a3 (by omega)⟩
   have HBX:Hid ((PB.extract 0 PA.size).toList=PA.toList→printL tb=printL ta):=by
    intro e
    refine apart_begins HA.out HO.out ?_
    rw [←HSZ.out.1]
    rw [ByteArray.toList_eq,ByteArray.toList_eq,←hPB.out] at e
    have e2:(mkB (printL tb)).data.toList.take PA.size=PA.data.toList:=by simpa [ByteArray.data_extract] using e
    rw [mkB_data,←hPA.out,mkB_data] at e2
    rw [hPA.out] at e2
    exact e2
   by_cases he:printL ta=printL tb
   ·have de:(PA.toList==PB.toList)=true:=HEQ.out.2 he
    have dl:(L1.toList==L2.toList)=true:=HLE.out.2 he
    have hsz:PA.size=PB.size:=by rw [HSZ.out.1,HSZ.out.2,he]
    have dz:¬PA.size < PB.size:=by omega
    clear he hsz HR HEQ HLE HSZ HBX hPA hPB
    cases r
    all_goals
     go_wp2_with fail
     refine wp_region_calm (offC ws) (fun _=>false) (fun _=>false) anyE false (by kernel_rfl) (by kernel_rfl) (by kernel_rfl) (by kernel_rfl) (by intro m hm;revert hm;simp;try omega) (offC_stable _) (offC_start _) ?_
     refine calm_fixA rfl rfl ?_
     apply Exists.intro
     refine ⟨fun a wz hc hk hf K hK=>?_,?_⟩
     ·have hb:Below ws.heap.size ws wz:=hc rfl
      clear hk hf hc
      go_simp
      refine Calls.mono (HAW.out wz) ?_
      rintro e w1 ⟨rfl,hq⟩
      exact hK _ _ hq rfl
     refine calm_fixA rfl rfl ?_
     apply Exists.intro
     refine ⟨fun a wz hc hk hf K hK=>?_,?_⟩
     ·have h40:=held_isV hf 0 rfl (by kernel_rfl)
      clear hk hf hc
      go_simp
      exact hK _ _ (Below.refl _ _) rfl
     refine calm_fixA rfl rfl ?_
     apply Exists.intro
     refine ⟨fun a wz hc hk hf K hK=>?_,?_⟩
     ·have h7:=hk 7 (by kernel_rfl)
      have h41:=held_isV hf 0 rfl (by kernel_rfl)
      clear hk hf hc
      go_simp
      exact hK _ _ (Below.refl _ _) rfl
     refine calm_fixA rfl rfl ?_
     apply Exists.intro
     refine ⟨fun a wz hc hk hf K hK=>?_,?_⟩
     ·have h42:=held_isV hf 0 rfl (by kernel_rfl)
      have h41:=held_isV hf 1 rfl (by kernel_rfl)
      clear hk hf hc
      go_simp
      exact hK _ _ (Below.refl _ _) rfl
     refine calm_fixA rfl rfl ?_
     apply Exists.intro
     refine ⟨fun a wz hc hk hf K hK=>?_,?_⟩
     ·have h41:=held_isV hf 2 rfl (by kernel_rfl)
      have h43:=held_isV hf 0 rfl (by kernel_rfl)
      clear hk hf hc
      go_simp
      exact hK _ _ (Below.refl _ _) rfl
     refine calm_fixA rfl rfl ?_
     apply Exists.intro
     refine ⟨fun a wz hc hk hf K hK=>?_,?_⟩
     ·have h44:=held_isV hf 0 rfl (by kernel_rfl)
      clear hk hf hc
      go_simp
      exact hK _ _ (Below.refl _ _) rfl
     refine calm_fixA rfl rfl ?_
     apply Exists.intro
     refine ⟨fun a wz hc hk hf K hK=>?_,?_⟩
     ·have hb:Below ws.heap.size ws wz:=hc rfl
      have h2:=hk 2 (by kernel_rfl)
      have h45:=held_isV hf 0 rfl (by kernel_rfl)
      clear hk hf hc
      obtain ⟨a0,a1,a2,a3,_⟩:=(HXA.out.later hb).cells
      go_simp
      exact hK _ _ (Below.refl _ _) rfl
     refine calm_fixA rfl rfl ?_
     apply Exists.intro
     refine ⟨fun a wz hc hk hf K hK=>?_,?_⟩
     ·have hb:Below ws.heap.size ws wz:=hc rfl
      have h3:=hk 3 (by kernel_rfl)
      have h45:=held_isV hf 1 rfl (by kernel_rfl)
      clear hk hf hc
      obtain ⟨b0,b1,b2,b3,_⟩:=(HXB.out.later hb).cells
      go_simp
      exact hK _ _ (Below.refl _ _) rfl
     refine calm_varA (fun u wx=>TermIn wx u (twoT15 61 ta tb)) rfl rfl (fun u w w' hb h=>TermQ.kept17 hb h) (fun a wz hc hk hf K hK=>?_) ?_
     ·have hb:Below ws.heap.size ws wz:=hc rfl
      have h46:=held_isV hf 1 rfl (by kernel_rfl)
      have h47:=held_isV hf 0 rfl (by kernel_rfl)
      have h45:=held_isV hf 2 rfl (by kernel_rfl)
      clear hk hf hc
      go_simp
      refine Calls.mono (two17_calls 61 (by decide) (by decide) (HTA.out.kept (HB.out.trans (hb.mono HB.out.size))) (HTB.out.kept (HB.out.trans (hb.mono HB.out.size)))) ?_
      rintro e w1 ⟨v,rfl,ht,hq⟩
      exact hK _ _ hq (fun _=>ht)
     refine calm_fixA rfl rfl ?_
     apply Exists.intro
     refine ⟨fun a wz hc hk hf K hK=>?_,?_⟩
     ·have hb:Below ws.heap.size ws wz:=hc rfl
      obtain ⟨v48,h48,S48⟩:=held_at hf 0 rfl (by kernel_rfl)
      have h45:=held_isV hf 3 rfl (by kernel_rfl)
      clear hk hf hc
      have hs:=norm_print_calls (S48 rfl) (HM.out 61 (by decide) (by decide)).1
      rw [hE1.out] at hs
      go_simp
      refine Calls.mono (hs) ?_
      rintro e w1 ⟨rfl,hq⟩
      exact hK _ _ hq rfl
     refine calm_fixA rfl rfl ?_
     apply Exists.intro
     refine ⟨fun a wz hc hk hf K hK=>?_,?_⟩
     ·have hb:Below ws.heap.size ws wz:=hc rfl
      have h3:=hk 3 (by kernel_rfl)
      have h45:=held_isV hf 4 rfl (by kernel_rfl)
      clear hk hf hc
      obtain ⟨b0,b1,b2,b3,_⟩:=(HXB.out.later hb).cells
      go_simp
      exact hK _ _ (Below.refl _ _) rfl
     refine calm_fixA rfl rfl ?_
     apply Exists.intro
     refine ⟨fun a wz hc hk hf K hK=>?_,?_⟩
     ·have hb:Below ws.heap.size ws wz:=hc rfl
      have h2:=hk 2 (by kernel_rfl)
      have h45:=held_isV hf 5 rfl (by kernel_rfl)
      clear hk hf hc
      obtain ⟨a0,a1,a2,a3,_⟩:=(HXA.out.later hb).cells
      go_simp
      exact hK _ _ (Below.refl _ _) rfl
     refine calm_varA (fun u wx=>TermIn wx u (twoT15 61 tb ta)) rfl rfl (fun u w w' hb h=>TermQ.kept17 hb h) (fun a wz hc hk hf K hK=>?_) ?_
     ·have hb:Below ws.heap.size ws wz:=hc rfl
      have h50:=held_isV hf 1 rfl (by kernel_rfl)
      have h51:=held_isV hf 0 rfl (by kernel_rfl)
      have h45:=held_isV hf 6 rfl (by kernel_rfl)
      clear hk hf hc
      go_simp
      refine Calls.mono (two17_calls 61 (by decide) (by decide) (HTB.out.kept (HB.out.trans (hb.mono HB.out.size))) (HTA.out.kept (HB.out.trans (hb.mono HB.out.size)))) ?_
      rintro e w1 ⟨v,rfl,ht,hq⟩
      exact hK _ _ hq (fun _=>ht)
     refine calm_fixA rfl rfl ?_
     apply Exists.intro
     refine ⟨fun a wz hc hk hf K hK=>?_,?_⟩
     ·have hb:Below ws.heap.size ws wz:=hc rfl
      obtain ⟨v52,h52,S52⟩:=held_at hf 0 rfl (by kernel_rfl)
      have h45:=held_isV hf 7 rfl (by kernel_rfl)
      clear hk hf hc
      have hs:=norm_print_calls (S52 rfl) (HM.out 61 (by decide) (by decide)).2
      rw [hE2.out] at hs
      go_simp
      refine Calls.mono (hs) ?_
      rintro e w1 ⟨rfl,hq⟩
      exact hK _ _ hq rfl
     refine calm_fixA rfl rfl ?_
     apply Exists.intro
     refine ⟨fun a wz hc hk hf K hK=>?_,?_⟩
     ·have h49:=held_isV hf 4 rfl (by kernel_rfl)
      have h53:=held_isV hf 0 rfl (by kernel_rfl)
      have h45:=held_isV hf 8 rfl (by kernel_rfl)
      clear hk hf hc
      go_simp
      exact hK _ _ (Below.refl _ _) rfl
     refine calm_fixA rfl rfl ?_
     apply Exists.intro
     refine ⟨fun a wz hc hk hf K hK=>?_,?_⟩
     ·have h45:=held_isV hf 9 rfl (by kernel_rfl)
      have h54:=held_isV hf 0 rfl (by kernel_rfl)
      clear hk hf hc
      go_simp
      exact hK _ _ (Below.refl _ _) rfl
     refine calm_fixA rfl rfl ?_
     apply Exists.intro
     refine ⟨fun a wz hc hk hf K hK=>?_,?_⟩
     ·have h55:=held_isV hf 0 rfl (by kernel_rfl)
      clear hk hf hc
      go_simp
      exact hK _ _ (Below.refl _ _) rfl
     refine calm_fixA rfl rfl ?_
     apply Exists.intro
     refine ⟨fun a wz hc hk hf K hK=>?_,?_⟩
     ·have hb:Below ws.heap.size ws wz:=hc rfl
      have h2:=hk 2 (by kernel_rfl)
      have h56:=held_isV hf 0 rfl (by kernel_rfl)
      clear hk hf hc
      obtain ⟨a0,a1,a2,a3,_⟩:=(HXA.out.later hb).cells
      go_simp
      exact hK _ _ (Below.refl _ _) rfl
     refine calm_fixA rfl rfl ?_
     apply Exists.intro
     refine ⟨fun a wz hc hk hf K hK=>?_,?_⟩
     ·have hb:Below ws.heap.size ws wz:=hc rfl
      have h3:=hk 3 (by kernel_rfl)
      have h56:=held_isV hf 1 rfl (by kernel_rfl)
      clear hk hf hc
      obtain ⟨b0,b1,b2,b3,_⟩:=(HXB.out.later hb).cells
      go_simp
      exact hK _ _ (Below.refl _ _) rfl
     refine calm_varA (fun u wx=>TermIn wx u (twoT15 60 ta tb)) rfl rfl (fun u w w' hb h=>TermQ.kept17 hb h) (fun a wz hc hk hf K hK=>?_) ?_
     ·have hb:Below ws.heap.size ws wz:=hc rfl
      have h57:=held_isV hf 1 rfl (by kernel_rfl)
      have h58:=held_isV hf 0 rfl (by kernel_rfl)
      have h56:=held_isV hf 2 rfl (by kernel_rfl)
      clear hk hf hc
      go_simp
      refine Calls.mono (two17_calls 60 (by decide) (by decide) (HTA.out.kept (HB.out.trans (hb.mono HB.out.size))) (HTB.out.kept (HB.out.trans (hb.mono HB.out.size)))) ?_
      rintro e w1 ⟨v,rfl,ht,hq⟩
      exact hK _ _ hq (fun _=>ht)
     refine calm_fixA rfl rfl ?_
     apply Exists.intro
     refine ⟨fun a wz hc hk hf K hK=>?_,?_⟩
     ·have hb:Below ws.heap.size ws wz:=hc rfl
      obtain ⟨v59,h59,S59⟩:=held_at hf 0 rfl (by kernel_rfl)
      have h56:=held_isV hf 3 rfl (by kernel_rfl)
      clear hk hf hc
      have hs:=norm_print_calls (S59 rfl) (HM.out 60 (by decide) (by decide)).1
      rw [hL1.out] at hs
      go_simp
      refine Calls.mono (hs) ?_
      rintro e w1 ⟨rfl,hq⟩
      exact hK _ _ hq rfl
     refine calm_fixA rfl rfl ?_
     apply Exists.intro
     refine ⟨fun a wz hc hk hf K hK=>?_,?_⟩
     ·have hb:Below ws.heap.size ws wz:=hc rfl
      have h3:=hk 3 (by kernel_rfl)
      have h56:=held_isV hf 4 rfl (by kernel_rfl)
      clear hk hf hc
      obtain ⟨b0,b1,b2,b3,_⟩:=(HXB.out.later hb).cells
      go_simp
      exact hK _ _ (Below.refl _ _) rfl
     refine calm_fixA rfl rfl ?_
     apply Exists.intro
     refine ⟨fun a wz hc hk hf K hK=>?_,?_⟩
     ·have hb:Below ws.heap.size ws wz:=hc rfl
      have h2:=hk 2 (by kernel_rfl)
      have h56:=held_isV hf 5 rfl (by kernel_rfl)
      clear hk hf hc
      obtain ⟨a0,a1,a2,a3,_⟩:=(HXA.out.later hb).cells
      go_simp
      exact hK _ _ (Below.refl _ _) rfl
     refine calm_varA (fun u wx=>TermIn wx u (twoT15 60 tb ta)) rfl rfl (fun u w w' hb h=>TermQ.kept17 hb h) (fun a wz hc hk hf K hK=>?_) ?_
     ·have hb:Below ws.heap.size ws wz:=hc rfl
      have h61:=held_isV hf 1 rfl (by kernel_rfl)
      have h62:=held_isV hf 0 rfl (by kernel_rfl)
      have h56:=held_isV hf 6 rfl (by kernel_rfl)
      clear hk hf hc
      go_simp
      refine Calls.mono (two17_calls 60 (by decide) (by decide) (HTB.out.kept (HB.out.trans (hb.mono HB.out.size))) (HTA.out.kept (HB.out.trans (hb.mono HB.out.size)))) ?_
      rintro e w1 ⟨v,rfl,ht,hq⟩
      exact hK _ _ hq (fun _=>ht)
     refine calm_fixA rfl rfl ?_
     apply Exists.intro
     refine ⟨fun a wz hc hk hf K hK=>?_,?_⟩
     ·have hb:Below ws.heap.size ws wz:=hc rfl
      obtain ⟨v63,h63,S63⟩:=held_at hf 0 rfl (by kernel_rfl)
      have h56:=held_isV hf 7 rfl (by kernel_rfl)
      clear hk hf hc
      have hs:=norm_print_calls (S63 rfl) (HM.out 60 (by decide) (by decide)).2
      rw [hL2.out] at hs
      go_simp
      refine Calls.mono (hs) ?_
      rintro e w1 ⟨rfl,hq⟩
      exact hK _ _ hq rfl
     refine calm_fixA rfl rfl ?_
     apply Exists.intro
     refine ⟨fun a wz hc hk hf K hK=>?_,?_⟩
     ·have h60:=held_isV hf 4 rfl (by kernel_rfl)
      have h64:=held_isV hf 0 rfl (by kernel_rfl)
      have h56:=held_isV hf 8 rfl (by kernel_rfl)
      clear hk hf hc
      go_simp
      exact hK _ _ (Below.refl _ _) rfl
     refine calm_fixA rfl rfl ?_
     apply Exists.intro
     refine ⟨fun a wz hc hk hf K hK=>?_,?_⟩
     ·have h5:=hk 5 (by kernel_rfl)
      have h56:=held_isV hf 9 rfl (by kernel_rfl)
      clear hk hf hc
      go_simp
      exact hK _ _ (Below.refl _ _) rfl
     refine calm_fixA rfl rfl ?_
     apply Exists.intro
     refine ⟨fun a wz hc hk hf K hK=>?_,?_⟩
     ·have h6:=hk 6 (by kernel_rfl)
      have h56:=held_isV hf 10 rfl (by kernel_rfl)
      clear hk hf hc
      go_simp
      exact hK _ _ (Below.refl _ _) rfl
     refine calm_fixA rfl rfl ?_
     apply Exists.intro
     refine ⟨fun a wz hc hk hf K hK=>?_,?_⟩
     ·have h66:=held_isV hf 1 rfl (by kernel_rfl)
      have h67:=held_isV hf 0 rfl (by kernel_rfl)
      have h56:=held_isV hf 11 rfl (by kernel_rfl)
      clear hk hf hc
      go_simp
      exact hK _ _ (Below.refl _ _) rfl
     refine calm_fixA rfl rfl ?_
     apply Exists.intro
     refine ⟨fun a wz hc hk hf K hK=>?_,?_⟩
     ·have h65:=held_isV hf 3 rfl (by kernel_rfl)
      have h68:=held_isV hf 0 rfl (by kernel_rfl)
      have h56:=held_isV hf 12 rfl (by kernel_rfl)
      clear hk hf hc
      go_simp
      exact hK _ _ (Below.refl _ _) rfl
     refine calm_fixA rfl rfl ?_
     apply Exists.intro
     refine ⟨fun a wz hc hk hf K hK=>?_,?_⟩
     ·have h56:=held_isV hf 13 rfl (by kernel_rfl)
      have h69:=held_isV hf 0 rfl (by kernel_rfl)
      clear hk hf hc
      go_simp
      exact hK _ _ (Below.refl _ _) rfl
     refine calm_fixA rfl rfl ?_
     apply Exists.intro
     refine ⟨fun a wz hc hk hf K hK=>?_,?_⟩
     ·have h70:=held_isV hf 0 rfl (by kernel_rfl)
      clear hk hf hc
      go_simp
      exact hK _ _ (Below.refl _ _) rfl
     refine calm_nil ?_
     refine ⟨keeps_none,?_⟩
     intro wx hc
     simp only [lexL,calmEnd]
     rintro _ rfl _ rfl _ rfl _ rfl _ rfl _ rfl _ rfl _ rfl v48 S48 _ rfl _ rfl _ rfl v52 S52 _ rfl _ rfl _ rfl _ rfl _ rfl _ rfl v59 S59 _ rfl _ rfl _ rfl v63 S63 _ rfl _ rfl _ rfl _ rfl _ rfl _ rfl _ rfl _ rfl
     have hq:Below ws.heap.size ws wx:=hc rfl
     have HBE:=Lib.hid (HB.out.trans (hq.mono HB.out.size))
     clear hc hq S48 S52 S59 S63
     simp only [Act.put,List.setIfInBounds_toArray,List.set_cons_zero,List.set_cons_succ]
     go_wp2
     go_ret
     exact ⟨rfl,HBE.out⟩
   ·have de:(PA.toList==PB.toList)=false:=by
     cases h:(PA.toList==PB.toList) with
     | false=>rfl
     | true=>exact absurd (HEQ.out.1 h) he
    have dl:(L1.toList==L2.toList)=false:=by
     cases h:(L1.toList==L2.toList) with
     | false=>rfl
     | true=>exact absurd (HLE.out.1 h) he
    have dx:((PB.extract 0 PA.size).toList==PA.toList)=false:=by
     rw [beq_eq_false_iff_ne]
     exact fun e=>he (HBX.out e).symm
    have hr:r=false:=by
     cases h:r with
     | false=>rfl
     | true=>exact absurd (by rw [HR.out h]) he
    subst hr
    clear he HR HEQ HLE HBX hPA hPB
    by_cases hl:PA.size < PB.size
    all_goals
     clear HSZ
     go_wp2_with fail
     refine wp_region_calm (offC ws) (fun _=>false) (fun _=>false) anyE false (by kernel_rfl) (by kernel_rfl) (by kernel_rfl) (by kernel_rfl) (by intro m hm;revert hm;simp;try omega) (offC_stable _) (offC_start _) ?_
     refine calm_fixA rfl rfl ?_
     apply Exists.intro
     refine ⟨fun a wz hc hk hf K hK=>?_,?_⟩
     ·have hb:Below ws.heap.size ws wz:=hc rfl
      clear hk hf hc
      go_simp
      refine Calls.mono (HAW.out wz) ?_
      rintro e w1 ⟨rfl,hq⟩
      exact hK _ _ hq rfl
     refine calm_fixA rfl rfl ?_
     apply Exists.intro
     refine ⟨fun a wz hc hk hf K hK=>?_,?_⟩
     ·have h40:=held_isV hf 0 rfl (by kernel_rfl)
      clear hk hf hc
      go_simp
      exact hK _ _ (Below.refl _ _) rfl
     refine calm_fixA rfl rfl ?_
     apply Exists.intro
     refine ⟨fun a wz hc hk hf K hK=>?_,?_⟩
     ·have h7:=hk 7 (by kernel_rfl)
      have h41:=held_isV hf 0 rfl (by kernel_rfl)
      clear hk hf hc
      go_simp
      exact hK _ _ (Below.refl _ _) rfl
     refine calm_fixA rfl rfl ?_
     apply Exists.intro
     refine ⟨fun a wz hc hk hf K hK=>?_,?_⟩
     ·have h42:=held_isV hf 0 rfl (by kernel_rfl)
      have h41:=held_isV hf 1 rfl (by kernel_rfl)
      clear hk hf hc
      go_simp
      exact hK _ _ (Below.refl _ _) rfl
     refine calm_fixA rfl rfl ?_
     apply Exists.intro
     refine ⟨fun a wz hc hk hf K hK=>?_,?_⟩
     ·have h41:=held_isV hf 2 rfl (by kernel_rfl)
      have h43:=held_isV hf 0 rfl (by kernel_rfl)
      clear hk hf hc
      go_simp
      exact hK _ _ (Below.refl _ _) rfl
     refine calm_fixA rfl rfl ?_
     apply Exists.intro
     refine ⟨fun a wz hc hk hf K hK=>?_,?_⟩
     ·have h44:=held_isV hf 0 rfl (by kernel_rfl)
      clear hk hf hc
      go_simp
      exact hK _ _ (Below.refl _ _) rfl
     refine calm_fixA rfl rfl ?_
     apply Exists.intro
     refine ⟨fun a wz hc hk hf K hK=>?_,?_⟩
     ·have hb:Below ws.heap.size ws wz:=hc rfl
      have h2:=hk 2 (by kernel_rfl)
      have h45:=held_isV hf 0 rfl (by kernel_rfl)
      clear hk hf hc
      obtain ⟨a0,a1,a2,a3,_⟩:=(HXA.out.later hb).cells
      go_simp
      exact hK _ _ (Below.refl _ _) rfl
     refine calm_fixA rfl rfl ?_
     apply Exists.intro
     refine ⟨fun a wz hc hk hf K hK=>?_,?_⟩
     ·have hb:Below ws.heap.size ws wz:=hc rfl
      have h3:=hk 3 (by kernel_rfl)
      have h45:=held_isV hf 1 rfl (by kernel_rfl)
      clear hk hf hc
      obtain ⟨b0,b1,b2,b3,_⟩:=(HXB.out.later hb).cells
      go_simp
      exact hK _ _ (Below.refl _ _) rfl
     refine calm_varA (fun u wx=>TermIn wx u (twoT15 61 ta tb)) rfl rfl (fun u w w' hb h=>TermQ.kept17 hb h) (fun a wz hc hk hf K hK=>?_) ?_
     ·have hb:Below ws.heap.size ws wz:=hc rfl
      have h46:=held_isV hf 1 rfl (by kernel_rfl)
      have h47:=held_isV hf 0 rfl (by kernel_rfl)
      have h45:=held_isV hf 2 rfl (by kernel_rfl)
      clear hk hf hc
      go_simp
      refine Calls.mono (two17_calls 61 (by decide) (by decide) (HTA.out.kept (HB.out.trans (hb.mono HB.out.size))) (HTB.out.kept (HB.out.trans (hb.mono HB.out.size)))) ?_
      rintro e w1 ⟨v,rfl,ht,hq⟩
      exact hK _ _ hq (fun _=>ht)
     refine calm_fixA rfl rfl ?_
     apply Exists.intro
     refine ⟨fun a wz hc hk hf K hK=>?_,?_⟩
     ·have hb:Below ws.heap.size ws wz:=hc rfl
      obtain ⟨v48,h48,S48⟩:=held_at hf 0 rfl (by kernel_rfl)
      have h45:=held_isV hf 3 rfl (by kernel_rfl)
      clear hk hf hc
      have hs:=norm_print_calls (S48 rfl) (HM.out 61 (by decide) (by decide)).1
      rw [hE1.out] at hs
      go_simp
      refine Calls.mono (hs) ?_
      rintro e w1 ⟨rfl,hq⟩
      exact hK _ _ hq rfl
     refine calm_fixA rfl rfl ?_
     apply Exists.intro
     refine ⟨fun a wz hc hk hf K hK=>?_,?_⟩
     ·have hb:Below ws.heap.size ws wz:=hc rfl
      have h3:=hk 3 (by kernel_rfl)
      have h45:=held_isV hf 4 rfl (by kernel_rfl)
      clear hk hf hc
      obtain ⟨b0,b1,b2,b3,_⟩:=(HXB.out.later hb).cells
      go_simp
      exact hK _ _ (Below.refl _ _) rfl
     refine calm_fixA rfl rfl ?_
     apply Exists.intro
     refine ⟨fun a wz hc hk hf K hK=>?_,?_⟩
     ·have hb:Below ws.heap.size ws wz:=hc rfl
      have h2:=hk 2 (by kernel_rfl)
      have h45:=held_isV hf 5 rfl (by kernel_rfl)
      clear hk hf hc
      obtain ⟨a0,a1,a2,a3,_⟩:=(HXA.out.later hb).cells
      go_simp
      exact hK _ _ (Below.refl _ _) rfl
     refine calm_varA (fun u wx=>TermIn wx u (twoT15 61 tb ta)) rfl rfl (fun u w w' hb h=>TermQ.kept17 hb h) (fun a wz hc hk hf K hK=>?_) ?_
     ·have hb:Below ws.heap.size ws wz:=hc rfl
      have h50:=held_isV hf 1 rfl (by kernel_rfl)
      have h51:=held_isV hf 0 rfl (by kernel_rfl)
      have h45:=held_isV hf 6 rfl (by kernel_rfl)
      clear hk hf hc
      go_simp
      refine Calls.mono (two17_calls 61 (by decide) (by decide) (HTB.out.kept (HB.out.trans (hb.mono HB.out.size))) (HTA.out.kept (HB.out.trans (hb.mono HB.out.size)))) ?_
      rintro e w1 ⟨v,rfl,ht,hq⟩
      exact hK _ _ hq (fun _=>ht)
     refine calm_fixA rfl rfl ?_
     apply Exists.intro
     refine ⟨fun a wz hc hk hf K hK=>?_,?_⟩
     ·have hb:Below ws.heap.size ws wz:=hc rfl
      obtain ⟨v52,h52,S52⟩:=held_at hf 0 rfl (by kernel_rfl)
      have h45:=held_isV hf 7 rfl (by kernel_rfl)
      clear hk hf hc
      have hs:=norm_print_calls (S52 rfl) (HM.out 61 (by decide) (by decide)).2
      rw [hE2.out] at hs
      go_simp
      refine Calls.mono (hs) ?_
      rintro e w1 ⟨rfl,hq⟩
      exact hK _ _ hq rfl
     refine calm_fixA rfl rfl ?_
     apply Exists.intro
     refine ⟨fun a wz hc hk hf K hK=>?_,?_⟩
     ·have h49:=held_isV hf 4 rfl (by kernel_rfl)
      have h53:=held_isV hf 0 rfl (by kernel_rfl)
      have h45:=held_isV hf 8 rfl (by kernel_rfl)
      clear hk hf hc
      go_simp
      exact hK _ _ (Below.refl _ _) rfl
     refine calm_fixA rfl rfl ?_
     apply Exists.intro
     refine ⟨fun a wz hc hk hf K hK=>?_,?_⟩
     ·have h45:=held_isV hf 9 rfl (by kernel_rfl)
      have h54:=held_isV hf 0 rfl (by kernel_rfl)
      clear hk hf hc
      go_simp
      exact hK _ _ (Below.refl _ _) rfl
     refine calm_fixA rfl rfl ?_
     apply Exists.intro
     refine ⟨fun a wz hc hk hf K hK=>?_,?_⟩
     ·have h55:=held_isV hf 0 rfl (by kernel_rfl)
      clear hk hf hc
      go_simp
      exact hK _ _ (Below.refl _ _) rfl
     refine calm_fixA rfl rfl ?_
     apply Exists.intro
     refine ⟨fun a wz hc hk hf K hK=>?_,?_⟩
     ·have hb:Below ws.heap.size ws wz:=hc rfl
      have h2:=hk 2 (by kernel_rfl)
      have h56:=held_isV hf 0 rfl (by kernel_rfl)
      clear hk hf hc
      obtain ⟨a0,a1,a2,a3,_⟩:=(HXA.out.later hb).cells
      go_simp
      exact hK _ _ (Below.refl _ _) rfl
     refine calm_fixA rfl rfl ?_
     apply Exists.intro
     refine ⟨fun a wz hc hk hf K hK=>?_,?_⟩
     ·have hb:Below ws.heap.size ws wz:=hc rfl
      have h3:=hk 3 (by kernel_rfl)
      have h56:=held_isV hf 1 rfl (by kernel_rfl)
      clear hk hf hc
      obtain ⟨b0,b1,b2,b3,_⟩:=(HXB.out.later hb).cells
      go_simp
      exact hK _ _ (Below.refl _ _) rfl
     refine calm_varA (fun u wx=>TermIn wx u (twoT15 60 ta tb)) rfl rfl (fun u w w' hb h=>TermQ.kept17 hb h) (fun a wz hc hk hf K hK=>?_) ?_
     ·have hb:Below ws.heap.size ws wz:=hc rfl
      have h57:=held_isV hf 1 rfl (by kernel_rfl)
      have h58:=held_isV hf 0 rfl (by kernel_rfl)
      have h56:=held_isV hf 2 rfl (by kernel_rfl)
      clear hk hf hc
      go_simp
      refine Calls.mono (two17_calls 60 (by decide) (by decide) (HTA.out.kept (HB.out.trans (hb.mono HB.out.size))) (HTB.out.kept (HB.out.trans (hb.mono HB.out.size)))) ?_
      rintro e w1 ⟨v,rfl,ht,hq⟩
      exact hK _ _ hq (fun _=>ht)
     refine calm_fixA rfl rfl ?_
     apply Exists.intro
     refine ⟨fun a wz hc hk hf K hK=>?_,?_⟩
     ·have hb:Below ws.heap.size ws wz:=hc rfl
      obtain ⟨v59,h59,S59⟩:=held_at hf 0 rfl (by kernel_rfl)
      have h56:=held_isV hf 3 rfl (by kernel_rfl)
      clear hk hf hc
      have hs:=norm_print_calls (S59 rfl) (HM.out 60 (by decide) (by decide)).1
      rw [hL1.out] at hs
      go_simp
      refine Calls.mono (hs) ?_
      rintro e w1 ⟨rfl,hq⟩
      exact hK _ _ hq rfl
     refine calm_fixA rfl rfl ?_
     apply Exists.intro
     refine ⟨fun a wz hc hk hf K hK=>?_,?_⟩
     ·have hb:Below ws.heap.size ws wz:=hc rfl
      have h3:=hk 3 (by kernel_rfl)
      have h56:=held_isV hf 4 rfl (by kernel_rfl)
      clear hk hf hc
      obtain ⟨b0,b1,b2,b3,_⟩:=(HXB.out.later hb).cells
      go_simp
      exact hK _ _ (Below.refl _ _) rfl
     refine calm_fixA rfl rfl ?_
     apply Exists.intro
     refine ⟨fun a wz hc hk hf K hK=>?_,?_⟩
     ·have hb:Below ws.heap.size ws wz:=hc rfl
      have h2:=hk 2 (by kernel_rfl)
      have h56:=held_isV hf 5 rfl (by kernel_rfl)
      clear hk hf hc
      obtain ⟨a0,a1,a2,a3,_⟩:=(HXA.out.later hb).cells
      go_simp
      exact hK _ _ (Below.refl _ _) rfl
     refine calm_varA (fun u wx=>TermIn wx u (twoT15 60 tb ta)) rfl rfl (fun u w w' hb h=>TermQ.kept17 hb h) (fun a wz hc hk hf K hK=>?_) ?_
     ·have hb:Below ws.heap.size ws wz:=hc rfl
      have h61:=held_isV hf 1 rfl (by kernel_rfl)
      have h62:=held_isV hf 0 rfl (by kernel_rfl)
      have h56:=held_isV hf 6 rfl (by kernel_rfl)
      clear hk hf hc
      go_simp
      refine Calls.mono (two17_calls 60 (by decide) (by decide) (HTB.out.kept (HB.out.trans (hb.mono HB.out.size))) (HTA.out.kept (HB.out.trans (hb.mono HB.out.size)))) ?_
      rintro e w1 ⟨v,rfl,ht,hq⟩
      exact hK _ _ hq (fun _=>ht)
     refine calm_fixA rfl rfl ?_
     apply Exists.intro
     refine ⟨fun a wz hc hk hf K hK=>?_,?_⟩
     ·have hb:Below ws.heap.size ws wz:=hc rfl
      obtain ⟨v63,h63,S63⟩:=held_at hf 0 rfl (by kernel_rfl)
      have h56:=held_isV hf 7 rfl (by kernel_rfl)
      clear hk hf hc
      have hs:=norm_print_calls (S63 rfl) (HM.out 60 (by decide) (by decide)).2
      rw [hL2.out] at hs
      go_simp
      refine Calls.mono (hs) ?_
      rintro e w1 ⟨rfl,hq⟩
      exact hK _ _ hq rfl
     refine calm_fixA rfl rfl ?_
     apply Exists.intro
     refine ⟨fun a wz hc hk hf K hK=>?_,?_⟩
     ·have h60:=held_isV hf 4 rfl (by kernel_rfl)
      have h64:=held_isV hf 0 rfl (by kernel_rfl)
      have h56:=held_isV hf 8 rfl (by kernel_rfl)
      clear hk hf hc
      go_simp
      exact hK _ _ (Below.refl _ _) rfl
     refine calm_fixA rfl rfl ?_
     apply Exists.intro
     refine ⟨fun a wz hc hk hf K hK=>?_,?_⟩
     ·have h5:=hk 5 (by kernel_rfl)
      have h56:=held_isV hf 9 rfl (by kernel_rfl)
      clear hk hf hc
      go_simp
      exact hK _ _ (Below.refl _ _) rfl
     refine calm_fixA rfl rfl ?_
     apply Exists.intro
     refine ⟨fun a wz hc hk hf K hK=>?_,?_⟩
     ·have h6:=hk 6 (by kernel_rfl)
      have h56:=held_isV hf 10 rfl (by kernel_rfl)
      clear hk hf hc
      go_simp
      exact hK _ _ (Below.refl _ _) rfl
     refine calm_fixA rfl rfl ?_
     apply Exists.intro
     refine ⟨fun a wz hc hk hf K hK=>?_,?_⟩
     ·have h66:=held_isV hf 1 rfl (by kernel_rfl)
      have h67:=held_isV hf 0 rfl (by kernel_rfl)
      have h56:=held_isV hf 11 rfl (by kernel_rfl)
      clear hk hf hc
      go_simp
      exact hK _ _ (Below.refl _ _) rfl
     refine calm_fixA rfl rfl ?_
     apply Exists.intro
     refine ⟨fun a wz hc hk hf K hK=>?_,?_⟩
     ·have h65:=held_isV hf 3 rfl (by kernel_rfl)
      have h68:=held_isV hf 0 rfl (by kernel_rfl)
      have h56:=held_isV hf 12 rfl (by kernel_rfl)
      clear hk hf hc
      go_simp
      exact hK _ _ (Below.refl _ _) rfl
     refine calm_fixA rfl rfl ?_
     apply Exists.intro
     refine ⟨fun a wz hc hk hf K hK=>?_,?_⟩
     ·have h56:=held_isV hf 13 rfl (by kernel_rfl)
      have h69:=held_isV hf 0 rfl (by kernel_rfl)
      clear hk hf hc
      go_simp
      exact hK _ _ (Below.refl _ _) rfl
     refine calm_fixA rfl rfl ?_
     apply Exists.intro
     refine ⟨fun a wz hc hk hf K hK=>?_,?_⟩
     ·have h70:=held_isV hf 0 rfl (by kernel_rfl)
      clear hk hf hc
      go_simp
      exact hK _ _ (Below.refl _ _) rfl
     refine calm_nil ?_
     refine ⟨keeps_none,?_⟩
     intro wx hc
     simp only [lexL,calmEnd]
     rintro _ rfl _ rfl _ rfl _ rfl _ rfl _ rfl _ rfl _ rfl v48 S48 _ rfl _ rfl _ rfl v52 S52 _ rfl _ rfl _ rfl _ rfl _ rfl _ rfl v59 S59 _ rfl _ rfl _ rfl v63 S63 _ rfl _ rfl _ rfl _ rfl _ rfl _ rfl _ rfl _ rfl
     have hq:Below ws.heap.size ws wx:=hc rfl
     have HBE:=Lib.hid (HB.out.trans (hq.mono HB.out.size))
     clear hc hq S48 S52 S59 S63
     simp only [Act.put,List.setIfInBounds_toArray,List.set_cons_zero,List.set_cons_succ]
     go_wp2
     go_ret
     exact ⟨rfl,HBE.out⟩
end Go.Proofs.Ytnkhkkdmjabhnaa
