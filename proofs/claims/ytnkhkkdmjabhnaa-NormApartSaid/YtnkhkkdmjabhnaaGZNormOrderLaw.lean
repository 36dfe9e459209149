/- The law NormOrder of layer 17. -/
import Derived.Test.YtnkhkkdmjabhnaaGZNormTells
namespace Go.Proofs.Ytnkhkkdmjabhnaa
open Go Go.RowKit
theorem len_two (op:Int)(a b:Trm):(printL (twoT15 op a b)).length≤121+(printL a).length+(printL b).length:=by
 rw [printL_eq,List.length_append,flat_swap_length]
 have h:=head_le (op:=op) (col:=0) (cell:=noC) (n:=2) (by decide) (by decide) (by decide) (by decide)
 have e:((twoT15 op a b).kids.map printL).flatten.length=(printL a).length+(printL b).length:=by
  show ([printL a,printL b]:List (List UInt8)).flatten.length=_
  simp
 rw [e]
 have h':(headL (twoT15 op a b).op (twoT15 op a b).col (twoT15 op a b).cell (twoT15 op a b).kids.length).length≤121:=h
 omega
theorem leaves_two (a b:Trm):leavesT (twoT15 38 a b)=leavesT a++leavesT b:=leaves_and _ _ _ _
def sumP (l:List Trm):Nat:=(l.map fun t=>(printL t).length).sum
theorem sumP_cons (t:Trm)(l:List Trm):sumP (t::l)=(printL t).length+sumP l:=by unfold sumP;rw [List.map_cons,List.sum_cons]
theorem sumP_append (a b:List Trm):sumP (a++b)=sumP a+sumP b:=by unfold sumP;rw [List.map_append,List.sum_append]
theorem sumP_ins (t:Trm):∀ l:List Trm,sumP (insT l t)≤sumP l+(printL t).length
 | []=>by unfold insT;rw [sumP_cons];omega
 | x::l=>by
  have ih:=sumP_ins t l
  unfold insT
  split
  ·rw [sumP_cons,sumP_cons];omega
  ·split
   ·omega
   ·rw [sumP_cons,sumP_cons];omega
theorem sumP_fold:∀ l s:List Trm,sumP (l.foldl insT s)≤sumP s+sumP l
 | [],s=>by show sumP s≤_;omega
 | x::l,s=>by
  have h1:=sumP_fold l (insT s x)
  have h2:=sumP_ins x s
  rw [sumP_cons]
  show sumP (l.foldl insT (insT s x))≤_
  omega
theorem sumP_kids:∀ ks:List Trm,(∀ k∈ks,sumP (leavesT k)≤(printL k).length)→sumP ((ks.map leavesT).flatten)≤((ks.map printL).flatten).length
 | [],_=>by simp [sumP]
 | k::ks,h=>by
  have h1:=h k List.mem_cons_self
  have h2:=sumP_kids ks fun x hx=>h x (List.mem_cons_of_mem _ hx)
  rw [List.map_cons,List.map_cons,List.flatten_cons,List.flatten_cons,List.length_append,sumP_append]
  omega
theorem sumP_leaves:∀ t,sumP (leavesT t)≤(printL t).length:=by
 intro t
 induction t using Trm.ind with
 | h t ih =>
  rw [leaves_eq]
  split
  ·rw [printL_eq,List.length_append,flat_swap_length]
   have:=sumP_kids t.kids ih
   omega
  ·split
   ·exact Nat.zero_le _
   ·rw [sumP_cons];show _+0≤_;omega
theorem sumP_parts (t:Trm):sumP (partsT t)≤(printL t).length:=by
 have h1:=sumP_fold (leavesT t) []
 have h2:=sumP_leaves t
 have h3:sumP ([]:List Trm)=0:=rfl
 unfold partsT
 omega
theorem sm_fold:∀ (l:List Trm)(x:Trm),Sm17 x→(∀ y∈l,Sm17 y)→(printL x).length+121*l.length+sumP l≤900000000→Sm17 (l.foldl andT x)
 | [],x,hx,_,_=>hx
 | y::l,x,hx,hl,h=>by
  rw [sumP_cons,List.length_cons] at h
  have h2:=len_two 38 x y
  exact sm_fold l (andT x y) (sm17_two (by decide) (by decide) hx (hl y List.mem_cons_self) (by omega)) (fun z hz=>hl z (List.mem_cons_of_mem _ hz)) (by
   show (printL (twoT15 38 x y)).length+_+_≤_
   omega)
theorem sm_join {l:List Trm}(hl:∀ y∈l,Sm17 y)(h:l.length≤1000000)(h2:sumP l≤700000000):Sm17 (joinT l):=by
 cases l with
 | nil=>exact sm17_true
 | cons x l =>
  rw [sumP_cons] at h2
  rw [List.length_cons] at h
  exact sm_fold l x (hl x List.mem_cons_self) (fun y hy=>hl y (List.mem_cons_of_mem _ hy)) (by omega)
theorem printsT_of {l m:List Trm}(h:l.map printL=m.map printL):printsT l=printsT m:=by
 have e:∀ l,printsT l=(l.map printL).map fun p=>cstT (mkB p):=fun l=>by unfold printsT;rw [List.map_map];rfl
 rw [e,e,h]
theorem order_one (a b c:Trm):(partsT (twoT15 38 c (twoT15 38 (twoT15 38 b a) b))).map printL=(partsT (twoT15 38 (twoT15 38 a b) c)).map printL :=
 prints_one fun p=>by
  rw [leaves_two,leaves_two,leaves_two,leaves_two,leaves_two]
  simp only [List.map_append,List.mem_append]
  constructor
  ·rintro (h|(h|h)|h)
   ·exact .inr h
   ·exact .inl (.inr h)
   ·exact .inl (.inl h)
   ·exact .inl (.inr h)
  ·rintro ((h|h)|h)
   ·exact .inr (.inl (.inr h))
   ·exact .inr (.inr h)
   ·exact .inl h
set_option maxHeartbeats 16000000 in
set_option maxRecDepth 100000 in
theorem normOrder_calls {w:World}{va vb vc:Value}{ta tb tc:Trm}(ha:TermIn w va ta)(hb:TermIn w vb tb)(hc:TermIn w vc tc):GivesAt Try.prog 5 #[va,vb,vc] w (.bool true):=by
 have HAW:=Lib.hid awake17_calls
 have HGA:Hid (∀ W,Below w.heap.size w W→GivesAt Try.prog 8 #[va,.int .i64 3] W (.bool (greatN 3 ta))):=fun W hW=>great17_calls ta W va 3 (by decide) (ha.kept hW)
 have HSA:=Lib.hid fun (h:greatN 3 ta=false)=>greatN_sm ha (by decide) h
 have HTA:=Lib.hid ha
 obtain ⟨Pa,pa,rfl⟩:=ha.parts15
 have HGB:Hid (∀ W,Below w.heap.size w W→GivesAt Try.prog 8 #[vb,.int .i64 3] W (.bool (greatN 3 tb))):=fun W hW=>great17_calls tb W vb 3 (by decide) (hb.kept hW)
 have HSB:=Lib.hid fun (h:greatN 3 tb=false)=>greatN_sm hb (by decide) h
 have HTB:=Lib.hid hb
 obtain ⟨Pb,pb,rfl⟩:=hb.parts15
 have HGC:Hid (∀ W,Below w.heap.size w W→GivesAt Try.prog 8 #[vc,.int .i64 3] W (.bool (greatN 3 tc))):=fun W hW=>great17_calls tc W vc 3 (by decide) (hc.kept hW)
 have HSC:=Lib.hid fun (h:greatN 3 tc=false)=>greatN_sm hc (by decide) h
 have HTC:=Lib.hid hc
 obtain ⟨Pc,pc,rfl⟩:=hc.parts15
 have ala:=Below.alloc (.refl w.heap.size w) (Nat.le_refl _) (.cells #[.int .u8 ta.op,.int .i64 ta.col,.string ta.cell,.slice Pa ta.kids.length pa] 24)
 have bxa:=trmbox_lit w 24 ta.op ta.col ta.cell (.slice Pa ta.kids.length pa)
 have alb:=Below.alloc (.refl (w.alloc (.cells #[.int .u8 ta.op,.int .i64 ta.col,.string ta.cell,.slice Pa ta.kids.length pa] 24)).heap.size (w.alloc (.cells #[.int .u8 ta.op,.int .i64 ta.col,.string ta.cell,.slice Pa ta.kids.length pa] 24))) (Nat.le_refl _) (.cells #[.int .u8 tb.op,.int .i64 tb.col,.string tb.cell,.slice Pb tb.kids.length pb] 24)
 have bxb:=trmbox_lit (w.alloc (.cells #[.int .u8 ta.op,.int .i64 ta.col,.string ta.cell,.slice Pa ta.kids.length pa] 24)) 24 tb.op tb.col tb.cell (.slice Pb tb.kids.length pb)
 rw [show (w.alloc (.cells #[.int .u8 ta.op,.int .i64 ta.col,.string ta.cell,.slice Pa ta.kids.length pa] 24)).heap.size=w.heap.size+1 by simp] at bxb
 have alc:=Below.alloc (.refl ((w.alloc (.cells #[.int .u8 ta.op,.int .i64 ta.col,.string ta.cell,.slice Pa ta.kids.length pa] 24)).alloc (.cells #[.int .u8 tb.op,.int .i64 tb.col,.string tb.cell,.slice Pb tb.kids.length pb] 24)).heap.size ((w.alloc (.cells #[.int .u8 ta.op,.int .i64 ta.col,.string ta.cell,.slice Pa ta.kids.length pa] 24)).alloc (.cells #[.int .u8 tb.op,.int .i64 tb.col,.string tb.cell,.slice Pb tb.kids.length pb] 24))) (Nat.le_refl _) (.cells #[.int .u8 tc.op,.int .i64 tc.col,.string tc.cell,.slice Pc tc.kids.length pc] 24)
 have bxc:=trmbox_lit ((w.alloc (.cells #[.int .u8 ta.op,.int .i64 ta.col,.string ta.cell,.slice Pa ta.kids.length pa] 24)).alloc (.cells #[.int .u8 tb.op,.int .i64 tb.col,.string tb.cell,.slice Pb tb.kids.length pb] 24)) 24 tc.op tc.col tc.cell (.slice Pc tc.kids.length pc)
 rw [show ((w.alloc (.cells #[.int .u8 ta.op,.int .i64 ta.col,.string ta.cell,.slice Pa ta.kids.length pa] 24)).alloc (.cells #[.int .u8 tb.op,.int .i64 tb.col,.string tb.cell,.slice Pb tb.kids.length pb] 24)).heap.size=w.heap.size+2 by simp] at bxc
 have HXA:=Lib.hid ((bxa.later alb).later alc)
 have HXB:=Lib.hid (bxb.later alc)
 have HXC:=Lib.hid bxc
 have HB:=Lib.hid ((ala.trans (alb.mono ala.size)).trans (alc.mono (ala.trans (alb.mono ala.size)).size))
 clear ala bxa ha alb bxb hb alc bxc hc
 unfold GivesAt
 go_enter Try.func5,Try.ntmps5
 obtain ⟨a0,a1,a2,a3,_⟩:=HXA.out.cells
 go_wp2_with fail
 generalize World.alloc (World.alloc (World.alloc w _) _) _=w0 at *
 clear a0 a1 a2 a3
 cases hga:greatN 3 ta with
 | true =>
  rw [hga] at HGA
  clear hga
  obtain ⟨a0,a1,a2,a3,_⟩:=HXA.out.cells
  go_wp2_with fail
  clear a0 a1 a2 a3
  refine Calls.mono (HGA.out w0 HB.out) ?_
  rintro e wn1 ⟨rfl,hq⟩
  replace HXA:=Lib.hid (HXA.out.later hq)
  replace HXB:=Lib.hid (HXB.out.later hq)
  replace HXC:=Lib.hid (HXC.out.later hq)
  replace HB:=Lib.hid (HB.out.trans (hq.mono HB.out.size))
  clear hq
  go_wp2_with fail
  refine Calls.mono (HAW.out wn1) ?_
  rintro e wn2 ⟨rfl,hq⟩
  replace HXA:=Lib.hid (HXA.out.later hq)
  replace HXB:=Lib.hid (HXB.out.later hq)
  replace HXC:=Lib.hid (HXC.out.later hq)
  replace HB:=Lib.hid (HB.out.trans (hq.mono HB.out.size))
  clear hq
  go_wp2
  go_ret
  exact ⟨rfl,HB.out⟩
 | false =>
  rw [hga] at HGA
  replace HSA:=Lib.hid (HSA.out hga)
  clear hga
  obtain ⟨a0,a1,a2,a3,_⟩:=HXA.out.cells
  go_wp2_with fail
  clear a0 a1 a2 a3
  refine Calls.mono (HGA.out w0 HB.out) ?_
  rintro e wn1 ⟨rfl,hq⟩
  replace HXA:=Lib.hid (HXA.out.later hq)
  replace HXB:=Lib.hid (HXB.out.later hq)
  replace HXC:=Lib.hid (HXC.out.later hq)
  replace HB:=Lib.hid (HB.out.trans (hq.mono HB.out.size))
  clear hq
  cases hgb:greatN 3 tb with
  | true =>
   rw [hgb] at HGB
   clear hgb
   obtain ⟨b0,b1,b2,b3,_⟩:=HXB.out.cells
   go_wp2_with fail
   clear b0 b1 b2 b3
   refine Calls.mono (HGB.out wn1 HB.out) ?_
   rintro e wn2 ⟨rfl,hq⟩
   replace HXA:=Lib.hid (HXA.out.later hq)
   replace HXB:=Lib.hid (HXB.out.later hq)
   replace HXC:=Lib.hid (HXC.out.later hq)
   replace HB:=Lib.hid (HB.out.trans (hq.mono HB.out.size))
   clear hq
   go_wp2_with fail
   refine Calls.mono (HAW.out wn2) ?_
   rintro e wn3 ⟨rfl,hq⟩
   replace HXA:=Lib.hid (HXA.out.later hq)
   replace HXB:=Lib.hid (HXB.out.later hq)
   replace HXC:=Lib.hid (HXC.out.later hq)
   replace HB:=Lib.hid (HB.out.trans (hq.mono HB.out.size))
   clear hq
   go_wp2
   go_ret
   exact ⟨rfl,HB.out⟩
  | false =>
   rw [hgb] at HGB
   replace HSB:=Lib.hid (HSB.out hgb)
   clear hgb
   obtain ⟨b0,b1,b2,b3,_⟩:=HXB.out.cells
   go_wp2_with fail
   clear b0 b1 b2 b3
   refine Calls.mono (HGB.out wn1 HB.out) ?_
   rintro e wn2 ⟨rfl,hq⟩
   replace HXA:=Lib.hid (HXA.out.later hq)
   replace HXB:=Lib.hid (HXB.out.later hq)
   replace HXC:=Lib.hid (HXC.out.later hq)
   replace HB:=Lib.hid (HB.out.trans (hq.mono HB.out.size))
   clear hq
   cases hgc:greatN 3 tc with
   | true =>
    rw [hgc] at HGC
    clear hgc
    obtain ⟨c0,c1,c2,c3,_⟩:=HXC.out.cells
    go_wp2_with fail
    clear c0 c1 c2 c3
    refine Calls.mono (HGC.out wn2 HB.out) ?_
    rintro e wn3 ⟨rfl,hq⟩
    replace HXA:=Lib.hid (HXA.out.later hq)
    replace HXB:=Lib.hid (HXB.out.later hq)
    replace HXC:=Lib.hid (HXC.out.later hq)
    replace HB:=Lib.hid (HB.out.trans (hq.mono HB.out.size))
    clear hq
    go_wp2_with fail
    refine Calls.mono (HAW.out wn3) ?_
    rintro e wn4 ⟨rfl,hq⟩
    replace HXA:=Lib.hid (HXA.out.later hq)
    replace HXB:=Lib.hid (HXB.out.later hq)
    replace HXC:=Lib.hid (HXC.out.later hq)
    replace HB:=Lib.hid (HB.out.trans (hq.mono HB.out.size))
    clear hq
    go_wp2
    go_ret
    exact ⟨rfl,HB.out⟩
   | false =>
    rw [hgc] at HGC
    replace HSC:=Lib.hid (HSC.out hgc)
    clear hgc
    obtain ⟨c0,c1,c2,c3,_⟩:=HXC.out.cells
    go_wp2_with fail
    clear c0 c1 c2 c3
    refine Calls.mono (HGC.out wn2 HB.out) ?_
    rintro e wn3 ⟨rfl,hq⟩
    replace HXA:=Lib.hid (HXA.out.later hq)
    replace HXB:=Lib.hid (HXB.out.later hq)
    replace HXC:=Lib.hid (HXC.out.later hq)
    replace HB:=Lib.hid (HB.out.trans (hq.mono HB.out.size))
    clear hq
    have HSX:Hid (Sm17 (twoT15 38 (twoT15 38 ta tb) tc)):=by
     obtain ⟨a1,a2,a3⟩:=HSA.out
     obtain ⟨b1,b2,b3⟩:=HSB.out
     obtain ⟨c1,c2,c3⟩:=HSC.out
     have h1:=len_two 38 ta tb
     exact sm17_two (by decide) (by decide) (sm17_two (by decide) (by decide) a3 b3 (by omega)) c3 (by omega)
    have HSY:Hid (Sm17 (twoT15 38 tc (twoT15 38 (twoT15 38 tb ta) tb))):=by
     obtain ⟨a1,a2,a3⟩:=HSA.out
     obtain ⟨b1,b2,b3⟩:=HSB.out
     obtain ⟨c1,c2,c3⟩:=HSC.out
     have h1:=len_two 38 tb ta
     have h2:=len_two 38 (twoT15 38 tb ta) tb
     exact sm17_two (by decide) (by decide) c3 (sm17_two (by decide) (by decide) (sm17_two (by decide) (by decide) b3 a3 (by omega)) b3 (by omega)) (by omega)
    have HLX:Hid ((partsT (twoT15 38 (twoT15 38 ta tb) tc)).length≤1000000):=by
     have h1:=parts_le (twoT15 38 (twoT15 38 ta tb) tc)
     rw [leaves_two,leaves_two,List.length_append,List.length_append] at h1
     have:=HSA.out.2.1
     have:=HSB.out.2.1
     have:=HSC.out.2.1
     show _≤_
     omega
    have HSP:Hid (∀ x∈partsT (twoT15 38 (twoT15 38 ta tb) tc),Sm17 x):=fun x hx=>sm_parts HSX.out hx
    have HSQ:Hid (∀ x∈partsT (twoT15 38 tc (twoT15 38 (twoT15 38 tb ta) tb)),Sm17 x):=fun x hx=>sm_parts HSY.out hx
    have HPR:Hid (printsT (partsT (twoT15 38 tc (twoT15 38 (twoT15 38 tb ta) tb)))=printsT (partsT (twoT15 38 (twoT15 38 ta tb) tc))):=printsT_of (order_one ta tb tc)
    have HLY:Hid ((partsT (twoT15 38 tc (twoT15 38 (twoT15 38 tb ta) tb))).length≤1000000):=by
     have h:=congrArg List.length HPR.out
     rw [printsT_length,printsT_length] at h
     show _≤_
     rw [h];exact HLX.out
    have HPJ:Hid (partsT (joinT (partsT (twoT15 38 (twoT15 38 ta tb) tc)))=partsT (twoT15 38 (twoT15 38 ta tb) tc)):=parts_join HSX.out.okA
    have HSJ:Hid (Sm17 (joinT (partsT (twoT15 38 (twoT15 38 ta tb) tc)))):=sm_join HSP.out HLX.out (by
     have h:=sumP_parts (twoT15 38 (twoT15 38 ta tb) tc)
     have h1:=len_two 38 ta tb
     have h2:=len_two 38 (twoT15 38 ta tb) tc
     have:=HSA.out.1
     have:=HSB.out.1
     have:=HSC.out.1
     omega)
    clear HGA HGB HGC
    go_wp2_with fail
    refine wp_region_calm (offC wn3) (fun _=>false) (fun _=>false) anyE false (by kernel_rfl) (by kernel_rfl) (by kernel_rfl) (by kernel_rfl) (by intro m hm;revert hm;simp;try omega) (offC_stable _) (offC_start _) ?_
    refine calm_fixA rfl rfl ?_
    apply Exists.intro
    refine ⟨fun a wz hc hk hf K hK=>?_,?_⟩
    ·have hb:Below wn3.heap.size wn3 wz:=hc rfl
     have h3:=hk 3 (by kernel_rfl)
     clear hk hf hc
     obtain ⟨a0,a1,a2,a3,_⟩:=(HXA.out.later hb).cells
     go_simp
     exact hK _ _ (Below.refl _ _) rfl
    refine calm_fixA rfl rfl ?_
    apply Exists.intro
    refine ⟨fun a wz hc hk hf K hK=>?_,?_⟩
    ·have hb:Below wn3.heap.size wn3 wz:=hc rfl
     have h4:=hk 4 (by kernel_rfl)
     clear hk hf hc
     obtain ⟨b0,b1,b2,b3,_⟩:=(HXB.out.later hb).cells
     go_simp
     exact hK _ _ (Below.refl _ _) rfl
    refine calm_varA (fun u wx=>TermIn wx u (twoT15 38 (ta) (tb))) rfl rfl (fun u w w' hb h=>TermQ.kept17 hb h) (fun a wz hc hk hf K hK=>?_) ?_
    ·have hb:Below wn3.heap.size wn3 wz:=hc rfl
     have h21:=held_isV hf 1 rfl (by kernel_rfl)
     have h22:=held_isV hf 0 rfl (by kernel_rfl)
     clear hk hf hc
     go_simp
     refine Calls.mono (two17_calls 38 (by decide) (by decide) (HTA.out.kept (HB.out.trans (hb.mono HB.out.size))) (HTB.out.kept (HB.out.trans (hb.mono HB.out.size)))) ?_
     rintro e w1 ⟨v,rfl,ht,hq⟩
     exact hK _ _ hq (fun _=>ht)
    refine calm_fixA rfl rfl ?_
    apply Exists.intro
    refine ⟨fun a wz hc hk hf K hK=>?_,?_⟩
    ·have hb:Below wn3.heap.size wn3 wz:=hc rfl
     have h5:=hk 5 (by kernel_rfl)
     clear hk hf hc
     obtain ⟨c0,c1,c2,c3,_⟩:=(HXC.out.later hb).cells
     go_simp
     exact hK _ _ (Below.refl _ _) rfl
    refine calm_varA (fun u wx=>TermIn wx u (twoT15 38 (twoT15 38 ta tb) (tc))) rfl rfl (fun u w w' hb h=>TermQ.kept17 hb h) (fun a wz hc hk hf K hK=>?_) ?_
    ·have hb:Below wn3.heap.size wn3 wz:=hc rfl
     obtain ⟨v23,h23,S23⟩:=held_at hf 1 rfl (by kernel_rfl)
     have h24:=held_isV hf 0 rfl (by kernel_rfl)
     clear hk hf hc
     go_simp
     refine Calls.mono (two17_calls 38 (by decide) (by decide) (S23 rfl) (HTC.out.kept (HB.out.trans (hb.mono HB.out.size)))) ?_
     rintro e w1 ⟨v,rfl,ht,hq⟩
     exact hK _ _ hq (fun _=>ht)
    refine calm_varA (fun u wx=>KidsIn wx u (partsT (twoT15 38 (twoT15 38 ta tb) tc))) rfl rfl (fun u w w' hb h=>KidsQ.kept h hb) (fun a wz hc hk hf K hK=>?_) ?_
    ·have hb:Below wn3.heap.size wn3 wz:=hc rfl
     obtain ⟨v25,h25,S25⟩:=held_at hf 0 rfl (by kernel_rfl)
     clear hk hf hc
     go_simp
     refine Calls.mono (parts17_calls (S25 rfl) HSX.out) ?_
     rintro e w1 ⟨u,rfl,hk,hq⟩
     exact hK _ _ hq (fun _=>hk)
    refine calm_varA (fun u wx=>KidsIn wx u (partsT (twoT15 38 (twoT15 38 ta tb) tc))) rfl rfl (fun u w w' hb h=>KidsQ.kept h hb) (fun a wz hc hk hf K hK=>?_) ?_
    ·have hb:Below wn3.heap.size wn3 wz:=hc rfl
     obtain ⟨v26,h26,S26⟩:=held_at hf 0 rfl (by kernel_rfl)
     clear hk hf hc
     go_simp
     exact hK _ _ (Below.refl _ _) fun _=>S26 rfl
    refine calm_nil ?_
    refine ⟨keeps_none,?_⟩
    intro wn4 hc
    simp only [lexL,calmEnd]
    rintro _ rfl _ rfl v23 S23 _ rfl v25 S25 v26 S26 v7 S7
    have hq:Below wn3.heap.size wn3 wn4:=hc rfl
    have Hx_:Hid (KidsIn wn4 v7 (partsT (twoT15 38 (twoT15 38 ta tb) tc))):=S7 rfl
    clear hc S23 S25 S26 S7
    simp only [Act.put,List.setIfInBounds_toArray,List.set_cons_zero,List.set_cons_succ]
    replace HXA:=Lib.hid (HXA.out.later hq)
    replace HXB:=Lib.hid (HXB.out.later hq)
    replace HXC:=Lib.hid (HXC.out.later hq)
    replace HB:=Lib.hid (HB.out.trans (hq.mono HB.out.size))
    clear hq
    have Hx:=Hx_
    clear Hx_
    go_wp2_with fail
    refine wp_region_calm (offC wn4) (fun _=>false) (fun _=>false) anyE false (by kernel_rfl) (by kernel_rfl) (by kernel_rfl) (by kernel_rfl) (by intro m hm;revert hm;simp;try omega) (offC_stable _) (offC_start _) ?_
    refine calm_fixA rfl rfl ?_
    apply Exists.intro
    refine ⟨fun a wz hc hk hf K hK=>?_,?_⟩
    ·have hb:Below wn4.heap.size wn4 wz:=hc rfl
     have h5:=hk 5 (by kernel_rfl)
     clear hk hf hc
     obtain ⟨c0,c1,c2,c3,_⟩:=(HXC.out.later hb).cells
     go_simp
     exact hK _ _ (Below.refl _ _) rfl
    refine calm_fixA rfl rfl ?_
    apply Exists.intro
    refine ⟨fun a wz hc hk hf K hK=>?_,?_⟩
    ·have hb:Below wn4.heap.size wn4 wz:=hc rfl
     have h4:=hk 4 (by kernel_rfl)
     clear hk hf hc
     obtain ⟨b0,b1,b2,b3,_⟩:=(HXB.out.later hb).cells
     go_simp
     exact hK _ _ (Below.refl _ _) rfl
    refine calm_fixA rfl rfl ?_
    apply Exists.intro
    refine ⟨fun a wz hc hk hf K hK=>?_,?_⟩
    ·have hb:Below wn4.heap.size wn4 wz:=hc rfl
     have h3:=hk 3 (by kernel_rfl)
     clear hk hf hc
     obtain ⟨a0,a1,a2,a3,_⟩:=(HXA.out.later hb).cells
     go_simp
     exact hK _ _ (Below.refl _ _) rfl
    refine calm_varA (fun u wx=>TermIn wx u (twoT15 38 (tb) (ta))) rfl rfl (fun u w w' hb h=>TermQ.kept17 hb h) (fun a wz hc hk hf K hK=>?_) ?_
    ·have hb:Below wn4.heap.size wn4 wz:=hc rfl
     have h28:=held_isV hf 1 rfl (by kernel_rfl)
     have h29:=held_isV hf 0 rfl (by kernel_rfl)
     clear hk hf hc
     go_simp
     refine Calls.mono (two17_calls 38 (by decide) (by decide) (HTB.out.kept (HB.out.trans (hb.mono HB.out.size))) (HTA.out.kept (HB.out.trans (hb.mono HB.out.size)))) ?_
     rintro e w1 ⟨v,rfl,ht,hq⟩
     exact hK _ _ hq (fun _=>ht)
    refine calm_fixA rfl rfl ?_
    apply Exists.intro
    refine ⟨fun a wz hc hk hf K hK=>?_,?_⟩
    ·have hb:Below wn4.heap.size wn4 wz:=hc rfl
     have h4:=hk 4 (by kernel_rfl)
     clear hk hf hc
     obtain ⟨b0,b1,b2,b3,_⟩:=(HXB.out.later hb).cells
     go_simp
     exact hK _ _ (Below.refl _ _) rfl
    refine calm_varA (fun u wx=>TermIn wx u (twoT15 38 (twoT15 38 tb ta) (tb))) rfl rfl (fun u w w' hb h=>TermQ.kept17 hb h) (fun a wz hc hk hf K hK=>?_) ?_
    ·have hb:Below wn4.heap.size wn4 wz:=hc rfl
     obtain ⟨v30,h30,S30⟩:=held_at hf 1 rfl (by kernel_rfl)
     have h31:=held_isV hf 0 rfl (by kernel_rfl)
     clear hk hf hc
     go_simp
     refine Calls.mono (two17_calls 38 (by decide) (by decide) (S30 rfl) (HTB.out.kept (HB.out.trans (hb.mono HB.out.size)))) ?_
     rintro e w1 ⟨v,rfl,ht,hq⟩
     exact hK _ _ hq (fun _=>ht)
    refine calm_varA (fun u wx=>TermIn wx u (twoT15 38 (tc) (twoT15 38 (twoT15 38 tb ta) tb))) rfl rfl (fun u w w' hb h=>TermQ.kept17 hb h) (fun a wz hc hk hf K hK=>?_) ?_
    ·have hb:Below wn4.heap.size wn4 wz:=hc rfl
     have h27:=held_isV hf 5 rfl (by kernel_rfl)
     obtain ⟨v32,h32,S32⟩:=held_at hf 0 rfl (by kernel_rfl)
     clear hk hf hc
     go_simp
     refine Calls.mono (two17_calls 38 (by decide) (by decide) (HTC.out.kept (HB.out.trans (hb.mono HB.out.size))) (S32 rfl)) ?_
     rintro e w1 ⟨v,rfl,ht,hq⟩
     exact hK _ _ hq (fun _=>ht)
    refine calm_varA (fun u wx=>KidsIn wx u (partsT (twoT15 38 tc (twoT15 38 (twoT15 38 tb ta) tb)))) rfl rfl (fun u w w' hb h=>KidsQ.kept h hb) (fun a wz hc hk hf K hK=>?_) ?_
    ·have hb:Below wn4.heap.size wn4 wz:=hc rfl
     obtain ⟨v33,h33,S33⟩:=held_at hf 0 rfl (by kernel_rfl)
     clear hk hf hc
     go_simp
     refine Calls.mono (parts17_calls (S33 rfl) HSY.out) ?_
     rintro e w1 ⟨u,rfl,hk,hq⟩
     exact hK _ _ hq (fun _=>hk)
    refine calm_varA (fun u wx=>KidsIn wx u (partsT (twoT15 38 tc (twoT15 38 (twoT15 38 tb ta) tb)))) rfl rfl (fun u w w' hb h=>KidsQ.kept h hb) (fun a wz hc hk hf K hK=>?_) ?_
    ·have hb:Below wn4.heap.size wn4 wz:=hc rfl
     obtain ⟨v34,h34,S34⟩:=held_at hf 0 rfl (by kernel_rfl)
     clear hk hf hc
     go_simp
     exact hK _ _ (Below.refl _ _) fun _=>S34 rfl
    refine calm_nil ?_
    refine ⟨keeps_none,?_⟩
    intro wn5 hc
    simp only [lexL,calmEnd]
    rintro _ rfl _ rfl _ rfl v30 S30 _ rfl v32 S32 v33 S33 v34 S34 v8 S8
    have hq:Below wn4.heap.size wn4 wn5:=hc rfl
    have Hy_:Hid (KidsIn wn5 v8 (partsT (twoT15 38 tc (twoT15 38 (twoT15 38 tb ta) tb)))):=S8 rfl
    clear hc S30 S32 S33 S34 S8
    simp only [Act.put,List.setIfInBounds_toArray,List.set_cons_zero,List.set_cons_succ]
    replace HXA:=Lib.hid (HXA.out.later hq)
    replace HXB:=Lib.hid (HXB.out.later hq)
    replace HXC:=Lib.hid (HXC.out.later hq)
    replace HB:=Lib.hid (HB.out.trans (hq.mono HB.out.size))
    replace Hx:=Lib.hid (Hx.out.kept hq)
    clear hq
    have Hy:=Hy_
    clear Hy_
    go_wp2_with fail
    refine Calls.mono (norm_join_calls Hx.out HSP.out HLX.out) ?_
    rintro e wn6 ⟨vj,rfl,ht,hq⟩
    have Hj:Hid (TermIn wn6 vj (joinT (partsT (twoT15 38 (twoT15 38 ta tb) tc)))):=ht
    clear ht
    replace HXA:=Lib.hid (HXA.out.later hq)
    replace HXB:=Lib.hid (HXB.out.later hq)
    replace HXC:=Lib.hid (HXC.out.later hq)
    replace HB:=Lib.hid (HB.out.trans (hq.mono HB.out.size))
    replace Hx:=Lib.hid (Hx.out.kept hq)
    replace Hy:=Lib.hid (Hy.out.kept hq)
    clear hq
    go_wp2_with fail
    refine Calls.mono (parts17_calls Hj.out HSJ.out) ?_
    rintro e wn7 ⟨vz,rfl,hk,hq⟩
    have Hz:Hid (KidsIn wn7 vz (partsT (joinT (partsT (twoT15 38 (twoT15 38 ta tb) tc))))):=hk
    clear hk
    replace HXA:=Lib.hid (HXA.out.later hq)
    replace HXB:=Lib.hid (HXB.out.later hq)
    replace HXC:=Lib.hid (HXC.out.later hq)
    replace HB:=Lib.hid (HB.out.trans (hq.mono HB.out.size))
    replace Hx:=Lib.hid (Hx.out.kept hq)
    replace Hy:=Lib.hid (Hy.out.kept hq)
    replace Hj:=Lib.hid (Hj.out.kept hq)
    clear hq
    rw [HPJ.out] at Hz
    go_wp2_with fail
    refine Calls.mono (HAW.out wn7) ?_
    rintro e wn8 ⟨rfl,hq⟩
    replace HXA:=Lib.hid (HXA.out.later hq)
    replace HXB:=Lib.hid (HXB.out.later hq)
    replace HXC:=Lib.hid (HXC.out.later hq)
    replace HB:=Lib.hid (HB.out.trans (hq.mono HB.out.size))
    replace Hx:=Lib.hid (Hx.out.kept hq)
    replace Hy:=Lib.hid (Hy.out.kept hq)
    replace Hj:=Lib.hid (Hj.out.kept hq)
    replace Hz:=Lib.hid (Hz.out.kept hq)
    clear hq
    go_wp2_with fail
    refine Calls.mono (prints17_calls Hx.out HSP.out (Nat.le_trans HLX.out (by decide))) ?_
    rintro e wn9 ⟨vq1,rfl,hk,hq⟩
    have Hq1:Hid (KidsIn wn9 vq1 (printsT (partsT (twoT15 38 (twoT15 38 ta tb) tc)))):=hk
    clear hk
    replace HXA:=Lib.hid (HXA.out.later hq)
    replace HXB:=Lib.hid (HXB.out.later hq)
    replace HXC:=Lib.hid (HXC.out.later hq)
    replace HB:=Lib.hid (HB.out.trans (hq.mono HB.out.size))
    replace Hx:=Lib.hid (Hx.out.kept hq)
    replace Hy:=Lib.hid (Hy.out.kept hq)
    replace Hj:=Lib.hid (Hj.out.kept hq)
    replace Hz:=Lib.hid (Hz.out.kept hq)
    clear hq
    go_wp2_with fail
    refine Calls.mono (prints17_calls Hy.out HSQ.out (Nat.le_trans HLY.out (by decide))) ?_
    rintro e wn10 ⟨vq2,rfl,hk,hq⟩
    have Hq2:Hid (KidsIn wn10 vq2 (printsT (partsT (twoT15 38 tc (twoT15 38 (twoT15 38 tb ta) tb))))):=hk
    clear hk
    replace HXA:=Lib.hid (HXA.out.later hq)
    replace HXB:=Lib.hid (HXB.out.later hq)
    replace HXC:=Lib.hid (HXC.out.later hq)
    replace HB:=Lib.hid (HB.out.trans (hq.mono HB.out.size))
    replace Hx:=Lib.hid (Hx.out.kept hq)
    replace Hy:=Lib.hid (Hy.out.kept hq)
    replace Hj:=Lib.hid (Hj.out.kept hq)
    replace Hz:=Lib.hid (Hz.out.kept hq)
    replace Hq1:=Lib.hid (Hq1.out.kept hq)
    clear hq
    rw [HPR.out] at Hq2
    go_wp2_with fail
    refine Calls.mono (same17_calls Hq1.out Hq2.out) ?_
    rintro e wn11 ⟨rfl,hq⟩
    replace HXA:=Lib.hid (HXA.out.later hq)
    replace HXB:=Lib.hid (HXB.out.later hq)
    replace HXC:=Lib.hid (HXC.out.later hq)
    replace HB:=Lib.hid (HB.out.trans (hq.mono HB.out.size))
    replace Hx:=Lib.hid (Hx.out.kept hq)
    replace Hy:=Lib.hid (Hy.out.kept hq)
    replace Hj:=Lib.hid (Hj.out.kept hq)
    replace Hz:=Lib.hid (Hz.out.kept hq)
    replace Hq1:=Lib.hid (Hq1.out.kept hq)
    replace Hq2:=Lib.hid (Hq2.out.kept hq)
    clear hq
    go_wp2_with fail
    refine Calls.mono (prints17_calls Hz.out HSP.out (Nat.le_trans HLX.out (by decide))) ?_
    rintro e wn12 ⟨vq3,rfl,hk,hq⟩
    have Hq3:Hid (KidsIn wn12 vq3 (printsT (partsT (twoT15 38 (twoT15 38 ta tb) tc)))):=hk
    clear hk
    replace HXA:=Lib.hid (HXA.out.later hq)
    replace HXB:=Lib.hid (HXB.out.later hq)
    replace HXC:=Lib.hid (HXC.out.later hq)
    replace HB:=Lib.hid (HB.out.trans (hq.mono HB.out.size))
    replace Hx:=Lib.hid (Hx.out.kept hq)
    replace Hy:=Lib.hid (Hy.out.kept hq)
    replace Hj:=Lib.hid (Hj.out.kept hq)
    replace Hz:=Lib.hid (Hz.out.kept hq)
    replace Hq1:=Lib.hid (Hq1.out.kept hq)
    replace Hq2:=Lib.hid (Hq2.out.kept hq)
    clear hq
    go_wp2_with fail
    refine Calls.mono (prints17_calls Hx.out HSP.out (Nat.le_trans HLX.out (by decide))) ?_
    rintro e wn13 ⟨vq4,rfl,hk,hq⟩
    have Hq4:Hid (KidsIn wn13 vq4 (printsT (partsT (twoT15 38 (twoT15 38 ta tb) tc)))):=hk
    clear hk
    replace HXA:=Lib.hid (HXA.out.later hq)
    replace HXB:=Lib.hid (HXB.out.later hq)
    replace HXC:=Lib.hid (HXC.out.later hq)
    replace HB:=Lib.hid (HB.out.trans (hq.mono HB.out.size))
    replace Hx:=Lib.hid (Hx.out.kept hq)
    replace Hy:=Lib.hid (Hy.out.kept hq)
    replace Hj:=Lib.hid (Hj.out.kept hq)
    replace Hz:=Lib.hid (Hz.out.kept hq)
    replace Hq1:=Lib.hid (Hq1.out.kept hq)
    replace Hq2:=Lib.hid (Hq2.out.kept hq)
    replace Hq3:=Lib.hid (Hq3.out.kept hq)
    clear hq
    go_wp2_with fail
    refine Calls.mono (same17_calls Hq3.out Hq4.out) ?_
    rintro e wn14 ⟨rfl,hq⟩
    replace HXA:=Lib.hid (HXA.out.later hq)
    replace HXB:=Lib.hid (HXB.out.later hq)
    replace HXC:=Lib.hid (HXC.out.later hq)
    replace HB:=Lib.hid (HB.out.trans (hq.mono HB.out.size))
    replace Hx:=Lib.hid (Hx.out.kept hq)
    replace Hy:=Lib.hid (Hy.out.kept hq)
    replace Hj:=Lib.hid (Hj.out.kept hq)
    replace Hz:=Lib.hid (Hz.out.kept hq)
    replace Hq1:=Lib.hid (Hq1.out.kept hq)
    replace Hq2:=Lib.hid (Hq2.out.kept hq)
    replace Hq3:=Lib.hid (Hq3.out.kept hq)
    replace Hq4:=Lib.hid (Hq4.out.kept hq)
    clear hq
    go_wp2
    go_ret
    exact ⟨rfl,HB.out⟩
end Go.Proofs.Ytnkhkkdmjabhnaa
