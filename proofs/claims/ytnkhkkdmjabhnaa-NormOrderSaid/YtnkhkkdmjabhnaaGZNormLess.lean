/- The law NormLess of layer 17. -/
import Derived.Test.YtnkhkkdmjabhnaaGZNormOrderLaw
namespace Go.Proofs.Ytnkhkkdmjabhnaa
open Go Go.RowKit
def anyP (l:List Trm)(p:List UInt8):Bool:=l.any fun t=>decide (printL t=p)
theorem anyP_snoc (l:List Trm)(p:List UInt8)(i:Nat)(h:i < l.length):anyP (l.take (i+1)) p=(anyP (l.take i) p||decide (printL l[i]=p)):=by
 unfold anyP
 rw [List.take_add_one,List.getElem?_eq_getElem h,List.any_append]
 simp
theorem anyP_of {l:List Trm}{x:Trm}(h:x∈l):anyP l (printL x)=true:=List.any_eq_true.2 ⟨x,h,decide_eq_true rfl⟩
theorem parts_two (a b:Trm):partsT (twoT15 38 a b)=(partsT b).foldl insT (partsT a):=parts_and _ _ _ _
theorem less_mem {a b x:Trm}(h:x∈partsT (twoT15 38 a b)):x∈partsT a∨x∈partsT b:=by
 rw [parts_two] at h
 refine mem_fold_take (k:=(partsT b).length) ?_
 rw [List.take_of_length_le (Nat.le_refl _)]
 exact h
theorem less_len (a b:Trm):(partsT a).length≤(partsT (twoT15 38 a b)).length∧(partsT (twoT15 38 a b)).length≤(partsT a).length+(partsT b).length:=by
 rw [parts_two]
 exact fold_length _ _
theorem less_turn (a b:Trm):(partsT (twoT15 38 a b)).length=(partsT (twoT15 38 b a)).length:=by
 have h:(partsT (twoT15 38 a b)).map printL=(partsT (twoT15 38 b a)).map printL:=prints_one fun p=>by
  rw [leaves_two,leaves_two,List.map_append,List.map_append,List.mem_append,List.mem_append]
  exact Or.comm
 have h2:=congrArg List.length h
 rwa [List.length_map,List.length_map] at h2
theorem less_own (a:Trm):(partsT (twoT15 38 a a)).length=(partsT a).length:=by
 have h:(partsT (twoT15 38 a a)).map printL=(partsT a).map printL:=prints_one fun p=>by
  rw [leaves_two,List.map_append,List.mem_append]
  exact or_self_iff
 have h2:=congrArg List.length h
 rwa [List.length_map,List.length_map] at h2
set_option maxHeartbeats 16000000 in
set_option maxRecDepth 100000 in
theorem normLess_calls {w:World}{va vb:Value}{ta tb:Trm}(ha:TermIn w va ta)(hb:TermIn w vb tb):GivesAt Try.prog 7 #[va,vb] w (.bool true):=by
 have HAW:=Lib.hid awake17_calls
 have HGA:Hid (∀ W,Below w.heap.size w W→GivesAt Try.prog 8 #[va,.int .i64 2] W (.bool (greatN 2 ta))):=fun W hW=>great17_calls ta W va 2 (by decide) (ha.kept hW)
 have HSA:=Lib.hid fun (h:greatN 2 ta=false)=>greatN_sm ha (by decide) h
 have HTA:=Lib.hid ha
 obtain ⟨Pa,pa,rfl⟩:=ha.parts15
 have HGB:Hid (∀ W,Below w.heap.size w W→GivesAt Try.prog 8 #[vb,.int .i64 2] W (.bool (greatN 2 tb))):=fun W hW=>great17_calls tb W vb 2 (by decide) (hb.kept hW)
 have HSB:=Lib.hid fun (h:greatN 2 tb=false)=>greatN_sm hb (by decide) h
 have HTB:=Lib.hid hb
 obtain ⟨Pb,pb,rfl⟩:=hb.parts15
 have ala:=Below.alloc (.refl w.heap.size w) (Nat.le_refl _) (.cells #[.int .u8 ta.op,.int .i64 ta.col,.string ta.cell,.slice Pa ta.kids.length pa] 24)
 have bxa:=trmbox_lit w 24 ta.op ta.col ta.cell (.slice Pa ta.kids.length pa)
 have alb:=Below.alloc (.refl (w.alloc (.cells #[.int .u8 ta.op,.int .i64 ta.col,.string ta.cell,.slice Pa ta.kids.length pa] 24)).heap.size (w.alloc (.cells #[.int .u8 ta.op,.int .i64 ta.col,.string ta.cell,.slice Pa ta.kids.length pa] 24))) (Nat.le_refl _) (.cells #[.int .u8 tb.op,.int .i64 tb.col,.string tb.cell,.slice Pb tb.kids.length pb] 24)
 have bxb:=trmbox_lit (w.alloc (.cells #[.int .u8 ta.op,.int .i64 ta.col,.string ta.cell,.slice Pa ta.kids.length pa] 24)) 24 tb.op tb.col tb.cell (.slice Pb tb.kids.length pb)
 rw [show (w.alloc (.cells #[.int .u8 ta.op,.int .i64 ta.col,.string ta.cell,.slice Pa ta.kids.length pa] 24)).heap.size=w.heap.size+1 by simp] at bxb
 have HXA:=Lib.hid (bxa.later alb)
 have HXB:=Lib.hid bxb
 have HB:=Lib.hid (ala.trans (alb.mono ala.size))
 clear ala bxa ha alb bxb hb
 unfold GivesAt
 go_enter Try.func7,Try.ntmps7
 obtain ⟨a0,a1,a2,a3,_⟩:=HXA.out.cells
 go_wp2_with fail
 generalize World.alloc (World.alloc w _) _=w0 at *
 clear a0 a1 a2 a3
 cases hga:greatN 2 ta with
 | true =>
  rw [hga] at HGA
  clear hga
  obtain ⟨a0,a1,a2,a3,_⟩:=HXA.out.cells
  go_wp2_with fail
  clear a0 a1 a2 a3
  refine Calls.mono (HGA.out w0 HB.out) ?_
  rintro e wn1 ⟨rfl,hq⟩
  replace HXA:=Lib.hid (HXA.out.later hq)
  replace HXB:=Lib.hid (HXB.out.later hq)
  replace HB:=Lib.hid (HB.out.trans (hq.mono HB.out.size))
  clear hq
  go_wp2_with fail
  refine Calls.mono (HAW.out wn1) ?_
  rintro e wn2 ⟨rfl,hq⟩
  replace HXA:=Lib.hid (HXA.out.later hq)
  replace HXB:=Lib.hid (HXB.out.later hq)
  replace HB:=Lib.hid (HB.out.trans (hq.mono HB.out.size))
  clear hq
  go_wp2
  go_ret
  exact ⟨rfl,HB.out⟩
 | false =>
  rw [hga] at HGA
  replace HSA:=Lib.hid (HSA.out hga)
  clear hga
  obtain ⟨a0,a1,a2,a3,_⟩:=HXA.out.cells
  go_wp2_with fail
  clear a0 a1 a2 a3
  refine Calls.mono (HGA.out w0 HB.out) ?_
  rintro e wn1 ⟨rfl,hq⟩
  replace HXA:=Lib.hid (HXA.out.later hq)
  replace HXB:=Lib.hid (HXB.out.later hq)
  replace HB:=Lib.hid (HB.out.trans (hq.mono HB.out.size))
  clear hq
  cases hgb:greatN 2 tb with
  | true =>
   rw [hgb] at HGB
   clear hgb
   obtain ⟨b0,b1,b2,b3,_⟩:=HXB.out.cells
   go_wp2_with fail
   clear b0 b1 b2 b3
   refine Calls.mono (HGB.out wn1 HB.out) ?_
   rintro e wn2 ⟨rfl,hq⟩
   replace HXA:=Lib.hid (HXA.out.later hq)
   replace HXB:=Lib.hid (HXB.out.later hq)
   replace HB:=Lib.hid (HB.out.trans (hq.mono HB.out.size))
   clear hq
   go_wp2_with fail
   refine Calls.mono (HAW.out wn2) ?_
   rintro e wn3 ⟨rfl,hq⟩
   replace HXA:=Lib.hid (HXA.out.later hq)
   replace HXB:=Lib.hid (HXB.out.later hq)
   replace HB:=Lib.hid (HB.out.trans (hq.mono HB.out.size))
   clear hq
   go_wp2
   go_ret
   exact ⟨rfl,HB.out⟩
  | false =>
   rw [hgb] at HGB
   replace HSB:=Lib.hid (HSB.out hgb)
   clear hgb
   obtain ⟨b0,b1,b2,b3,_⟩:=HXB.out.cells
   go_wp2_with fail
   clear b0 b1 b2 b3
   refine Calls.mono (HGB.out wn1 HB.out) ?_
   rintro e wn2 ⟨rfl,hq⟩
   replace HXA:=Lib.hid (HXA.out.later hq)
   replace HXB:=Lib.hid (HXB.out.later hq)
   replace HB:=Lib.hid (HB.out.trans (hq.mono HB.out.size))
   clear hq
   have HSZ:Hid (Sm17 (twoT15 38 ta tb)∧Sm17 (twoT15 38 ta ta)):=by
    obtain ⟨a1,a2,a3⟩:=HSA.out
    obtain ⟨b1,b2,b3⟩:=HSB.out
    exact ⟨sm17_two (by decide) (by decide) a3 b3 (by omega),sm17_two (by decide) (by decide) a3 a3 (by omega)⟩
   clear HGA HGB
   go_wp2_with fail
   refine wp_region_calm (offC wn2) (fun _=>false) (fun _=>false) anyE false (by kernel_rfl) (by kernel_rfl) (by kernel_rfl) (by kernel_rfl) (by intro m hm;revert hm;simp;try omega) (offC_stable _) (offC_start _) ?_
   refine calm_fixA rfl rfl ?_
   apply Exists.intro
   refine ⟨fun a wz hc hk hf K hK=>?_,?_⟩
   ·have hb:Below wn2.heap.size wn2 wz:=hc rfl
    have h2:=hk 2 (by kernel_rfl)
    clear hk hf hc
    obtain ⟨a0,a1,a2,a3,_⟩:=(HXA.out.later hb).cells
    go_simp
    exact hK _ _ (Below.refl _ _) rfl
   refine calm_varA (fun u wx=>KidsIn wx u (partsT ta)) rfl rfl (fun u w w' hb h=>KidsQ.kept h hb) (fun a wz hc hk hf K hK=>?_) ?_
   ·have hb:Below wn2.heap.size wn2 wz:=hc rfl
    have h19:=held_isV hf 0 rfl (by kernel_rfl)
    clear hk hf hc
    go_simp
    refine Calls.mono (parts17_calls (HTA.out.kept (HB.out.trans (hb.mono HB.out.size))) HSA.out.2.2) ?_
    rintro e w1 ⟨u,rfl,hk,hq⟩
    exact hK _ _ hq (fun _=>hk)
   refine calm_fixA rfl rfl ?_
   apply Exists.intro
   refine ⟨fun a wz hc hk hf K hK=>?_,?_⟩
   ·have hb:Below wn2.heap.size wn2 wz:=hc rfl
    have h3:=hk 3 (by kernel_rfl)
    clear hk hf hc
    obtain ⟨b0,b1,b2,b3,_⟩:=(HXB.out.later hb).cells
    go_simp
    exact hK _ _ (Below.refl _ _) rfl
   refine calm_varA (fun u wx=>KidsIn wx u (partsT tb)) rfl rfl (fun u w w' hb h=>KidsQ.kept h hb) (fun a wz hc hk hf K hK=>?_) ?_
   ·have hb:Below wn2.heap.size wn2 wz:=hc rfl
    have h21:=held_isV hf 0 rfl (by kernel_rfl)
    clear hk hf hc
    go_simp
    refine Calls.mono (parts17_calls (HTB.out.kept (HB.out.trans (hb.mono HB.out.size))) HSB.out.2.2) ?_
    rintro e w1 ⟨u,rfl,hk,hq⟩
    exact hK _ _ hq (fun _=>hk)
   refine calm_fixA rfl rfl ?_
   apply Exists.intro
   refine ⟨fun a wz hc hk hf K hK=>?_,?_⟩
   ·have hb:Below wn2.heap.size wn2 wz:=hc rfl
    have h2:=hk 2 (by kernel_rfl)
    clear hk hf hc
    obtain ⟨a0,a1,a2,a3,_⟩:=(HXA.out.later hb).cells
    go_simp
    exact hK _ _ (Below.refl _ _) rfl
   refine calm_fixA rfl rfl ?_
   apply Exists.intro
   refine ⟨fun a wz hc hk hf K hK=>?_,?_⟩
   ·have hb:Below wn2.heap.size wn2 wz:=hc rfl
    have h3:=hk 3 (by kernel_rfl)
    clear hk hf hc
    obtain ⟨b0,b1,b2,b3,_⟩:=(HXB.out.later hb).cells
    go_simp
    exact hK _ _ (Below.refl _ _) rfl
   refine calm_varA (fun u wx=>TermIn wx u (twoT15 38 ta tb)) rfl rfl (fun u w w' hb h=>TermQ.kept17 hb h) (fun a wz hc hk hf K hK=>?_) ?_
   ·have hb:Below wn2.heap.size wn2 wz:=hc rfl
    have h23:=held_isV hf 1 rfl (by kernel_rfl)
    have h24:=held_isV hf 0 rfl (by kernel_rfl)
    clear hk hf hc
    go_simp
    refine Calls.mono (two17_calls 38 (by decide) (by decide) (HTA.out.kept (HB.out.trans (hb.mono HB.out.size))) (HTB.out.kept (HB.out.trans (hb.mono HB.out.size)))) ?_
    rintro e w1 ⟨v,rfl,ht,hq⟩
    exact hK _ _ hq (fun _=>ht)
   refine calm_varA (fun u wx=>KidsIn wx u (partsT (twoT15 38 ta tb))) rfl rfl (fun u w w' hb h=>KidsQ.kept h hb) (fun a wz hc hk hf K hK=>?_) ?_
   ·have hb:Below wn2.heap.size wn2 wz:=hc rfl
    obtain ⟨v25,h25,S25⟩:=held_at hf 0 rfl (by kernel_rfl)
    clear hk hf hc
    go_simp
    refine Calls.mono (parts17_calls (S25 rfl) HSZ.out.1) ?_
    rintro e w1 ⟨u,rfl,hk,hq⟩
    exact hK _ _ hq (fun _=>hk)
   refine calm_varA (fun u wx=>KidsIn wx u (partsT ta)) rfl rfl (fun u w w' hb h=>KidsQ.kept h hb) (fun a wz hc hk hf K hK=>?_) ?_
   ·have hb:Below wn2.heap.size wn2 wz:=hc rfl
    obtain ⟨v20,h20,S20⟩:=held_at hf 6 rfl (by kernel_rfl)
    clear hk hf hc
    go_simp
    exact hK _ _ (Below.refl _ _) fun _=>S20 rfl
   refine calm_varA (fun u wx=>KidsIn wx u (partsT tb)) rfl rfl (fun u w w' hb h=>KidsQ.kept h hb) (fun a wz hc hk hf K hK=>?_) ?_
   ·have hb:Below wn2.heap.size wn2 wz:=hc rfl
    obtain ⟨v22,h22,S22⟩:=held_at hf 5 rfl (by kernel_rfl)
    clear hk hf hc
    go_simp
    exact hK _ _ (Below.refl _ _) fun _=>S22 rfl
   refine calm_varA (fun u wx=>KidsIn wx u (partsT (twoT15 38 ta tb))) rfl rfl (fun u w w' hb h=>KidsQ.kept h hb) (fun a wz hc hk hf K hK=>?_) ?_
   ·have hb:Below wn2.heap.size wn2 wz:=hc rfl
    obtain ⟨v26,h26,S26⟩:=held_at hf 2 rfl (by kernel_rfl)
    clear hk hf hc
    go_simp
    exact hK _ _ (Below.refl _ _) fun _=>S26 rfl
   refine calm_nil ?_
   refine ⟨keeps_none,?_⟩
   intro wn3 hc
   simp only [lexL,calmEnd]
   rintro _ rfl v20 S20 _ rfl v22 S22 _ rfl _ rfl v25 S25 v26 S26 v5 S5 v6 S6 v7 S7
   have hq:Below wn2.heap.size wn2 wn3:=hc rfl
   have Hx_:Hid (KidsIn wn3 v5 (partsT ta)):=S5 rfl
   have Hy_:Hid (KidsIn wn3 v6 (partsT tb)):=S6 rfl
   have Hz_:Hid (KidsIn wn3 v7 (partsT (twoT15 38 ta tb))):=S7 rfl
   clear hc S20 S22 S25 S26 S5 S6 S7
   simp only [Act.put,List.setIfInBounds_toArray,List.set_cons_zero,List.set_cons_succ]
   replace HXA:=Lib.hid (HXA.out.later hq)
   replace HXB:=Lib.hid (HXB.out.later hq)
   replace HB:=Lib.hid (HB.out.trans (hq.mono HB.out.size))
   clear hq
   have Hx:=Hx_
   clear Hx_
   have Hy:=Hy_
   clear Hy_
   have Hz:=Hz_
   clear Hz_
   obtain ⟨Ax,px,ex,-⟩:=kids_at Hx.out
   obtain ⟨Ay,py,ey,-⟩:=kids_at Hy.out
   obtain ⟨Az,pz_,ez,-⟩:=kids_at Hz.out
   subst ex
   subst ey
   subst ez
   have HLZ:=Lib.hid (less_len ta tb)
   have HLY:=Lib.hid (less_len tb ta)
   rw [less_turn tb ta] at HLY
   have HLW:=Lib.hid (less_own ta)
   have HLX:Hid ((partsT ta).length≤512∧(partsT tb).length≤512):=⟨Nat.le_trans (parts_le ta) HSA.out.2.1,Nat.le_trans (parts_le tb) HSB.out.2.1⟩
   have HSx:Hid (∀ x∈partsT ta,Sm17 x):=fun x hx=>sm_parts HSA.out.2.2 hx
   have HSy:Hid (∀ x∈partsT tb,Sm17 x):=fun x hx=>sm_parts HSB.out.2.2 hx
   have HSz:Hid (∀ x∈partsT (twoT15 38 ta tb),Sm17 x):=fun x hx=>sm_parts HSZ.out.1 hx
   have HME:Hid (∀ x∈partsT (twoT15 38 ta tb),x∈partsT ta∨x∈partsT tb):=fun x hx=>less_mem hx
   obtain ⟨nx,hnx⟩:∃ n,(partsT ta).length=n:=⟨_,rfl⟩
   have HNx:Hid ((partsT ta).length=nx):=hnx
   obtain ⟨ny,hny⟩:∃ n,(partsT tb).length=n:=⟨_,rfl⟩
   have HNy:Hid ((partsT tb).length=ny):=hny
   obtain ⟨nz,hnz⟩:∃ n,(partsT (twoT15 38 ta tb)).length=n:=⟨_,rfl⟩
   have HNz:Hid ((partsT (twoT15 38 ta tb)).length=nz):=hnz
   rw [hnx] at HLZ HLX HLW Hx
   rw [hny] at HLZ HLX HLY Hy
   rw [hnz] at HLZ HLY Hz
   rw [hnx,hny,hnz]
   clear hnx hny hnz
   have HN1:Hid (nx≤512∧ny≤512∧nz≤1024):=by
    have h1:=HLX.out
    have h2:=HLZ.out
    show _∧_∧_
    omega
   have hz1:=HLZ.out.2
   have dq:IntKind.i64.wrap ((nx:Int)+(ny:Int))=(nx:Int)+(ny:Int):=by have:=HN1.out;rw [IntKind.wrap_i64];omega
   have dg:decide ((nx:Int)+(ny:Int) < (nz:Int))=false:=decide_eq_false (by omega)
   have dg2:¬nx+ny < nz:=by omega
   clear hz1
   obtain ⟨a0,a1,a2,a3,_⟩:=HXA.out.cells
   go_wp2_with fail
   refine Calls.mono (two17_calls 38 (by decide) (by decide) (HTA.out.kept HB.out) (HTA.out.kept HB.out)) ?_
   rintro e wn4 ⟨vq,rfl,ht,hq⟩
   have Hq:Hid (TermIn wn4 vq (twoT15 38 ta ta)):=ht
   clear ht
   replace HXA:=Lib.hid (HXA.out.later hq)
   replace HXB:=Lib.hid (HXB.out.later hq)
   replace HB:=Lib.hid (HB.out.trans (hq.mono HB.out.size))
   replace Hx:=Lib.hid (Hx.out.kept hq)
   replace Hy:=Lib.hid (Hy.out.kept hq)
   replace Hz:=Lib.hid (Hz.out.kept hq)
   clear hq
   clear a0 a1 a2 a3
   go_wp2_with fail
   refine Calls.mono (parts17_calls Hq.out HSZ.out.2) ?_
   rintro e wn5 ⟨vr,rfl,hk,hq⟩
   have Hr:Hid (KidsIn wn5 vr (partsT (twoT15 38 ta ta))):=hk
   clear hk
   replace HXA:=Lib.hid (HXA.out.later hq)
   replace HXB:=Lib.hid (HXB.out.later hq)
   replace HB:=Lib.hid (HB.out.trans (hq.mono HB.out.size))
   replace Hx:=Lib.hid (Hx.out.kept hq)
   replace Hy:=Lib.hid (Hy.out.kept hq)
   replace Hz:=Lib.hid (Hz.out.kept hq)
   replace Hq:=Lib.hid (Hq.out.kept hq)
   clear hq
   obtain ⟨Ar,pr,er,-⟩:=kids_at Hr.out
   rw [HLW.out] at er
   subst er
   go_wp2
   clear dg dg2 dq Hq Hr HXA HXB HTA HTB
   have HBW:Hid (Below w.heap.size w wn5):=HB
   have HX0:=Hx
   have HY0:=Hy
   have HZ0:=Hz
   clear Hx Hy Hz HB
   generalize wn5=wz0 at *
   have Hx:=HX0
   have Hy:=HY0
   have Hz:=HZ0
   clear HX0 HY0 HZ0
   go_loopw [8] (fun zx wi=>∃ i:Nat,i≤nz∧zx=.int .i64 i∧Hid (Below wz0.heap.size wz0 wi)) (fun zx _=>nz-(intOf zx).toNat)
   case atStart=>exact ⟨0,Nat.zero_le _,rfl,Lib.hid (.refl _ _)⟩
   case round =>
    obtain ⟨i,hi,rfl,HBI⟩:=hrel
    by_cases hltz:i < nz
    ·have hiz:i < (partsT (twoT15 38 ta tb)).length:=by rw [HNz.out];exact hltz
     obtain ⟨bz,oz,A2,p2,ea,hbz,hcz,htz⟩:=kid_cells Hz.out hiz
     subst ea
     have HCZ:=Lib.hid hcz
     have HPZ:=Lib.hid fun W (hW:Below wz0.heap.size wz0 W)=>norm_print_calls (htz.kept hW) (HSz.out _ (List.getElem_mem hiz))
     have HANY:Hid ((anyP (partsT ta) (printL (partsT (twoT15 38 ta tb))[i])||anyP (partsT tb) (printL (partsT (twoT15 38 ta tb))[i]))=true):=by
      show _=_
      rcases HME.out _ (List.getElem_mem hiz) with h|h
      ·rw [anyP_of h];rfl
      ·rw [anyP_of h,Bool.or_true]
     obtain ⟨pz,hpz⟩:∃ x,printL (partsT (twoT15 38 ta tb))[i]=x:=⟨_,rfl⟩
     rw [hpz] at HPZ HANY
     obtain ⟨PZ,hPZ0⟩:∃ x,mkB pz=x:=⟨_,rfl⟩
     have hPZ:Hid (mkB pz=PZ):=hPZ0
     rw [hPZ0] at HPZ
     have iz1:(i:Int) < (nz:Int):=by omega
     have qz:IntKind.i64.wrap ((i:Int)+1)=(i:Int)+1:=by have:=HN1.out;rw [IntKind.wrap_i64];omega
     have HLTZ:Hid (i < nz):=hltz
     clear hcz htz hltz hi hpz hPZ0
     generalize (partsT (twoT15 38 ta tb))[i].kids.length=nkz at *
     generalize (partsT (twoT15 38 ta tb))[i].op=oz1 at *
     generalize (partsT (twoT15 38 ta tb))[i].col=oz2 at *
     generalize (partsT (twoT15 38 ta tb))[i].cell=oz3 at *
     clear hiz
     go_wp2
     go_loopw [9,10] (fun bx kx wk=>∃ k:Nat,k≤nx∧kx=.int .i64 k∧bx=.bool (anyP ((partsT ta).take k) pz)∧Hid (Below wz0.heap.size wz0 wk)) (fun _ kx _=>nx-(intOf kx).toNat)
     case atStart=>exact ⟨0,Nat.zero_le _,rfl,by simp [anyP],HBI⟩
     case round =>
      clear HBI
      obtain ⟨k,hk,rfl,rfl,HBK⟩:=hrel
      by_cases hlt:k < nx
      ·have hkl:k < (partsT ta).length:=by rw [HNx.out];exact hlt
       obtain ⟨b1,o1,A1,p1,ea,hb0,hc,htk⟩:=kid_cells Hx.out hkl
       subst ea
       have HC1:=Lib.hid hc
       have HP1:=Lib.hid fun W (hW:Below wz0.heap.size wz0 W)=>norm_print_calls (htk.kept hW) (HSx.out _ (List.getElem_mem hkl))
       have HAL:Hid ((anyP ((partsT ta).take (k+1)) pz)=((anyP ((partsT ta).take k) pz)||decide (printL (partsT ta)[k]=pz))):=by show _=_;rw [anyP_snoc _ _ _ hkl]
       obtain ⟨PX,hPX⟩:∃ x,mkB (printL (partsT ta)[k])=x:=⟨_,rfl⟩
       have HEB:Hid ((PX.toList==PZ.toList)=decide (printL (partsT ta)[k]=pz)):=by
        show _=_
        rw [←hPX,←hPZ.out,ByteArray.toList_eq,ByteArray.toList_eq,mkB_data,mkB_data]
        rw [Bool.eq_iff_iff,beq_iff_eq,decide_eq_true_iff]
       rw [hPX] at HP1
       rw [←HEB.out] at HAL
       obtain ⟨bk,hbk⟩:∃ x,(anyP ((partsT ta).take k) pz)=x:=⟨_,rfl⟩
       rw [hbk] at HAL ⊢
       have i1:(k:Int) < (nx:Int):=by omega
       have q1:IntKind.i64.wrap ((k:Int)+1)=(k:Int)+1:=by have:=HN1.out;rw [IntKind.wrap_i64];omega
       have HLT:Hid (k < nx):=hlt
       clear hc htk hlt hk hPX HEB hbk
       generalize (partsT ta)[k].kids.length=nk at *
       generalize (partsT ta)[k].op=ok1 at *
       generalize (partsT ta)[k].col=ok2 at *
       generalize (partsT ta)[k].cell=ok3 at *
       clear hkl
       cases bk with
       | true =>
        have HAN:Hid ((anyP ((partsT ta).take (k+1)) pz)=true):=by show _=_;rw [HAL.out];rfl
        clear HAL
        go_wp2_with fail
        refine wp_region_calm (offC wr) (fun _=>false) (fun _=>false) anyE false (by kernel_rfl) (by kernel_rfl) (by kernel_rfl) (by kernel_rfl) (by intro m hm;revert hm;simp;try omega) (offC_stable _) (offC_start _) ?_
        refine calm_fixA rfl rfl ?_
        apply Exists.intro
        refine ⟨fun a wz hc hk hf K hK=>?_,?_⟩
        ·have h9:=hk 9 (by kernel_rfl)
         clear hk hf hc
         go_simp
         exact hK _ _ (Below.refl _ _) rfl
        refine calm_fixA rfl rfl ?_
        apply Exists.intro
        refine ⟨fun a wz hc hk hf K hK=>?_,?_⟩
        ·have h57:=held_isV hf 0 rfl (by kernel_rfl)
         clear hk hf hc
         go_simp
         exact hK _ _ (Below.refl _ _) rfl
        refine calm_fixA rfl rfl ?_
        apply Exists.intro
        refine ⟨fun a wz hc hk hf K hK=>?_,?_⟩
        ·have h5:=hk 5 (by kernel_rfl)
         have h58:=held_isV hf 0 rfl (by kernel_rfl)
         clear hk hf hc
         go_simp
         exact hK _ _ (Below.refl _ _) rfl
        refine calm_fixA rfl rfl ?_
        apply Exists.intro
        refine ⟨fun a wz hc hk hf K hK=>?_,?_⟩
        ·have h10:=hk 10 (by kernel_rfl)
         have h58:=held_isV hf 1 rfl (by kernel_rfl)
         clear hk hf hc
         go_simp
         exact hK _ _ (Below.refl _ _) rfl
        refine calm_fixA rfl rfl ?_
        apply Exists.intro
        refine ⟨fun a wz hc hk hf K hK=>?_,?_⟩
        ·have h59:=held_isV hf 1 rfl (by kernel_rfl)
         have h60:=held_isV hf 0 rfl (by kernel_rfl)
         have h58:=held_isV hf 2 rfl (by kernel_rfl)
         clear hk hf hc
         go_simp
         exact hK _ _ (Below.refl _ _) rfl
        refine calm_fixA rfl rfl ?_
        apply Exists.intro
        refine ⟨fun a wz hc hk hf K hK=>?_,?_⟩
        ·have hb:Below wr.heap.size wr wz:=hc rfl
         have h61:=held_isV hf 0 rfl (by kernel_rfl)
         have h58:=held_isV hf 3 rfl (by kernel_rfl)
         clear hk hf hc
         go_simp
         exact hK _ _ (Below.refl _ _) rfl
        refine calm_fixA rfl rfl ?_
        apply Exists.intro
        refine ⟨fun a wz hc hk hf K hK=>?_,?_⟩
        ·have h62:=held_isV hf 0 rfl (by kernel_rfl)
         have h58:=held_isV hf 4 rfl (by kernel_rfl)
         clear hk hf hc
         go_simp
         exact hK _ _ (Below.refl _ _) rfl
        refine calm_fixA rfl rfl ?_
        apply Exists.intro
        refine ⟨fun a wz hc hk hf K hK=>?_,?_⟩
        ·have h7:=hk 7 (by kernel_rfl)
         have h58:=held_isV hf 5 rfl (by kernel_rfl)
         clear hk hf hc
         go_simp
         exact hK _ _ (Below.refl _ _) rfl
        refine calm_fixA rfl rfl ?_
        apply Exists.intro
        refine ⟨fun a wz hc hk hf K hK=>?_,?_⟩
        ·have h8:=hk 8 (by kernel_rfl)
         have h58:=held_isV hf 6 rfl (by kernel_rfl)
         clear hk hf hc
         go_simp
         exact hK _ _ (Below.refl _ _) rfl
        refine calm_fixA rfl rfl ?_
        apply Exists.intro
        refine ⟨fun a wz hc hk hf K hK=>?_,?_⟩
        ·have h64:=held_isV hf 1 rfl (by kernel_rfl)
         have h65:=held_isV hf 0 rfl (by kernel_rfl)
         have h58:=held_isV hf 7 rfl (by kernel_rfl)
         clear hk hf hc
         go_simp
         exact hK _ _ (Below.refl _ _) rfl
        refine calm_fixA rfl rfl ?_
        apply Exists.intro
        refine ⟨fun a wz hc hk hf K hK=>?_,?_⟩
        ·have hb:Below wr.heap.size wr wz:=hc rfl
         have h66:=held_isV hf 0 rfl (by kernel_rfl)
         have h58:=held_isV hf 8 rfl (by kernel_rfl)
         clear hk hf hc
         go_simp
         exact hK _ _ (Below.refl _ _) rfl
        refine calm_fixA rfl rfl ?_
        apply Exists.intro
        refine ⟨fun a wz hc hk hf K hK=>?_,?_⟩
        ·have h67:=held_isV hf 0 rfl (by kernel_rfl)
         have h58:=held_isV hf 9 rfl (by kernel_rfl)
         clear hk hf hc
         go_simp
         exact hK _ _ (Below.refl _ _) rfl
        refine calm_fixA rfl rfl ?_
        apply Exists.intro
        refine ⟨fun a wz hc hk hf K hK=>?_,?_⟩
        ·have h63:=held_isV hf 5 rfl (by kernel_rfl)
         have h68:=held_isV hf 0 rfl (by kernel_rfl)
         have h58:=held_isV hf 10 rfl (by kernel_rfl)
         clear hk hf hc
         go_simp
         exact hK _ _ (Below.refl _ _) rfl
        refine calm_fixA rfl rfl ?_
        apply Exists.intro
        refine ⟨fun a wz hc hk hf K hK=>?_,?_⟩
        ·have h58:=held_isV hf 11 rfl (by kernel_rfl)
         have h69:=held_isV hf 0 rfl (by kernel_rfl)
         clear hk hf hc
         go_simp
         exact hK _ _ (Below.refl _ _) rfl
        refine calm_fixA rfl rfl ?_
        apply Exists.intro
        refine ⟨fun a wz hc hk hf K hK=>?_,?_⟩
        ·have h70:=held_isV hf 0 rfl (by kernel_rfl)
         clear hk hf hc
         go_simp
         exact hK _ _ (Below.refl _ _) rfl
        refine calm_nil ?_
        refine ⟨keeps_none,?_⟩
        intro w9 hc
        simp only [lexL,calmEnd]
        rintro _ rfl _ rfl _ rfl _ rfl _ rfl _ rfl _ rfl _ rfl _ rfl _ rfl _ rfl _ rfl _ rfl _ rfl _ rfl
        have hq:Below wr.heap.size wr w9:=hc rfl
        have HBN:=Lib.hid (HBK.out.trans (hq.mono HBK.out.size))
        clear hc hq
        simp only [Act.put,List.setIfInBounds_toArray,List.set_cons_zero,List.set_cons_succ]
        go_wp2
        go_roundw
        case rel=>exact ⟨k+1,HLT.out,by go_num,by rw [HAN.out],HBN⟩
        case measure=>have:=HLT.out;simp [intOf];omega
       | false =>
        have HAN:Hid ((anyP ((partsT ta).take (k+1)) pz)=(PX.toList==PZ.toList)):=by show _=_;rw [HAL.out];rfl
        clear HAL
        go_wp2_with fail
        refine wp_region_calm (offC wr) (fun _=>false) (fun _=>false) anyE false (by kernel_rfl) (by kernel_rfl) (by kernel_rfl) (by kernel_rfl) (by intro m hm;revert hm;simp;try omega) (offC_stable _) (offC_start _) ?_
        refine calm_fixA rfl rfl ?_
        apply Exists.intro
        refine ⟨fun a wz hc hk hf K hK=>?_,?_⟩
        ·have h9:=hk 9 (by kernel_rfl)
         clear hk hf hc
         go_simp
         exact hK _ _ (Below.refl _ _) rfl
        refine calm_fixA rfl rfl ?_
        apply Exists.intro
        refine ⟨fun a wz hc hk hf K hK=>?_,?_⟩
        ·have h57:=held_isV hf 0 rfl (by kernel_rfl)
         clear hk hf hc
         go_simp
         exact hK _ _ (Below.refl _ _) rfl
        refine calm_fixA rfl rfl ?_
        apply Exists.intro
        refine ⟨fun a wz hc hk hf K hK=>?_,?_⟩
        ·have h5:=hk 5 (by kernel_rfl)
         have h58:=held_isV hf 0 rfl (by kernel_rfl)
         clear hk hf hc
         go_simp
         exact hK _ _ (Below.refl _ _) rfl
        refine calm_fixA rfl rfl ?_
        apply Exists.intro
        refine ⟨fun a wz hc hk hf K hK=>?_,?_⟩
        ·have h10:=hk 10 (by kernel_rfl)
         have h58:=held_isV hf 1 rfl (by kernel_rfl)
         clear hk hf hc
         go_simp
         exact hK _ _ (Below.refl _ _) rfl
        refine calm_fixA rfl rfl ?_
        apply Exists.intro
        refine ⟨fun a wz hc hk hf K hK=>?_,?_⟩
        ·have h59:=held_isV hf 1 rfl (by kernel_rfl)
         have h60:=held_isV hf 0 rfl (by kernel_rfl)
         have h58:=held_isV hf 2 rfl (by kernel_rfl)
         clear hk hf hc
         go_simp
         exact hK _ _ (Below.refl _ _) rfl
        refine calm_fixA rfl rfl ?_
        apply Exists.intro
        refine ⟨fun a wz hc hk hf K hK=>?_,?_⟩
        ·have hb:Below wr.heap.size wr wz:=hc rfl
         have h61:=held_isV hf 0 rfl (by kernel_rfl)
         have h58:=held_isV hf 3 rfl (by kernel_rfl)
         clear hk hf hc
         obtain ⟨k0,k1_,k2,k3⟩:=HC1.out.kept hb0 (HBK.out.trans (hb.mono HBK.out.size))
         go_simp
         exact hK _ _ (Below.refl _ _) rfl
        refine calm_fixA rfl rfl ?_
        apply Exists.intro
        refine ⟨fun a wz hc hk hf K hK=>?_,?_⟩
        ·have hb:Below wr.heap.size wr wz:=hc rfl
         have h62:=held_isV hf 0 rfl (by kernel_rfl)
         have h58:=held_isV hf 4 rfl (by kernel_rfl)
         clear hk hf hc
         go_simp
         refine Calls.mono (HP1.out wz (HBK.out.trans (hb.mono HBK.out.size))) ?_
         rintro e w1 ⟨rfl,hq⟩
         exact hK _ _ hq rfl
        refine calm_fixA rfl rfl ?_
        apply Exists.intro
        refine ⟨fun a wz hc hk hf K hK=>?_,?_⟩
        ·have h7:=hk 7 (by kernel_rfl)
         have h58:=held_isV hf 5 rfl (by kernel_rfl)
         clear hk hf hc
         go_simp
         exact hK _ _ (Below.refl _ _) rfl
        refine calm_fixA rfl rfl ?_
        apply Exists.intro
        refine ⟨fun a wz hc hk hf K hK=>?_,?_⟩
        ·have h8:=hk 8 (by kernel_rfl)
         have h58:=held_isV hf 6 rfl (by kernel_rfl)
         clear hk hf hc
         go_simp
         exact hK _ _ (Below.refl _ _) rfl
        refine calm_fixA rfl rfl ?_
        apply Exists.intro
        refine ⟨fun a wz hc hk hf K hK=>?_,?_⟩
        ·have h64:=held_isV hf 1 rfl (by kernel_rfl)
         have h65:=held_isV hf 0 rfl (by kernel_rfl)
         have h58:=held_isV hf 7 rfl (by kernel_rfl)
         clear hk hf hc
         go_simp
         exact hK _ _ (Below.refl _ _) rfl
        refine calm_fixA rfl rfl ?_
        apply Exists.intro
        refine ⟨fun a wz hc hk hf K hK=>?_,?_⟩
        ·have hb:Below wr.heap.size wr wz:=hc rfl
         have h66:=held_isV hf 0 rfl (by kernel_rfl)
         have h58:=held_isV hf 8 rfl (by kernel_rfl)
         clear hk hf hc
         obtain ⟨k0,k1_,k2,k3⟩:=HCZ.out.kept hbz (HBK.out.trans (hb.mono HBK.out.size))
         go_simp
         exact hK _ _ (Below.refl _ _) rfl
        refine calm_fixA rfl rfl ?_
        apply Exists.intro
        refine ⟨fun a wz hc hk hf K hK=>?_,?_⟩
        ·have hb:Below wr.heap.size wr wz:=hc rfl
         have h67:=held_isV hf 0 rfl (by kernel_rfl)
         have h58:=held_isV hf 9 rfl (by kernel_rfl)
         clear hk hf hc
         go_simp
         refine Calls.mono (HPZ.out wz (HBK.out.trans (hb.mono HBK.out.size))) ?_
         rintro e w1 ⟨rfl,hq⟩
         exact hK _ _ hq rfl
        refine calm_fixA rfl rfl ?_
        apply Exists.intro
        refine ⟨fun a wz hc hk hf K hK=>?_,?_⟩
        ·have h63:=held_isV hf 5 rfl (by kernel_rfl)
         have h68:=held_isV hf 0 rfl (by kernel_rfl)
         have h58:=held_isV hf 10 rfl (by kernel_rfl)
         clear hk hf hc
         go_simp
         exact hK _ _ (Below.refl _ _) rfl
        refine calm_fixA rfl rfl ?_
        apply Exists.intro
        refine ⟨fun a wz hc hk hf K hK=>?_,?_⟩
        ·have h58:=held_isV hf 11 rfl (by kernel_rfl)
         have h69:=held_isV hf 0 rfl (by kernel_rfl)
         clear hk hf hc
         go_simp
         exact hK _ _ (Below.refl _ _) rfl
        refine calm_fixA rfl rfl ?_
        apply Exists.intro
        refine ⟨fun a wz hc hk hf K hK=>?_,?_⟩
        ·have h70:=held_isV hf 0 rfl (by kernel_rfl)
         clear hk hf hc
         go_simp
         exact hK _ _ (Below.refl _ _) rfl
        refine calm_nil ?_
        refine ⟨keeps_none,?_⟩
        intro w9 hc
        simp only [lexL,calmEnd]
        rintro _ rfl _ rfl _ rfl _ rfl _ rfl _ rfl _ rfl _ rfl _ rfl _ rfl _ rfl _ rfl _ rfl _ rfl _ rfl
        have hq:Below wr.heap.size wr w9:=hc rfl
        have HBN:=Lib.hid (HBK.out.trans (hq.mono HBK.out.size))
        clear hc hq
        simp only [Act.put,List.setIfInBounds_toArray,List.set_cons_zero,List.set_cons_succ]
        go_wp2
        go_roundw
        case rel=>exact ⟨k+1,HLT.out,by go_num,by rw [HAN.out],HBN⟩
        case measure=>have:=HLT.out;simp [intOf];omega
      ·obtain rfl:k=nx:=by omega
       rw [List.take_of_length_le (by rw [HNx.out];exact Nat.le_refl _)]
       have HBI:=HBK
       clear HBK hlt hk
       go_wp2
       go_loopw [9,11] (fun bx kx wk=>∃ k:Nat,k≤ny∧kx=.int .i64 k∧bx=.bool (anyP (partsT ta) pz||anyP ((partsT tb).take k) pz)∧Hid (Below wz0.heap.size wz0 wk)) (fun _ kx _=>ny-(intOf kx).toNat)
       case atStart=>exact ⟨0,Nat.zero_le _,rfl,by simp [anyP],HBI⟩
       case round =>
        clear HBI
        obtain ⟨k,hk,rfl,rfl,HBK⟩:=hrel
        by_cases hlt:k < ny
        ·have hkl:k < (partsT tb).length:=by rw [HNy.out];exact hlt
         obtain ⟨b1,o1,A1,p1,ea,hb0,hc,htk⟩:=kid_cells Hy.out hkl
         subst ea
         have HC1:=Lib.hid hc
         have HP1:=Lib.hid fun W (hW:Below wz0.heap.size wz0 W)=>norm_print_calls (htk.kept hW) (HSy.out _ (List.getElem_mem hkl))
         have HAL:Hid ((anyP (partsT ta) pz||anyP ((partsT tb).take (k+1)) pz)=((anyP (partsT ta) pz||anyP ((partsT tb).take k) pz)||decide (printL (partsT tb)[k]=pz))):=by show _=_;rw [anyP_snoc _ _ _ hkl];rw [Bool.or_assoc]
         obtain ⟨PX,hPX⟩:∃ x,mkB (printL (partsT tb)[k])=x:=⟨_,rfl⟩
         have HEB:Hid ((PX.toList==PZ.toList)=decide (printL (partsT tb)[k]=pz)):=by
          show _=_
          rw [←hPX,←hPZ.out,ByteArray.toList_eq,ByteArray.toList_eq,mkB_data,mkB_data]
          rw [Bool.eq_iff_iff,beq_iff_eq,decide_eq_true_iff]
         rw [hPX] at HP1
         rw [←HEB.out] at HAL
         obtain ⟨bk,hbk⟩:∃ x,(anyP (partsT ta) pz||anyP ((partsT tb).take k) pz)=x:=⟨_,rfl⟩
         rw [hbk] at HAL ⊢
         have i1:(k:Int) < (ny:Int):=by omega
         have q1:IntKind.i64.wrap ((k:Int)+1)=(k:Int)+1:=by have:=HN1.out;rw [IntKind.wrap_i64];omega
         have HLT:Hid (k < ny):=hlt
         clear hc htk hlt hk hPX HEB hbk
         generalize (partsT tb)[k].kids.length=nk at *
         generalize (partsT tb)[k].op=ok1 at *
         generalize (partsT tb)[k].col=ok2 at *
         generalize (partsT tb)[k].cell=ok3 at *
         clear hkl
         cases bk with
         | true =>
          have HAN:Hid ((anyP (partsT ta) pz||anyP ((partsT tb).take (k+1)) pz)=true):=by show _=_;rw [HAL.out];rfl
          clear HAL
          go_wp2_with fail
          refine wp_region_calm (offC wr) (fun _=>false) (fun _=>false) anyE false (by kernel_rfl) (by kernel_rfl) (by kernel_rfl) (by kernel_rfl) (by intro m hm;revert hm;simp;try omega) (offC_stable _) (offC_start _) ?_
          refine calm_fixA rfl rfl ?_
          apply Exists.intro
          refine ⟨fun a wz hc hk hf K hK=>?_,?_⟩
          ·have h9:=hk 9 (by kernel_rfl)
           clear hk hf hc
           go_simp
           exact hK _ _ (Below.refl _ _) rfl
          refine calm_fixA rfl rfl ?_
          apply Exists.intro
          refine ⟨fun a wz hc hk hf K hK=>?_,?_⟩
          ·have h77:=held_isV hf 0 rfl (by kernel_rfl)
           clear hk hf hc
           go_simp
           exact hK _ _ (Below.refl _ _) rfl
          refine calm_fixA rfl rfl ?_
          apply Exists.intro
          refine ⟨fun a wz hc hk hf K hK=>?_,?_⟩
          ·have h6:=hk 6 (by kernel_rfl)
           have h78:=held_isV hf 0 rfl (by kernel_rfl)
           clear hk hf hc
           go_simp
           exact hK _ _ (Below.refl _ _) rfl
          refine calm_fixA rfl rfl ?_
          apply Exists.intro
          refine ⟨fun a wz hc hk hf K hK=>?_,?_⟩
          ·have h11:=hk 11 (by kernel_rfl)
           have h78:=held_isV hf 1 rfl (by kernel_rfl)
           clear hk hf hc
           go_simp
           exact hK _ _ (Below.refl _ _) rfl
          refine calm_fixA rfl rfl ?_
          apply Exists.intro
          refine ⟨fun a wz hc hk hf K hK=>?_,?_⟩
          ·have h79:=held_isV hf 1 rfl (by kernel_rfl)
           have h80:=held_isV hf 0 rfl (by kernel_rfl)
           have h78:=held_isV hf 2 rfl (by kernel_rfl)
           clear hk hf hc
           go_simp
           exact hK _ _ (Below.refl _ _) rfl
          refine calm_fixA rfl rfl ?_
          apply Exists.intro
          refine ⟨fun a wz hc hk hf K hK=>?_,?_⟩
          ·have hb:Below wr.heap.size wr wz:=hc rfl
           have h81:=held_isV hf 0 rfl (by kernel_rfl)
           have h78:=held_isV hf 3 rfl (by kernel_rfl)
           clear hk hf hc
           go_simp
           exact hK _ _ (Below.refl _ _) rfl
          refine calm_fixA rfl rfl ?_
          apply Exists.intro
          refine ⟨fun a wz hc hk hf K hK=>?_,?_⟩
          ·have h82:=held_isV hf 0 rfl (by kernel_rfl)
           have h78:=held_isV hf 4 rfl (by kernel_rfl)
           clear hk hf hc
           go_simp
           exact hK _ _ (Below.refl _ _) rfl
          refine calm_fixA rfl rfl ?_
          apply Exists.intro
          refine ⟨fun a wz hc hk hf K hK=>?_,?_⟩
          ·have h7:=hk 7 (by kernel_rfl)
           have h78:=held_isV hf 5 rfl (by kernel_rfl)
           clear hk hf hc
           go_simp
           exact hK _ _ (Below.refl _ _) rfl
          refine calm_fixA rfl rfl ?_
          apply Exists.intro
          refine ⟨fun a wz hc hk hf K hK=>?_,?_⟩
          ·have h8:=hk 8 (by kernel_rfl)
           have h78:=held_isV hf 6 rfl (by kernel_rfl)
           clear hk hf hc
           go_simp
           exact hK _ _ (Below.refl _ _) rfl
          refine calm_fixA rfl rfl ?_
          apply Exists.intro
          refine ⟨fun a wz hc hk hf K hK=>?_,?_⟩
          ·have h84:=held_isV hf 1 rfl (by kernel_rfl)
           have h85:=held_isV hf 0 rfl (by kernel_rfl)
           have h78:=held_isV hf 7 rfl (by kernel_rfl)
           clear hk hf hc
           go_simp
           exact hK _ _ (Below.refl _ _) rfl
          refine calm_fixA rfl rfl ?_
          apply Exists.intro
          refine ⟨fun a wz hc hk hf K hK=>?_,?_⟩
          ·have hb:Below wr.heap.size wr wz:=hc rfl
           have h86:=held_isV hf 0 rfl (by kernel_rfl)
           have h78:=held_isV hf 8 rfl (by kernel_rfl)
           clear hk hf hc
           go_simp
           exact hK _ _ (Below.refl _ _) rfl
          refine calm_fixA rfl rfl ?_
          apply Exists.intro
          refine ⟨fun a wz hc hk hf K hK=>?_,?_⟩
          ·have h87:=held_isV hf 0 rfl (by kernel_rfl)
           have h78:=held_isV hf 9 rfl (by kernel_rfl)
           clear hk hf hc
           go_simp
           exact hK _ _ (Below.refl _ _) rfl
          refine calm_fixA rfl rfl ?_
          apply Exists.intro
          refine ⟨fun a wz hc hk hf K hK=>?_,?_⟩
          ·have h83:=held_isV hf 5 rfl (by kernel_rfl)
           have h88:=held_isV hf 0 rfl (by kernel_rfl)
           have h78:=held_isV hf 10 rfl (by kernel_rfl)
           clear hk hf hc
           go_simp
           exact hK _ _ (Below.refl _ _) rfl
          refine calm_fixA rfl rfl ?_
          apply Exists.intro
          refine ⟨fun a wz hc hk hf K hK=>?_,?_⟩
          ·have h78:=held_isV hf 11 rfl (by kernel_rfl)
           have h89:=held_isV hf 0 rfl (by kernel_rfl)
           clear hk hf hc
           go_simp
           exact hK _ _ (Below.refl _ _) rfl
          refine calm_fixA rfl rfl ?_
          apply Exists.intro
          refine ⟨fun a wz hc hk hf K hK=>?_,?_⟩
          ·have h90:=held_isV hf 0 rfl (by kernel_rfl)
           clear hk hf hc
           go_simp
           exact hK _ _ (Below.refl _ _) rfl
          refine calm_nil ?_
          refine ⟨keeps_none,?_⟩
          intro w9 hc
          simp only [lexL,calmEnd]
          rintro _ rfl _ rfl _ rfl _ rfl _ rfl _ rfl _ rfl _ rfl _ rfl _ rfl _ rfl _ rfl _ rfl _ rfl _ rfl
          have hq:Below wr.heap.size wr w9:=hc rfl
          have HBN:=Lib.hid (HBK.out.trans (hq.mono HBK.out.size))
          clear hc hq
          simp only [Act.put,List.setIfInBounds_toArray,List.set_cons_zero,List.set_cons_succ]
          go_wp2
          go_roundw
          case rel=>exact ⟨k+1,HLT.out,by go_num,by rw [HAN.out],HBN⟩
          case measure=>have:=HLT.out;simp [intOf];omega
         | false =>
          have HAN:Hid ((anyP (partsT ta) pz||anyP ((partsT tb).take (k+1)) pz)=(PX.toList==PZ.toList)):=by show _=_;rw [HAL.out];rfl
          clear HAL
          go_wp2_with fail
          refine wp_region_calm (offC wr) (fun _=>false) (fun _=>false) anyE false (by kernel_rfl) (by kernel_rfl) (by kernel_rfl) (by kernel_rfl) (by intro m hm;revert hm;simp;try omega) (offC_stable _) (offC_start _) ?_
          refine calm_fixA rfl rfl ?_
          apply Exists.intro
          refine ⟨fun a wz hc hk hf K hK=>?_,?_⟩
          ·have h9:=hk 9 (by kernel_rfl)
           clear hk hf hc
           go_simp
           exact hK _ _ (Below.refl _ _) rfl
          refine calm_fixA rfl rfl ?_
          apply Exists.intro
          refine ⟨fun a wz hc hk hf K hK=>?_,?_⟩
          ·have h77:=held_isV hf 0 rfl (by kernel_rfl)
           clear hk hf hc
           go_simp
           exact hK _ _ (Below.refl _ _) rfl
          refine calm_fixA rfl rfl ?_
          apply Exists.intro
          refine ⟨fun a wz hc hk hf K hK=>?_,?_⟩
          ·have h6:=hk 6 (by kernel_rfl)
           have h78:=held_isV hf 0 rfl (by kernel_rfl)
           clear hk hf hc
           go_simp
           exact hK _ _ (Below.refl _ _) rfl
          refine calm_fixA rfl rfl ?_
          apply Exists.intro
          refine ⟨fun a wz hc hk hf K hK=>?_,?_⟩
          ·have h11:=hk 11 (by kernel_rfl)
           have h78:=held_isV hf 1 rfl (by kernel_rfl)
           clear hk hf hc
           go_simp
           exact hK _ _ (Below.refl _ _) rfl
          refine calm_fixA rfl rfl ?_
          apply Exists.intro
          refine ⟨fun a wz hc hk hf K hK=>?_,?_⟩
          ·have h79:=held_isV hf 1 rfl (by kernel_rfl)
           have h80:=held_isV hf 0 rfl (by kernel_rfl)
           have h78:=held_isV hf 2 rfl (by kernel_rfl)
           clear hk hf hc
           go_simp
           exact hK _ _ (Below.refl _ _) rfl
          refine calm_fixA rfl rfl ?_
          apply Exists.intro
          refine ⟨fun a wz hc hk hf K hK=>?_,?_⟩
          ·have hb:Below wr.heap.size wr wz:=hc rfl
           have h81:=held_isV hf 0 rfl (by kernel_rfl)
           have h78:=held_isV hf 3 rfl (by kernel_rfl)
           clear hk hf hc
           obtain ⟨k0,k1_,k2,k3⟩:=HC1.out.kept hb0 (HBK.out.trans (hb.mono HBK.out.size))
           go_simp
           exact hK _ _ (Below.refl _ _) rfl
          refine calm_fixA rfl rfl ?_
          apply Exists.intro
          refine ⟨fun a wz hc hk hf K hK=>?_,?_⟩
          ·have hb:Below wr.heap.size wr wz:=hc rfl
           have h82:=held_isV hf 0 rfl (by kernel_rfl)
           have h78:=held_isV hf 4 rfl (by kernel_rfl)
           clear hk hf hc
           go_simp
           refine Calls.mono (HP1.out wz (HBK.out.trans (hb.mono HBK.out.size))) ?_
           rintro e w1 ⟨rfl,hq⟩
           exact hK _ _ hq rfl
          refine calm_fixA rfl rfl ?_
          apply Exists.intro
          refine ⟨fun a wz hc hk hf K hK=>?_,?_⟩
          ·have h7:=hk 7 (by kernel_rfl)
           have h78:=held_isV hf 5 rfl (by kernel_rfl)
           clear hk hf hc
           go_simp
           exact hK _ _ (Below.refl _ _) rfl
          refine calm_fixA rfl rfl ?_
          apply Exists.intro
          refine ⟨fun a wz hc hk hf K hK=>?_,?_⟩
          ·have h8:=hk 8 (by kernel_rfl)
           have h78:=held_isV hf 6 rfl (by kernel_rfl)
           clear hk hf hc
           go_simp
           exact hK _ _ (Below.refl _ _) rfl
          refine calm_fixA rfl rfl ?_
          apply Exists.intro
          refine ⟨fun a wz hc hk hf K hK=>?_,?_⟩
          ·have h84:=held_isV hf 1 rfl (by kernel_rfl)
           have h85:=held_isV hf 0 rfl (by kernel_rfl)
           have h78:=held_isV hf 7 rfl (by kernel_rfl)
           clear hk hf hc
           go_simp
           exact hK _ _ (Below.refl _ _) rfl
          refine calm_fixA rfl rfl ?_
          apply Exists.intro
          refine ⟨fun a wz hc hk hf K hK=>?_,?_⟩
          ·have hb:Below wr.heap.size wr wz:=hc rfl
           have h86:=held_isV hf 0 rfl (by kernel_rfl)
           have h78:=held_isV hf 8 rfl (by kernel_rfl)
           clear hk hf hc
           obtain ⟨k0,k1_,k2,k3⟩:=HCZ.out.kept hbz (HBK.out.trans (hb.mono HBK.out.size))
           go_simp
           exact hK _ _ (Below.refl _ _) rfl
          refine calm_fixA rfl rfl ?_
          apply Exists.intro
          refine ⟨fun a wz hc hk hf K hK=>?_,?_⟩
          ·have hb:Below wr.heap.size wr wz:=hc rfl
           have h87:=held_isV hf 0 rfl (by kernel_rfl)
           have h78:=held_isV hf 9 rfl (by kernel_rfl)
           clear hk hf hc
           go_simp
           refine Calls.mono (HPZ.out wz (HBK.out.trans (hb.mono HBK.out.size))) ?_
           rintro e w1 ⟨rfl,hq⟩
           exact hK _ _ hq rfl
          refine calm_fixA rfl rfl ?_
          apply Exists.intro
          refine ⟨fun a wz hc hk hf K hK=>?_,?_⟩
          ·have h83:=held_isV hf 5 rfl (by kernel_rfl)
           have h88:=held_isV hf 0 rfl (by kernel_rfl)
           have h78:=held_isV hf 10 rfl (by kernel_rfl)
           clear hk hf hc
           go_simp
           exact hK _ _ (Below.refl _ _) rfl
          refine calm_fixA rfl rfl ?_
          apply Exists.intro
          refine ⟨fun a wz hc hk hf K hK=>?_,?_⟩
          ·have h78:=held_isV hf 11 rfl (by kernel_rfl)
           have h89:=held_isV hf 0 rfl (by kernel_rfl)
           clear hk hf hc
           go_simp
           exact hK _ _ (Below.refl _ _) rfl
          refine calm_fixA rfl rfl ?_
          apply Exists.intro
          refine ⟨fun a wz hc hk hf K hK=>?_,?_⟩
          ·have h90:=held_isV hf 0 rfl (by kernel_rfl)
           clear hk hf hc
           go_simp
           exact hK _ _ (Below.refl _ _) rfl
          refine calm_nil ?_
          refine ⟨keeps_none,?_⟩
          intro w9 hc
          simp only [lexL,calmEnd]
          rintro _ rfl _ rfl _ rfl _ rfl _ rfl _ rfl _ rfl _ rfl _ rfl _ rfl _ rfl _ rfl _ rfl _ rfl _ rfl
          have hq:Below wr.heap.size wr w9:=hc rfl
          have HBN:=Lib.hid (HBK.out.trans (hq.mono HBK.out.size))
          clear hc hq
          simp only [Act.put,List.setIfInBounds_toArray,List.set_cons_zero,List.set_cons_succ]
          go_wp2
          go_roundw
          case rel=>exact ⟨k+1,HLT.out,by go_num,by rw [HAN.out],HBN⟩
          case measure=>have:=HLT.out;simp [intOf];omega
        ·obtain rfl:k=ny:=by omega
         rw [List.take_of_length_le (by rw [HNy.out];exact Nat.le_refl _)]
         rw [HANY.out]
         clear hlt hk
         go_wp2
         go_roundw
         case rel=>exact ⟨i+1,HLTZ.out,by go_num,HBK⟩
         case measure=>have:=HLTZ.out;simp [intOf];omega
    ·have d1:=HLZ.out.1
     have d2:=HLY.out.1
     obtain rfl:i=nz:=by omega
     have HBX:=Lib.hid (HBW.out.trans (HBI.out.mono HBW.out.size))
     clear hltz hi
     go_wp2_with fail
     refine Calls.mono (HAW.out _) ?_
     rintro e wq ⟨rfl,hq⟩
     have HBQ:=Lib.hid (HBX.out.trans (hq.mono HBX.out.size))
     clear hq HBX
     go_wp2
     go_ret
     exact ⟨rfl,HBQ.out⟩
end Go.Proofs.Ytnkhkkdmjabhnaa
