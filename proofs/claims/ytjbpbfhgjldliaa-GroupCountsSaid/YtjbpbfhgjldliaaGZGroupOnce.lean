/- The law GroupOnce of layer 21. -/
import Derived.Test.YtjbpbfhgjldliaaGWeighRef
import Derived.Test.YtjbpbfhgjldliaaGGroupChg
import Derived.Test.YtjbpbfhgjldliaaGGroupAwake
import Derived.Test.YtjbpbfhgjldliaaGGroupEnds
namespace Go.Proofs.Ytjbpbfhgjldliaa
open Go Go.RowKit
theorem whole_cnt {l m:List Tm}(h:wholeW l=true)(e:∀ r,cntW l r=cntW m r):∀ r,0≤cntW m r:=fun r=>by
 rw [←e]
 unfold wholeW at h
 rw [List.all_eq_true] at h
 have k:∀ {l:List Tm},(∀ t∈l,0≤t.2)→0≤cntW l r:=by
  intro l
  induction l with
  | nil=>exact fun _=>Int.le_refl _
  | cons x l ih =>
   intro h
   have h1:=ih fun t ht=>h t (List.mem_cons_of_mem _ ht)
   have h2:=h x (List.mem_cons_self ..)
   simp only [cntW]
   split <;> omega
 exact k fun t ht=>of_decide_eq_true (h t ht)
theorem once_same {by_:List Int}(gs:List (Int×Int)){la lb:List Tm}{E1 E2 E3 S1 S2 S3:List BP}(p1:E1.Perm (eachB by_ la)∧E1.Pairwise fun a b=>¬cmpL b.1 a.1 = -1)(p2:E2.Perm (eachB by_ lb)∧E2.Pairwise fun a b=>¬cmpL b.1 a.1 = -1)(p3:E3.Perm (eachB by_ (lb++la))∧E3.Pairwise fun a b=>¬cmpL b.1 a.1 = -1)
  (h1:S1=nextS E1 []) (h2:S2=nextS E2 S1) (h3:S3=nextS E3 []) (wa:∀ r,0≤cntW la r) (wb:∀ r,0≤cntW (sumW la lb) r):S2.map (grpB gs)=S3.map (grpB gs)∧Holds by_ S3 (lb++la):=by
 have k1:=(Holds.nil_ by_).next p1.1 p1.2 (fun r=>wa r)
 rw [←h1] at k1
 have k2:=k1.next p2.1 p2.2 (fun r=>by
  have:=wb r
  rw [cnt_sum] at this
  rw [List.nil_append,cntW_append];exact this)
 rw [←h2] at k2
 have k3:=(Holds.nil_ by_).next p3.1 p3.2 (fun r=>by
  have:=wb r
  rw [cnt_sum] at this
  rw [List.nil_append,cntW_append];omega)
 rw [←h3] at k3
 exact ⟨k2.unique k3 (fun r=>by rw [List.nil_append,List.nil_append,cntW_append,cntW_append];omega) gs,k3⟩
theorem once_none {by_:List Int}{la lb:List Tm}{E S:List BP}(h:Holds by_ S (lb++la))(p:E.Perm (eachB by_ (minusW (sumW la lb)))∧E.Pairwise fun a b=>¬cmpL b.1 a.1 = -1):nextS E S=[]:=by
 have hz:∀ r,cntW ((lb++la)++minusW (sumW la lb)) r=0:=fun r=>by rw [cntW_append,cntW_append,cnt_minus,cnt_sum];omega
 have k:=h.next p.1 p.2 (fun r=>by rw [hz r];exact Int.le_refl _)
 have e:=k.unique (Holds.nil_ by_) (fun r=>hz r) []
 exact List.map_eq_nil_iff.1 e
set_option maxHeartbeats 16000000 in
set_option maxRecDepth 100000 in
theorem groupOnce_calls {w:World}{va vb vg:Value}{la:List Tm}{lb:List Tm}{ng:List (Int×Int)}(ha:TimesIn w va la)(hb:TimesIn w vb lb)(hg:OnIn w vg ng):GivesAt Try.prog 4 #[va,vb,vg] w (.bool true):=by
 have HAW:=Lib.hid awake21_calls
 have HSA:Hid (∀ W,Below w.heap.size w W→GivesAt Try.prog 7 #[va,.int .i64 12] W (.bool (small21 la 12))):=fun W hW=>(small21_calls 12 (ha.kept hW)).gives
 have HNA:=Lib.hid fun (h:small21 la 12=true)=>fine21 h
 have HLA:=Lib.hid ha
 obtain ⟨Aa,ca,rfl⟩:=times_slice ha
 have HSB:Hid (∀ W,Below w.heap.size w W→GivesAt Try.prog 7 #[vb,.int .i64 12] W (.bool (small21 lb 12))):=fun W hW=>(small21_calls 12 (hb.kept hW)).gives
 have HNB:=Lib.hid fun (h:small21 lb 12=true)=>fine21 h
 have HLB:=Lib.hid hb
 obtain ⟨Ab,cb,rfl⟩:=times_slice hb
 have HWG:Hid (∀ W,Below w.heap.size w W→GivesAt Try.prog 6 #[vg] W (.bool (ways21 ng))):=fun W hW=>(ways21_calls (hg.kept hW)).gives
 have HKG:=Lib.hid fun (h:ways21 ng=true)=>way21_ok h
 have HOG:=Lib.hid hg
 obtain ⟨Ag,cg,rfl⟩:=hg.slice
 have HB:Hid (Below w.heap.size w w):=Lib.hid (.refl _ _)
 clear ha hb hg
 unfold GivesAt
 go_enter Try.func4,Try.ntmps4
 cases hsa:small21 la 12 with
 | false =>
  rw [hsa] at HSA
  clear hsa
  go_wp2_with fail
  refine Calls.mono (HSA.out w HB.out) ?_
  rintro e wn1 ⟨rfl,hq⟩
  replace HB:=Lib.hid (HB.out.trans (hq.mono HB.out.size))
  clear hq
  go_wp2_with fail
  refine Calls.mono (HAW.out wn1) ?_
  rintro e wn2 ⟨rfl,hq⟩
  replace HB:=Lib.hid (HB.out.trans (hq.mono HB.out.size))
  clear hq
  go_wp2
  go_ret
  exact ⟨rfl,HB.out⟩
 | true =>
  rw [hsa] at HSA
  replace HNA:=Lib.hid (HNA.out hsa)
  clear hsa
  go_wp2_with fail
  refine Calls.mono (HSA.out w HB.out) ?_
  rintro e wn1 ⟨rfl,hq⟩
  replace HB:=Lib.hid (HB.out.trans (hq.mono HB.out.size))
  clear hq
  clear HSA
  cases hsb:small21 lb 12 with
  | false =>
   rw [hsb] at HSB
   clear hsb
   go_wp2_with fail
   refine Calls.mono (HSB.out wn1 HB.out) ?_
   rintro e wn2 ⟨rfl,hq⟩
   replace HB:=Lib.hid (HB.out.trans (hq.mono HB.out.size))
   clear hq
   go_wp2_with fail
   refine Calls.mono (HAW.out wn2) ?_
   rintro e wn3 ⟨rfl,hq⟩
   replace HB:=Lib.hid (HB.out.trans (hq.mono HB.out.size))
   clear hq
   go_wp2
   go_ret
   exact ⟨rfl,HB.out⟩
  | true =>
   rw [hsb] at HSB
   replace HNB:=Lib.hid (HNB.out hsb)
   clear hsb
   go_wp2_with fail
   refine Calls.mono (HSB.out wn1 HB.out) ?_
   rintro e wn2 ⟨rfl,hq⟩
   replace HB:=Lib.hid (HB.out.trans (hq.mono HB.out.size))
   clear hq
   clear HSB
   cases hsg:ways21 ng with
   | false =>
    rw [hsg] at HWG
    clear hsg
    go_wp2_with fail
    refine Calls.mono (HWG.out wn2 HB.out) ?_
    rintro e wn3 ⟨rfl,hq⟩
    replace HB:=Lib.hid (HB.out.trans (hq.mono HB.out.size))
    clear hq
    go_wp2_with fail
    refine Calls.mono (HAW.out wn3) ?_
    rintro e wn4 ⟨rfl,hq⟩
    replace HB:=Lib.hid (HB.out.trans (hq.mono HB.out.size))
    clear hq
    go_wp2
    go_ret
    exact ⟨rfl,HB.out⟩
   | true =>
    rw [hsg] at HWG
    replace HKG:=Lib.hid (HKG.out hsg)
    clear hsg
    go_wp2_with fail
    refine Calls.mono (HWG.out wn2 HB.out) ?_
    rintro e wn3 ⟨rfl,hq⟩
    replace HB:=Lib.hid (HB.out.trans (hq.mono HB.out.size))
    clear hq
    clear HWG
    go_wp2_with fail
    have hq:Below wn3.heap.size wn3 (wn3.alloc (.cells #[.int .i64 0,.int .i64 2] 3)):=Below.alloc (.refl _ _) (Nat.le_refl _) _
    have HI:Hid (IntsIn (wn3.alloc (.cells #[.int .i64 0,.int .i64 2] 3)) (.slice (some ⟨wn3.heap.size,0,none⟩) 2 2) [0,2]):=lit_ones (Value.int .i64) wn3 3 [0,2] (by show 2≤1000;decide)
    replace HB:=Lib.hid (HB.out.trans (hq.mono HB.out.size))
    clear hq
    generalize World.alloc wn3 _=wn4 at *
    generalize wn3.heap.size=bHI at *
    have HF0:Hid (FitS [0,2] 0 0 []):=Lib.hid (FitS.nil_ _)
    have HW0:Hid (toldP ng 1 (([]:List BP).map (grpB ng))=some []):=Lib.hid rfl
    obtain ⟨hal,haw,ha4,_⟩:=HNA.out
    obtain ⟨hbl,hbw,hb4,_⟩:=HNB.out
    have HZA:Hid (la.length≤12∧wtW la≤12582912):=Lib.hid ⟨hal,haw⟩
    have HZB:Hid (lb.length≤12∧wtW lb≤12582912):=Lib.hid ⟨hbl,hbw⟩
    clear hal haw ha4 hbl hbw hb4 HNA HNB
    go_wp2_with fail
    have hc:=gchange_calls (lv:=.slice none 0 0) (l:=([]:List BP).map (grpB ng)) (Kin.In.nil_ _ _ none 0 trivial) (sort_right HF0.out.sort _) (HI.out) (HOG.out.kept HB.out) (HLA.out.kept HB.out) (HF0.out.fit (by decide) (by decide) (by decide) _ HKG.out.1) (by have:=HKG.out.1;show 2+_≤_;omega) (by rw [List.length_map];have h1:=HF0.out.count;have h2:=HZA.out.1;omega) (by have h2:=HZA.out.1;omega) (by have h2:=HZA.out.2;omega)
    refine hc.mono ?_
    clear hc
    intro e wn5 hend
    obtain ⟨E1,gv1,rv1,cn1,er1,S1,was1,d1,rfl,hG,hT,hn1,hq,hp,hE,hw1,hdl1,hdw1,hm1⟩:=chg_of hend (Kin.In.nil_ _ _ none 0 trivial) HF0.out.sort HF0.out.live HW0.out
    have HF1:=Lib.hid (FitS.both (m:=12) (k:=12582912) HF0.out hp hE (hm1.elim (fun h=>.inl h.2.1) fun h=>.inr h.2.1) (by have h2:=HZA.out.1;omega) (by have h2:=HZA.out.2;omega))
    have HM1:=Lib.hid hm1
    have HE1:=Lib.hid (And.intro hp hE)
    have HWA1:=Lib.hid hw1
    have HDL1:=Lib.hid (And.intro hdl1 hdw1)
    have HCN1:=Lib.hid hn1
    have HG1:Hid (groupK.In (fun _=>True) wn5 gv1 (S1.map (grpB ng))):=hG
    have HD1:Hid (TimesIn wn5 rv1 d1):=hT
    clear hend hG hT hn1 hp hE hw1 hdl1 hdw1 hm1
    replace HB:=Lib.hid (HB.out.trans (hq.mono HB.out.size))
    replace HI:=Lib.hid (IntsIn.kept HI.out hq)
    clear hq
    obtain ⟨GA1,gc1,ge⟩:=HG1.out.slice
    obtain ⟨gl1,hgl⟩:∃ n,(S1.map (grpB ng)).length=n:=⟨_,rfl⟩
    have HGL1:=Lib.hid hgl
    rw [hgl] at ge
    subst ge
    clear hgl
    go_wp2_with fail
    have hc:=gchange_calls (lv:=.slice GA1 gl1 gc1) (l:=(S1:List BP).map (grpB ng)) HG1.out (sort_right HF1.out.sort _) (HI.out) (HOG.out.kept HB.out) (HLB.out.kept HB.out) (HF1.out.fit (by decide) (by decide) (by decide) _ HKG.out.1) (by have:=HKG.out.1;show 2+_≤_;omega) (by rw [List.length_map];have h1:=HF1.out.count;have h2:=HZB.out.1;omega) (by have h2:=HZB.out.1;omega) (by have h2:=HZB.out.2;omega)
    refine hc.mono ?_
    clear hc
    intro e wn6 hend
    obtain ⟨E2,gv2,rv2,cn2,er2,S2,was2,d2,rfl,hG,hT,hn2,hq,hp,hE,hw2,hdl2,hdw2,hm2⟩:=chg_of hend HG1.out HF1.out.sort HF1.out.live HWA1.out
    have HF2:=Lib.hid (FitS.both (m:=12) (k:=12582912) HF1.out hp hE (hm2.elim (fun h=>.inl h.2.1) fun h=>.inr h.2.1) (by have h2:=HZB.out.1;omega) (by have h2:=HZB.out.2;omega))
    have HM2:=Lib.hid hm2
    have HE2:=Lib.hid (And.intro hp hE)
    have HWA2:=Lib.hid hw2
    have HDL2:=Lib.hid (And.intro hdl2 hdw2)
    have HCN2:=Lib.hid hn2
    have HG2:Hid (groupK.In (fun _=>True) wn6 gv2 (S2.map (grpB ng))):=hG
    have HD2:Hid (TimesIn wn6 rv2 d2):=hT
    clear hend hG hT hn2 hp hE hw2 hdl2 hdw2 hm2
    replace HB:=Lib.hid (HB.out.trans (hq.mono HB.out.size))
    replace HI:=Lib.hid (IntsIn.kept HI.out hq)
    replace HG1:=Lib.hid (HG1.out.kept hq)
    replace HD1:=Lib.hid (HD1.out.kept hq)
    clear hq
    obtain ⟨GA2,gc2,ge⟩:=HG2.out.slice
    obtain ⟨gl2,hgl⟩:∃ n,(S2.map (grpB ng)).length=n:=⟨_,rfl⟩
    have HGL2:=Lib.hid hgl
    rw [hgl] at ge
    subst ge
    clear hgl
    obtain ⟨i0,hi,hz0,hz1,hz2⟩:=info_parts Try.infoM33
    have hq0:=Below.alloc (.refl wn6.heap.size wn6) (Nat.le_refl _) (.cells #[] 33)
    have HE:Hid (Own (wn6.alloc (.cells #[] 33)) wn6.heap.size 2 (.slice (some ⟨wn6.heap.size,0,none⟩) 0 0) 0 []):=own_empty 2 (Nat.le_refl _) (by simp)
    obtain ⟨tvb,hsb,hrb⟩:=HLB.out.kept HB.out
    obtain ⟨tva,hsa,hra⟩:=HLA.out.kept HB.out
    have HSB:=Lib.hid (SliceOf.later hsb hq0)
    have HRB:=Lib.hid hrb
    have HSA:=Lib.hid hsa
    have HRA:=Lib.hid hra
    have HQ0:=Lib.hid hq0
    clear hq0 hsb hsa hrb hra
    go_wp2_with (at_builtin;refine wpList_append_src rfl (.tmp 61) (.tmp 62) 24 rfl 33 i0 (.agg #[.slice none 0 0,.int .i64 0]) 2 32 Try.underlying24 hi hz0 hz1 hz2 rfl (by decide) (B:=wn6.heap.size) (.slice (some ⟨wn6.heap.size,0,none⟩) 0 0) 0 [] rfl HE.out (.slice Ab lb.length cb) lb.length (timesV tvb) rfl HSB.out (RowsOf.one_cell HRB.out) (by have:=HZB.out.1;unfold maxLen;omega) (by have:=HZB.out.1;omega) HQ0.out.size ?_)
    intro v5 w5 hO5 hg5 _
    have hq5:=HQ0.out.grown hg5 HQ0.out.size (fun j hj=>(HE.out.lt j hj).1)
    have HO5:=Lib.hid hO5
    have HQ5:=Lib.hid hq5
    have HSA5:=Lib.hid (SliceOf.later HSA.out hq5)
    have HK5:Hid (∀ k,v5.ownBlock=some k→wn6.heap.size≤k):=fun k hk=>(hO5.lt k hk).1
    clear hO5 hg5 hq5 HE HSB HQ0 HSA
    go_wp2_with (at_builtin;refine wpList_append_src rfl (.tmp 63) (.tmp 64) 24 rfl 33 i0 (.agg #[.slice none 0 0,.int .i64 0]) 2 32 Try.underlying24 hi hz0 hz1 hz2 rfl (by decide) (B:=wn6.heap.size) v5 _ _ rfl HO5.out (.slice Aa la.length ca) la.length (timesV tva) rfl HSA5.out (RowsOf.one_cell HRA.out) (by have:=HZB.out.1;have:=HZA.out.1;unfold maxLen;omega) (by have:=HZB.out.1;have:=HZA.out.1;omega) HQ5.out.size ?_)
    intro v6 wn8 hO6 hg6 _
    have hq:=HQ5.out.grown hg6 HQ5.out.size HK5.out
    have HLC:Hid (TimesIn wn8 v6 (lb++la)):=by
     refine ⟨tvb++tva,?_,RowsOf.append (RowsOf.kept hq HRB.out) (RowsOf.kept hq HRA.out)⟩
     have h:=hO6.slice
     rw [timesV_append,List.length_append]
     simpa using h
    have HZC:Hid ((lb++la).length≤24∧wtW (lb++la)≤25165824):=Lib.hid (by
     have h1:=HZA.out
     have h2:=HZB.out
     rw [List.length_append,wtW_append];omega)
    clear hO6 hg6 HO5 HSA5 HRA HRB HQ5 HK5 hi hz0 hz1 hz2
    obtain ⟨A6,c6,e6⟩:=times_slice HLC.out
    obtain ⟨lc,hlc⟩:∃ l,lb++la=l:=⟨_,rfl⟩
    have HLCE:=Lib.hid hlc
    rw [hlc] at e6 HLC HZC
    subst e6
    clear hlc
    replace HB:=Lib.hid (HB.out.trans (hq.mono HB.out.size))
    replace HI:=Lib.hid (IntsIn.kept HI.out hq)
    replace HG1:=Lib.hid (HG1.out.kept hq)
    replace HD1:=Lib.hid (HD1.out.kept hq)
    replace HG2:=Lib.hid (HG2.out.kept hq)
    replace HD2:=Lib.hid (HD2.out.kept hq)
    clear hq
    go_wp2_with fail
    have hc:=gchange_calls (lv:=.slice none 0 0) (l:=([]:List BP).map (grpB ng)) (Kin.In.nil_ _ _ none 0 trivial) (sort_right HF0.out.sort _) (HI.out) (HOG.out.kept HB.out) (HLC.out) (HF0.out.fit (by decide) (by decide) (by decide) _ HKG.out.1) (by have:=HKG.out.1;show 2+_≤_;omega) (by rw [List.length_map];have h1:=HF0.out.count;have h2:=HZC.out.1;omega) (by have h2:=HZC.out.1;omega) (by have h2:=HZC.out.2;omega)
    refine hc.mono ?_
    clear hc
    intro e wn9 hend
    obtain ⟨E3,gv3,rv3,cn3,er3,S3,was3,d3,rfl,hG,hT,hn3,hq,hp,hE,hw3,hdl3,hdw3,hm3⟩:=chg_of hend (Kin.In.nil_ _ _ none 0 trivial) HF0.out.sort HF0.out.live HW0.out
    have HF3:=Lib.hid (FitS.both (m:=24) (k:=25165824) HF0.out hp hE (hm3.elim (fun h=>.inl h.2.1) fun h=>.inr h.2.1) (by have h2:=HZC.out.1;omega) (by have h2:=HZC.out.2;omega))
    have HM3:=Lib.hid hm3
    have HE3:=Lib.hid (And.intro hp hE)
    have HWA3:=Lib.hid hw3
    have HDL3:=Lib.hid (And.intro hdl3 hdw3)
    have HCN3:=Lib.hid hn3
    have HG3:Hid (groupK.In (fun _=>True) wn9 gv3 (S3.map (grpB ng))):=hG
    have HD3:Hid (TimesIn wn9 rv3 d3):=hT
    clear hend hG hT hn3 hp hE hw3 hdl3 hdw3 hm3
    replace HB:=Lib.hid (HB.out.trans (hq.mono HB.out.size))
    replace HI:=Lib.hid (IntsIn.kept HI.out hq)
    replace HG1:=Lib.hid (HG1.out.kept hq)
    replace HD1:=Lib.hid (HD1.out.kept hq)
    replace HG2:=Lib.hid (HG2.out.kept hq)
    replace HD2:=Lib.hid (HD2.out.kept hq)
    replace HLC:=Lib.hid (HLC.out.kept hq)
    clear hq
    obtain ⟨GA3,gc3,ge⟩:=HG3.out.slice
    obtain ⟨gl3,hgl⟩:∃ n,(S3.map (grpB ng)).length=n:=⟨_,rfl⟩
    have HGL3:=Lib.hid hgl
    rw [hgl] at ge
    subst ge
    clear hgl
    clear HLC
    by_cases he1:er1=0
    ·have HER1:=Lib.hid he1
     have hg1:(er1==0)=true:=by rw [he1];rfl
     have hgn1:(er1 != 0)=false:=by rw [he1];rfl
     clear he1
     by_cases he2:er2=0
     ·have HER2:=Lib.hid he2
      have hg2:(er2==0)=true:=by rw [he2];rfl
      have hgn2:(er2 != 0)=false:=by rw [he2];rfl
      clear he2
      by_cases he3:er3=0
      ·have HER3:=Lib.hid he3
       have hg3:(er3==0)=true:=by rw [he3];rfl
       have hgn3:(er3 != 0)=false:=by rw [he3];rfl
       clear he3
       go_wp2_with fail
       refine Calls.mono (ref_weigh_of_calls (HLA.out.kept HB.out) (by have:=HZA.out.1;omega) (by have:=HZA.out.2;omega)) ?_
       rintro e wn10 ⟨vOF,rfl,hk,hq⟩
       have HOF:Hid (TimesIn wn10 vOF (ofW la)):=hk
       clear hk
       replace HB:=Lib.hid (HB.out.trans (hq.mono HB.out.size))
       replace HI:=Lib.hid (IntsIn.kept HI.out hq)
       replace HG1:=Lib.hid (HG1.out.kept hq)
       replace HD1:=Lib.hid (HD1.out.kept hq)
       replace HG2:=Lib.hid (HG2.out.kept hq)
       replace HD2:=Lib.hid (HD2.out.kept hq)
       replace HG3:=Lib.hid (HG3.out.kept hq)
       replace HD3:=Lib.hid (HD3.out.kept hq)
       clear hq
       cases hwh:wholeW (ofW la) with
       | false =>
        have HWHL:=Lib.hid (ref_weigh_whole_calls HOF.out)
        rw [hwh] at HWHL
        clear hwh
        go_wp2_with fail
        refine Calls.mono (HWHL.out) ?_
        rintro e wn11 ⟨rfl,hq⟩
        replace HB:=Lib.hid (HB.out.trans (hq.mono HB.out.size))
        replace HI:=Lib.hid (IntsIn.kept HI.out hq)
        replace HG1:=Lib.hid (HG1.out.kept hq)
        replace HD1:=Lib.hid (HD1.out.kept hq)
        replace HG2:=Lib.hid (HG2.out.kept hq)
        replace HD2:=Lib.hid (HD2.out.kept hq)
        replace HG3:=Lib.hid (HG3.out.kept hq)
        replace HD3:=Lib.hid (HD3.out.kept hq)
        replace HOF:=Lib.hid (HOF.out.kept hq)
        clear hq
        clear HWHL
        go_wp2_with fail
        refine Calls.mono (HAW.out wn11) ?_
        rintro e wn12 ⟨rfl,hq⟩
        replace HB:=Lib.hid (HB.out.trans (hq.mono HB.out.size))
        replace HI:=Lib.hid (IntsIn.kept HI.out hq)
        replace HG1:=Lib.hid (HG1.out.kept hq)
        replace HD1:=Lib.hid (HD1.out.kept hq)
        replace HG2:=Lib.hid (HG2.out.kept hq)
        replace HD2:=Lib.hid (HD2.out.kept hq)
        replace HG3:=Lib.hid (HG3.out.kept hq)
        replace HD3:=Lib.hid (HD3.out.kept hq)
        replace HOF:=Lib.hid (HOF.out.kept hq)
        clear hq
        go_wp2
        go_ret
        exact ⟨rfl,HB.out⟩
       | true =>
        have HWHL:=Lib.hid (ref_weigh_whole_calls HOF.out)
        rw [hwh] at HWHL
        have HWTOF:=Lib.hid hwh
        clear hwh
        go_wp2_with fail
        refine Calls.mono (HWHL.out) ?_
        rintro e wn11 ⟨rfl,hq⟩
        replace HB:=Lib.hid (HB.out.trans (hq.mono HB.out.size))
        replace HI:=Lib.hid (IntsIn.kept HI.out hq)
        replace HG1:=Lib.hid (HG1.out.kept hq)
        replace HD1:=Lib.hid (HD1.out.kept hq)
        replace HG2:=Lib.hid (HG2.out.kept hq)
        replace HD2:=Lib.hid (HD2.out.kept hq)
        replace HG3:=Lib.hid (HG3.out.kept hq)
        replace HD3:=Lib.hid (HD3.out.kept hq)
        replace HOF:=Lib.hid (HOF.out.kept hq)
        clear hq
        clear HWHL
        clear HOF
        go_wp2_with fail
        refine Calls.mono (ref_weigh_sum_calls (HLA.out.kept HB.out) (HLB.out.kept HB.out) (by have:=HZA.out.1;have:=HZB.out.1;omega) (by have:=HZA.out.2;have:=HZB.out.2;omega)) ?_
        rintro e wn12 ⟨vSU,rfl,hk,hq⟩
        have HSU:Hid (TimesIn wn12 vSU (sumW la lb)):=hk
        clear hk
        replace HB:=Lib.hid (HB.out.trans (hq.mono HB.out.size))
        replace HI:=Lib.hid (IntsIn.kept HI.out hq)
        replace HG1:=Lib.hid (HG1.out.kept hq)
        replace HD1:=Lib.hid (HD1.out.kept hq)
        replace HG2:=Lib.hid (HG2.out.kept hq)
        replace HD2:=Lib.hid (HD2.out.kept hq)
        replace HG3:=Lib.hid (HG3.out.kept hq)
        replace HD3:=Lib.hid (HD3.out.kept hq)
        clear hq
        cases hwh:wholeW (sumW la lb) with
        | false =>
         have HWHL:=Lib.hid (ref_weigh_whole_calls HSU.out)
         rw [hwh] at HWHL
         clear hwh
         go_wp2_with fail
         refine Calls.mono (HWHL.out) ?_
         rintro e wn13 ⟨rfl,hq⟩
         replace HB:=Lib.hid (HB.out.trans (hq.mono HB.out.size))
         replace HI:=Lib.hid (IntsIn.kept HI.out hq)
         replace HG1:=Lib.hid (HG1.out.kept hq)
         replace HD1:=Lib.hid (HD1.out.kept hq)
         replace HG2:=Lib.hid (HG2.out.kept hq)
         replace HD2:=Lib.hid (HD2.out.kept hq)
         replace HG3:=Lib.hid (HG3.out.kept hq)
         replace HD3:=Lib.hid (HD3.out.kept hq)
         replace HSU:=Lib.hid (HSU.out.kept hq)
         clear hq
         clear HWHL
         go_wp2_with fail
         refine Calls.mono (HAW.out wn13) ?_
         rintro e wn14 ⟨rfl,hq⟩
         replace HB:=Lib.hid (HB.out.trans (hq.mono HB.out.size))
         replace HI:=Lib.hid (IntsIn.kept HI.out hq)
         replace HG1:=Lib.hid (HG1.out.kept hq)
         replace HD1:=Lib.hid (HD1.out.kept hq)
         replace HG2:=Lib.hid (HG2.out.kept hq)
         replace HD2:=Lib.hid (HD2.out.kept hq)
         replace HG3:=Lib.hid (HG3.out.kept hq)
         replace HD3:=Lib.hid (HD3.out.kept hq)
         replace HSU:=Lib.hid (HSU.out.kept hq)
         clear hq
         go_wp2
         go_ret
         exact ⟨rfl,HB.out⟩
        | true =>
         have HWHL:=Lib.hid (ref_weigh_whole_calls HSU.out)
         rw [hwh] at HWHL
         have HWTSU:=Lib.hid hwh
         clear hwh
         go_wp2_with fail
         refine Calls.mono (HWHL.out) ?_
         rintro e wn13 ⟨rfl,hq⟩
         replace HB:=Lib.hid (HB.out.trans (hq.mono HB.out.size))
         replace HI:=Lib.hid (IntsIn.kept HI.out hq)
         replace HG1:=Lib.hid (HG1.out.kept hq)
         replace HD1:=Lib.hid (HD1.out.kept hq)
         replace HG2:=Lib.hid (HG2.out.kept hq)
         replace HD2:=Lib.hid (HD2.out.kept hq)
         replace HG3:=Lib.hid (HG3.out.kept hq)
         replace HD3:=Lib.hid (HD3.out.kept hq)
         replace HSU:=Lib.hid (HSU.out.kept hq)
         clear hq
         clear HWHL
         clear HSU
         have HWA:=Lib.hid (whole_cnt HWTOF.out fun r=>cnt_of la r)
         have HWB:=Lib.hid (whole_cnt HWTSU.out fun r=>rfl)
         have HPE3:=HE3.out
         rw [←HLCE.out] at HPE3
         have hos:=once_same ng HE1.out HE2.out HPE3 (HM1.out.elim (fun h=>h.2.1) fun h=>absurd (h.1.symm.trans HER1.out) (by decide)) (HM2.out.elim (fun h=>h.2.1) fun h=>absurd (h.1.symm.trans HER2.out) (by decide)) (HM3.out.elim (fun h=>h.2.1) fun h=>absurd (h.1.symm.trans HER3.out) (by decide)) HWA.out HWB.out
         have HOS:=Lib.hid hos.1
         have HHO:=Lib.hid hos.2
         clear hos HPE3 HWA HWB HWTOF HWTSU HM1 HM2 HM3 HE1 HE2 HE3 HER1 HER2 HER3 hg1 hg2 hg3 hgn1 hgn2 hgn3
         go_wp2_with fail
         refine Calls.mono (ref_weigh_sum_calls (HLA.out.kept HB.out) (HLB.out.kept HB.out) (by have:=HZA.out.1;have:=HZB.out.1;omega) (by have:=HZA.out.2;have:=HZB.out.2;omega)) ?_
         rintro e wn14 ⟨vSU,rfl,hk,hq⟩
         have HSU:Hid (TimesIn wn14 vSU (sumW la lb)):=hk
         clear hk
         replace HB:=Lib.hid (HB.out.trans (hq.mono HB.out.size))
         replace HI:=Lib.hid (IntsIn.kept HI.out hq)
         replace HG1:=Lib.hid (HG1.out.kept hq)
         replace HD1:=Lib.hid (HD1.out.kept hq)
         replace HG2:=Lib.hid (HG2.out.kept hq)
         replace HD2:=Lib.hid (HD2.out.kept hq)
         replace HG3:=Lib.hid (HG3.out.kept hq)
         replace HD3:=Lib.hid (HD3.out.kept hq)
         clear hq
         have HZS:Hid ((sumW la lb).length≤24∧wtW (sumW la lb)≤25165824):=Lib.hid (by
          have h1:=HZA.out
          have h2:=HZB.out
          have h3:=sum_length la lb
          have h4:=wt_sum la lb
          omega)
         go_wp2_with fail
         refine Calls.mono (ref_weigh_minus_calls HSU.out (by have:=HZS.out.1;omega) (by have:=HZS.out.2;omega)) ?_
         rintro e wn15 ⟨vMI,rfl,hk,hq⟩
         have HMI:Hid (TimesIn wn15 vMI (minusW (sumW la lb))):=hk
         clear hk
         replace HB:=Lib.hid (HB.out.trans (hq.mono HB.out.size))
         replace HI:=Lib.hid (IntsIn.kept HI.out hq)
         replace HG1:=Lib.hid (HG1.out.kept hq)
         replace HD1:=Lib.hid (HD1.out.kept hq)
         replace HG2:=Lib.hid (HG2.out.kept hq)
         replace HD2:=Lib.hid (HD2.out.kept hq)
         replace HG3:=Lib.hid (HG3.out.kept hq)
         replace HD3:=Lib.hid (HD3.out.kept hq)
         replace HSU:=Lib.hid (HSU.out.kept hq)
         clear hq
         clear HSU
         have HZM:Hid ((minusW (sumW la lb)).length≤24∧wtW (minusW (sumW la lb))≤25165824):=Lib.hid (by
          rw [wt_minus]
          unfold minusW
          rw [List.length_map]
          exact HZS.out)
         have HNO:=Lib.hid fun E p=>once_none (E:=E) HHO.out p
         generalize minusW (sumW la lb)=lm at *
         obtain ⟨A7,c7,e7⟩:=times_slice HMI.out
         subst e7
         go_wp2_with fail
         have hc:=gchange_calls (lv:=.slice GA3 gl3 gc3) (l:=(S3:List BP).map (grpB ng)) HG3.out (sort_right HF3.out.sort _) (HI.out) (HOG.out.kept HB.out) (HMI.out) (HF3.out.fit (by decide) (by decide) (by decide) _ HKG.out.1) (by have:=HKG.out.1;show 2+_≤_;omega) (by rw [List.length_map];have h1:=HF3.out.count;have h2:=HZM.out.1;omega) (by have h2:=HZM.out.1;omega) (by have h2:=HZM.out.2;omega)
         refine hc.mono ?_
         clear hc
         intro e wn16 hend
         obtain ⟨E4,gv4,rv4,cn4,er4,S4,was4,d4,rfl,hG,hT,hn4,hq,hp,hE,hw4,hdl4,hdw4,hm4⟩:=chg_of hend HG3.out HF3.out.sort HF3.out.live HWA3.out
         have HF4:=Lib.hid (FitS.both (m:=24) (k:=25165824) HF3.out hp hE (hm4.elim (fun h=>.inl h.2.1) fun h=>.inr h.2.1) (by have h2:=HZM.out.1;omega) (by have h2:=HZM.out.2;omega))
         have HM4:=Lib.hid hm4
         have HE4:=Lib.hid (And.intro hp hE)
         have HWA4:=Lib.hid hw4
         have HDL4:=Lib.hid (And.intro hdl4 hdw4)
         have HCN4:=Lib.hid hn4
         have HG4:Hid (groupK.In (fun _=>True) wn16 gv4 (S4.map (grpB ng))):=hG
         have HD4:Hid (TimesIn wn16 rv4 d4):=hT
         clear hend hG hT hn4 hp hE hw4 hdl4 hdw4 hm4
         replace HB:=Lib.hid (HB.out.trans (hq.mono HB.out.size))
         replace HI:=Lib.hid (IntsIn.kept HI.out hq)
         replace HG1:=Lib.hid (HG1.out.kept hq)
         replace HD1:=Lib.hid (HD1.out.kept hq)
         replace HG2:=Lib.hid (HG2.out.kept hq)
         replace HD2:=Lib.hid (HD2.out.kept hq)
         replace HG3:=Lib.hid (HG3.out.kept hq)
         replace HD3:=Lib.hid (HD3.out.kept hq)
         replace HMI:=Lib.hid (HMI.out.kept hq)
         clear hq
         clear HMI HD1 HD2 HD3 HD4 HI HG1
         have hnx:=HNO.out E4 HE4.out
         obtain ⟨rfl,e4⟩:er4=0∧S4=[]:=by
          rcases HM4.out with h|h
          ·exact ⟨h.1,h.2.1.trans hnx⟩
          ·rw [hnx] at h
           exact absurd h.2.2.2.2.2 (by simp [toldP])
         subst e4
         obtain ⟨GA4,gc4,ge⟩:=HG4.out.slice
         change gv4=.slice GA4 0 gc4 at ge
         subst ge
         clear hnx HM4 HNO HE4 HHO HF4 HWA4 HDL4
         clear HG4
         go_wp2_with fail
         refine Calls.mono (HAW.out wn16) ?_
         rintro e wn17 ⟨rfl,hq⟩
         replace HB:=Lib.hid (HB.out.trans (hq.mono HB.out.size))
         replace HG2:=Lib.hid (HG2.out.kept hq)
         replace HG3:=Lib.hid (HG3.out.kept hq)
         clear hq
         have HSM:=Lib.hid (gsame_calls HG2.out (HOS.out▸HG3.out) (fun g hg=>short_grp g (HF2.out.fit (by decide) (by decide) (by decide) _ HKG.out.1 g hg).1))
         go_wp2_with fail
         refine Calls.mono (HSM.out) ?_
         rintro e wn18 ⟨rfl,hq⟩
         replace HB:=Lib.hid (HB.out.trans (hq.mono HB.out.size))
         replace HG2:=Lib.hid (HG2.out.kept hq)
         replace HG3:=Lib.hid (HG3.out.kept hq)
         clear hq
         go_wp2
         go_ret
         exact ⟨rfl,HB.out⟩
      ·have hg3:(er3==0)=false:=by rw [beq_eq_false_iff_ne];exact he3
       have hgn3:(er3 != 0)=true:=by rw [bne,hg3];rfl
       clear he3
       go_wp2_with fail
       refine Calls.mono (HAW.out wn9) ?_
       rintro e wn10 ⟨rfl,hq⟩
       replace HB:=Lib.hid (HB.out.trans (hq.mono HB.out.size))
       replace HI:=Lib.hid (IntsIn.kept HI.out hq)
       replace HG1:=Lib.hid (HG1.out.kept hq)
       replace HD1:=Lib.hid (HD1.out.kept hq)
       replace HG2:=Lib.hid (HG2.out.kept hq)
       replace HD2:=Lib.hid (HD2.out.kept hq)
       replace HG3:=Lib.hid (HG3.out.kept hq)
       replace HD3:=Lib.hid (HD3.out.kept hq)
       clear hq
       go_wp2
       go_ret
       exact ⟨rfl,HB.out⟩
     ·have hg2:(er2==0)=false:=by rw [beq_eq_false_iff_ne];exact he2
      have hgn2:(er2 != 0)=true:=by rw [bne,hg2];rfl
      clear he2
      go_wp2_with fail
      refine Calls.mono (HAW.out wn9) ?_
      rintro e wn10 ⟨rfl,hq⟩
      replace HB:=Lib.hid (HB.out.trans (hq.mono HB.out.size))
      replace HI:=Lib.hid (IntsIn.kept HI.out hq)
      replace HG1:=Lib.hid (HG1.out.kept hq)
      replace HD1:=Lib.hid (HD1.out.kept hq)
      replace HG2:=Lib.hid (HG2.out.kept hq)
      replace HD2:=Lib.hid (HD2.out.kept hq)
      replace HG3:=Lib.hid (HG3.out.kept hq)
      replace HD3:=Lib.hid (HD3.out.kept hq)
      clear hq
      go_wp2
      go_ret
      exact ⟨rfl,HB.out⟩
    ·have hg1:(er1==0)=false:=by rw [beq_eq_false_iff_ne];exact he1
     have hgn1:(er1 != 0)=true:=by rw [bne,hg1];rfl
     clear he1
     go_wp2_with fail
     refine Calls.mono (HAW.out wn9) ?_
     rintro e wn10 ⟨rfl,hq⟩
     replace HB:=Lib.hid (HB.out.trans (hq.mono HB.out.size))
     replace HI:=Lib.hid (IntsIn.kept HI.out hq)
     replace HG1:=Lib.hid (HG1.out.kept hq)
     replace HD1:=Lib.hid (HD1.out.kept hq)
     replace HG2:=Lib.hid (HG2.out.kept hq)
     replace HD2:=Lib.hid (HD2.out.kept hq)
     replace HG3:=Lib.hid (HG3.out.kept hq)
     replace HD3:=Lib.hid (HD3.out.kept hq)
     clear hq
     go_wp2
     go_ret
     exact ⟨rfl,HB.out⟩
end Go.Proofs.Ytjbpbfhgjldliaa
