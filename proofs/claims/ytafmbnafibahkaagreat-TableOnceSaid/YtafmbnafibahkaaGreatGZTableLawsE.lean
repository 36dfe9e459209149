/- The law TableOnce of layer 14. -/
import Derived.Test.YtafmbnafibahkaaGreatGWeighRef
import Derived.Test.YtafmbnafibahkaaGreatGOpen
import Derived.Test.YtafmbnafibahkaaGreatGTableAwake
import Derived.Test.YtafmbnafibahkaaGreatGCalmM
import Derived.Test.YtafmbnafibahkaaGreatGTableSame
namespace Go.Proofs.YtafmbnafibahkaaGreat
open Go Go.RowKit
set_option maxHeartbeats 16000000 in
set_option maxRecDepth 100000 in
theorem tableOnce_calls {w:World}{vc va vb:Value}{cols:List (Int×Bool)}{la lb:List Tm}(hc:ColsIn w vc cols)(ha:TimesIn w va la)(hb':TimesIn w vb lb):GivesAt Tryz.prog 5 #[vc,va,vb] w (.bool true):=by
 obtain ⟨i0,hi,iz0,iz1,iz2⟩:=info_parts Tryz.infoCb46
 have hmc:=hc.len
 unfold maxLen at hmc
 obtain ⟨hb,hB⟩:=start w
 have HC:=Lib.hid hc
 have HAW:=Lib.hid awake_calls
 have HTA:=Lib.hid ha
 have HTB:=Lib.hid hb'
 have HSMA:=Lib.hid (small14_calls 20 ha)
 have HSMB:=Lib.hid (small14_calls 20 hb')
 obtain ⟨Ac,pc,rfl,_⟩:=cols_at hc
 obtain ⟨_,Aa,pa,rfl,-⟩:=times_at ha
 obtain ⟨_,Ab,pb,rfl,-⟩:=times_at hb'
 clear hc ha hb'
 unfold GivesAt
 by_cases h6:cols.length≤6
 ·have d6:decide ((6:Int) < (cols.length:Int))=false:=decide_eq_false (by omega)
  cases hsa:smallL14 la 20 with
  | false =>
   rw [hsa] at HSMA
   clear hsa
   go_enter Tryz.func5,Tryz.ntmps5
   go_wp2_with (first|(first|(go_at_call 12;refine HSMA.out.step ?_;clear HSMA)|(go_at_call 12;refine HSMB.out.step ?_;clear HSMB))|(go_at_call 8;refine HAW.out.step (w0:=w) (B:=w.heap.size) hb hB ?_;clear hb hB;intro wa hb hB))
   go_ret
   exact ⟨rfl,hb⟩
  | true =>
   rw [hsa] at HSMA
   have ha20:=(small14_yes hsa).2
   clear hsa
   cases hsb:smallL14 lb 20 with
   | false =>
    rw [hsb] at HSMB
    clear hsb
    go_enter Tryz.func5,Tryz.ntmps5
    go_wp2_with (first|(first|(go_at_call 12;refine HSMA.out.step ?_;clear HSMA)|(go_at_call 12;refine HSMB.out.step ?_;clear HSMB))|(go_at_call 8;refine HAW.out.step (w0:=w) (B:=w.heap.size) hb hB ?_;clear hb hB;intro wa hb hB))
    go_ret
    exact ⟨rfl,hb⟩
   | true =>
    rw [hsb] at HSMB
    have hb20:=(small14_yes hsb).2
    clear hsb
    have HN:=Lib.hid (table_new_calls (w:=w) (name:=abc14) HC.out (by omega) (by decide))
    unfold TNewEnd at HN
    have HG0:=Lib.hid (newA_good abc14 cols)
    have HNO:=Lib.hid (newA_none abc14 cols)
    have HRA:=Lib.hid ha20
    have HRB:=Lib.hid hb20
    go_enter Tryz.func5,Tryz.ntmps5
    go_wp2_with (first|(go_at_call 12;refine HSMA.out.step ?_;clear HSMA)|(go_at_call 12;refine HSMB.out.step ?_;clear HSMB))
    refine HN.out.mono ?_
    rintro e w1 ⟨v1,rfl,h1,hq1⟩
    generalize newN abc14 cols=n0 at *
    generalize newA abc14 cols=t0 at *
    obtain ⟨B1,q1,B2,q2,B3,q3,rfl,hT1⟩:=h1.trueQ.parts
    have hx1:=tbox_lit w1 28 t0.name (.slice B1 t0.cols.length q1) (.slice B2 (cutL t0.R).length q2) (.slice B3 t0.T.length q3)
    have hq2:=Below.alloc (.refl w1.heap.size w1) (Nat.le_refl _) (.cells #[.string (t0).name,.slice B1 (t0).cols.length q1,.slice B2 (cutL (t0).R).length q2,.slice B3 (t0).T.length q3] 28)
    have hT2:=hT1.of.kept hq2
    have hb2:=hq1.trans (hq2.mono hq1.size)
    have HX1:=Lib.hid hx1
    have HT2:=Lib.hid hT2
    have HB2:=Lib.hid hb2
    have HAP1:=Lib.hid (table_apply_calls (t:=t0) (l:=la) ⟨_,_,_,rfl,hT2⟩ HG0.out (HTA.out.kept hb2) (by omega))
    unfold TApplyEnd at HAP1
    obtain ⟨x0,x1,x2,x3,_⟩:=hx1.cells
    clear h1 hq1 hq2 hT1 hb hB HN hT2 hx1 hb2
    go_wp2_with fail
    generalize w1.alloc _=w2 at *
    generalize w1.heap.size=O0 at *
    obtain ⟨n1,hn1⟩:∃ n1,applyN t0 la=n1:=⟨_,rfl⟩
    obtain ⟨x,hx⟩:∃ x,applyT t0 la=x:=⟨_,rfl⟩
    have HGX:=Lib.hid (HG0.out.apply la)
    rw [hn1,hx] at HAP1
    rw [hx] at HGX
    have HN1:=Lib.hid hn1
    have HXE:=Lib.hid hx
    refine HAP1.out.mono ?_
    clear x0 x1 x2 x3 hn1 hx
    rintro e w3 ⟨v3,rfl,h3,hq3⟩
    obtain ⟨C1,c1,C2,c2,C3,c3,rfl,hT3⟩:=h3.trueQ.parts
    have hx3:=tbox_lit w3 28 x.name (.slice C1 x.cols.length c1) (.slice C2 (cutL x.R).length c2) (.slice C3 x.T.length c3)
    have hq4:=Below.alloc (.refl w3.heap.size w3) (Nat.le_refl _) (.cells #[.string (x).name,.slice C1 (x).cols.length c1,.slice C2 (cutL (x).R).length c2,.slice C3 (x).T.length c3] 28)
    have hT4:=hT3.of.kept hq4
    have hq24:=hq3.trans (hq4.mono hq3.size)
    have hb4:=HB2.out.trans (hq24.mono HB2.out.size)
    have HX3:=Lib.hid hx3
    have HT4:=Lib.hid hT4
    have HB4:=Lib.hid hb4
    have HX1':=Lib.hid (HX1.out.later hq24)
    have HT2':=Lib.hid (HT2.out.kept hq24)
    have HAP2:=Lib.hid (table_apply_calls (t:=x) (l:=lb) ⟨_,_,_,rfl,hT4⟩ HGX.out (HTB.out.kept hb4) (by have:=HRB.out;omega))
    unfold TApplyEnd at HAP2
    obtain ⟨x0,x1,x2,x3,_⟩:=hx3.cells
    clear h3 hq3 hq4 hT3 hT4 hq24 hb4 hx3 HX1 HT2 HB2 HAP1
    go_wp2_with fail
    generalize w3.alloc _=w4 at *
    generalize w3.heap.size=O1 at *
    obtain ⟨n2,hn2⟩:∃ n2,applyN x lb=n2:=⟨_,rfl⟩
    obtain ⟨y,hy⟩:∃ y,applyT x lb=y:=⟨_,rfl⟩
    have HGY:=Lib.hid (HGX.out.apply lb)
    rw [hn2,hy] at HAP2
    rw [hy] at HGY
    have HN2:=Lib.hid hn2
    have HYE:=Lib.hid hy
    refine HAP2.out.mono ?_
    clear x0 x1 x2 x3 hn2 hy
    rintro e w5 ⟨v5,rfl,h5,hq5⟩
    obtain ⟨D1,d1,D2,d2,D3,d3,rfl,hT5⟩:=h5.trueQ.parts
    have hq6:=Below.alloc (.refl w5.heap.size w5) (Nat.le_refl _) (.cells #[.string (y).name,.slice D1 (y).cols.length d1,.slice D2 (cutL (y).R).length d2,.slice D3 (y).T.length d3] 28)
    have hq46:=hq5.trans (hq6.mono hq5.size)
    have HX5:=Lib.hid (tbox_lit w5 28 y.name (.slice D1 y.cols.length d1) (.slice D2 (cutL y.R).length d2) (.slice D3 y.T.length d3))
    have HT6:=Lib.hid (hT5.of.kept hq6)
    have HB6:=Lib.hid (HB4.out.trans (hq46.mono HB4.out.size))
    have HX3':=Lib.hid (HX3.out.later hq46)
    have HT4':=Lib.hid (HT4.out.kept hq46)
    have HX1s:=Lib.hid (HX1'.out.later hq46)
    have HT2s:=Lib.hid (HT2'.out.kept hq46)
    clear h5 hq5 hq6 hq46 hT5 HX1' HT2' HX3 HT4 HB4 HAP2
    by_cases hz:n0=0∧n1=0∧n2=0
    ·obtain ⟨z0,z1,z2⟩:=hz
     have k0:(n0 != 0)=false:=by simp [z0]
     have k1:(n1 != 0)=false:=by simp [z1]
     have k2:(n2 != 0)=false:=by simp [z2]
     have HZC:Hid (applyN t0 (la++lb)=0):=by
      refine once_code (HN1.out.trans z1) ?_
      rw [HXE.out];exact HN2.out.trans z2
     have HZP:Hid (packT (applyT t0 (la++lb))=packT y):=by
      have:=once_pack (b:=lb) (HN1.out.trans z1) (by rw [HXE.out];exact HN2.out.trans z2)
      rw [HXE.out,HYE.out] at this
      exact this
     have HEC:Hid (applyN (packT x) lb=0):=(packed_code lb).trans (HN2.out.trans z2)
     have HEP:Hid (packT (applyT (packT x) lb)=packT y):=by
      have:=packed_pack (HN2.out.trans z2)
      rw [HYE.out] at this
      exact this
     have HGZ:=Lib.hid (HG0.out.apply (la++lb))
     have HGE:=Lib.hid (HGX.out.pack.apply lb)
     have HRC:Hid ((la++lb).length≤1000):=by
      have:=HRA.out
      have:=HRB.out
      show (la++lb).length≤1000
      rw [List.length_append];omega
     obtain ⟨lc,hlc⟩:∃ lc,la++lb=lc:=⟨_,rfl⟩
     have HLC:=Lib.hid hlc
     rw [hlc] at HZC HZP HGZ HRC
     obtain ⟨z,hz⟩:∃ z,applyT t0 lc=z:=⟨_,rfl⟩
     obtain ⟨ee,he⟩:∃ ee,applyT (packT x) lb=ee:=⟨_,rfl⟩
     have HZE:=Lib.hid hz
     have HEE:=Lib.hid he
     rw [hz] at HZP HGZ
     rw [he] at HEP HGE
     clear z0 z1 z2 hz he hlc
     go_wp2_with fail
     generalize w5.alloc _=w6 at *
     generalize w5.heap.size=O2 at *
     obtain ⟨tva,hSa,hRa⟩:=HTA.out
     obtain ⟨tvb,hSb,hRb⟩:=HTB.out
     have HSa:=Lib.hid hSa
     have HRa:=Lib.hid hRa
     have HSb:=Lib.hid hSb
     have HRb:=Lib.hid hRb
     clear hSa hRa hSb hRb
     refine wp_region_m (boxC w6) (fun k=>k==3||k==5||k==10||k==11) (fun k m=>(m==3&&[1,2].contains k)||(m==5&&[1,2,3,4].contains k)||(m==10&&[].contains k)||(m==11&&[0,1,2,3,4,5,6,7,8,10].contains k)) (fun k m=>(m==3&&[5,6,7,8,9,11,12].contains k)||(m==5&&[6,7,8,9,11,12].contains k)||(m==10&&[11,12].contains k)||(m==11&&[12].contains k)) (fun m v w w1=>match m with|10=>Below w.heap.size w w1∧v=.pointer (some ⟨w.heap.size,0,none⟩)|_=>True) (by kernel_rfl) (by kernel_rfl) (by kernel_rfl) (by kernel_rfl) (by intro m hm;revert hm;simp;try omega) (boxC_stable w6) (boxC_start w6) ?_
     refine m_fix rfl ?_
     apply Exists.intro
     refine ⟨fun ph a wz hp hc hk hf K hK=>?_,?_⟩
     ·have hb:Below w6.heap.size w6 wz:=hc.1
      have h7:=hk 7 (by kernel_rfl)
      clear hk hf hc
      obtain ⟨y0,y1,y2,y3,_⟩:=(HX1s.out.later hb).cells
      go_simp
      exact hK _ _ (Below.refl _ _) rfl
     refine m_var (ownM 3 w6.heap.size 0 []) rfl stable_ownM (fun ph a wz hp hc hk hf K hK=>?_) ?_
     ·have hb:Below w6.heap.size w6 wz:=hc.1
      clear hk hf
      have HC11:=Lib.hid (hc.2 (hp.1 11 rfl rfl))
      go_simp
      refine hK _ _ (Below.alloc (.refl _ _) (Nat.le_refl _) _) (fun _=>⟨own_empty 2 hb.size (by simp),fun b hb2 hk=>?_⟩)
      simp only [Value.ownBlock,Option.some.injEq] at hk
      obtain ⟨b2,e2,_,h2,_⟩:=HC11.out _ hb2
      simp only [Value.pointer.injEq,Option.some.injEq,Addr.mk.injEq,and_true] at e2
      omega
     refine m_fix rfl ?_
     apply Exists.intro
     refine ⟨fun ph a wz hp hc hk hf K hK=>?_,?_⟩
     ·have h1:=hk 1 (by kernel_rfl)
      clear hk hf hc
      go_simp
      exact hK _ _ (Below.refl _ _) rfl
     refine m_store (ownM 5 w6.heap.size (0+la.length) ([]++timesV tva)) rfl stable_ownM (fun ph a wz hp hph hc hk hf K hK=>?_) ?_
     ·have hb:Below w6.heap.size w6 wz:=hc.1
      obtain ⟨v67,h67,S67⟩:=mheld_at hf 1 rfl (by kernel_rfl)
      have h68:=mheld_isV hf 0 rfl (by kernel_rfl)
      clear hk hf
      obtain ⟨ho,hoff⟩:=S67 hph
      refine step_append_srcS rfl (.tmp 67) (.tmp 68) 26 rfl 46 i0 (.agg #[.slice none 0 0,.int .i64 0]) 2 32 Tryz.underlying26 hi iz0 iz1 iz2 rfl (by decide) (B:=w6.heap.size) v67 0 [] ?_ ho (.slice Aa la.length pa) la.length (timesV tva) ?_ (SliceOf.later HSa.out (HB6.out.trans (hb.mono HB6.out.size))) HRa.out.one_cell ?_ ?_ ?_ fun v' w' r1 r2 r3 r4=>?_
      ·simp [Act.eval,h67]
      ·simp [Act.eval,h68]
      ·have:=HRA.out;unfold maxLen;omega
      ·have:=HRA.out;omega
      ·exact hb.size
      exact hK _ _ trivial (hc.grown ho hoff (by decide) (by decide) r2) (fun _=>⟨r1,hoff.grown hc (hp.1 11 rfl rfl) (by decide) r3⟩)
     refine m_fix rfl ?_
     apply Exists.intro
     refine ⟨fun ph a wz hp hc hk hf K hK=>?_,?_⟩
     ·have h2:=hk 2 (by kernel_rfl)
      clear hk hf hc
      go_simp
      exact hK _ _ (Below.refl _ _) rfl
     refine m_store (tillM 11 (LitP (oldQ w6.heap.size) lc)) rfl (stable_tillM LitP.kept) (fun ph a wz hp hph hc hk hf K hK=>?_) ?_
     ·have hb:Below w6.heap.size w6 wz:=hc.1
      obtain ⟨v69,h69,S69⟩:=mheld_at hf 1 rfl (by kernel_rfl)
      have h70:=mheld_isV hf 0 rfl (by kernel_rfl)
      clear hk hf
      obtain ⟨ho,hoff⟩:=S69 hph
      refine step_append_srcS rfl (.tmp 69) (.tmp 70) 26 rfl 46 i0 (.agg #[.slice none 0 0,.int .i64 0]) 2 32 Tryz.underlying26 hi iz0 iz1 iz2 rfl (by decide) (B:=w6.heap.size) v69 (0+la.length) ([]++timesV tva) ?_ ho (.slice Ab lb.length pb) lb.length (timesV tvb) ?_ (SliceOf.later HSb.out (HB6.out.trans (hb.mono HB6.out.size))) HRb.out.one_cell ?_ ?_ ?_ fun v' w' r1 r2 r3 r4=>?_
      ·simp [Act.eval,h69]
      ·simp [Act.eval,h70]
      ·have:=HRA.out;have:=HRB.out;unfold maxLen;omega
      ·have:=HRA.out;have:=HRB.out;omega
      ·exact hb.size
      have hc2:=hc.grown (v':=v') (k:=5) ho hoff (by decide) (by decide) r2
      refine hK _ _ trivial hc2 (fun _=>?_)
      rw [←HLC.out]
      obtain ⟨A9,p9,rfl⟩:=r1.len
      have hbw:=HB6.out.trans (Below.mono hc2.1 HB6.out.size)
      have hsl:=r1.slice
      rw [Nat.zero_add,List.nil_append,←timesV_append,←List.length_append] at hsl
      refine ⟨A9,p9,by rw [Nat.zero_add,List.length_append],?_⟩
      have hrr:RowsOf w' (tva++tvb) (la++lb):=(HRa.out.kept hbw).append (HRb.out.kept hbw)
      rw [List.length_append] at hsl ⊢
      refine ⟨tva++tvb,by rw [List.length_append];exact hsl,hrr,fun t ht=>?_⟩
      rcases List.mem_append.1 ht with ht|ht
      ·exact rows_oldQ HRa.out HB6.out.size t ht
      ·exact rows_oldQ HRb.out HB6.out.size t ht
     refine m_var (appM 0 z) rfl stable_appM (fun ph a wz hp hc hk hf K hK=>?_) ?_
     ·have hb:Below w6.heap.size w6 wz:=hc.1
      have h66:=mheld_isV hf 5 rfl (by kernel_rfl)
      obtain ⟨v71,h71,S71⟩:=mheld_at hf 0 rfl (by kernel_rfl)
      clear hk hf
      obtain ⟨A9,p9,rfl,hlit⟩:=S71 (hp.1 11 rfl rfl)
      have HLIT:=Lib.hid hlit
      have HC11:=Lib.hid (hc.2 (hp.1 11 rfl rfl))
      clear hc hp hlit S71
      go_simp
      have hap:=table_apply_q (phQ ph) (w:=wz) (t:=t0) (l:=lc) ⟨_,_,_,rfl,(HT2s.out.kept hb).noneQ _ HNO.out.1 HNO.out.2⟩ HG0.out (fun u hu b hb2=>by
       obtain ⟨b2,e2,_,h2,_⟩:=HC11.out _ hb2
       simp only [Value.pointer.injEq,Option.some.injEq,Addr.mk.injEq,and_true] at e2
       exact box_fresh hu (by omega)) (HLIT.out.mono fun u hu b hb2=>by
       obtain ⟨b2,e2,h1,_,_⟩:=HC11.out _ hb2
       simp only [Value.pointer.injEq,Option.some.injEq,Addr.mk.injEq,and_true] at e2
       exact hu b (by omega)) HRC.out
      unfold TApplyQ at hap
      rw [HZC.out,HZE.out] at hap
      refine Calls.mono hap ?_
      rintro e w1 ⟨v1,rfl,h1,hq⟩
      exact hK _ _ hq ⟨⟨v1,rfl⟩,fun _=>⟨v1,rfl,h1⟩⟩
     refine m_var (appM 0 z) rfl stable_appM (fun ph a wz hp hc hk hf K hK=>?_) ?_
     ·obtain ⟨v72,h72,S72⟩:=mheld_at hf 0 rfl (by kernel_rfl)
      clear hk hf
      go_simp
      exact hK _ _ (Below.refl _ _) S72
     refine m_var (tblM z) rfl stable_tblM (fun ph a wz hp hc hk hf K hK=>?_) ?_
     ·have hb:Below w6.heap.size w6 wz:=hc.1
      obtain ⟨v65,h65,S65⟩:=mheld_at hf 0 rfl (by kernel_rfl)
      clear hk hf
      obtain ⟨-,hr⟩:=S65
      obtain ⟨v1,rfl,h1⟩:=hr (hp.1 11 rfl rfl)
      go_simp
      exact hK _ _ (Below.refl _ _) (fun _=>h1)
     refine m_fix rfl ?_
     apply Exists.intro
     refine ⟨fun ph a wz hp hc hk hf K hK=>?_,?_⟩
     ·have hb:Below w6.heap.size w6 wz:=hc.1
      obtain ⟨v65,h65,S65⟩:=mheld_at hf 1 rfl (by kernel_rfl)
      clear hk hf hc
      obtain ⟨⟨v1,rfl⟩,-⟩:=S65
      go_simp
      exact hK _ _ (Below.refl _ _) rfl
     refine m_store boxM rfl stable_boxM (fun ph a wz hp hph hc hk hf K hK=>?_) ?_
     ·have hb:Below w6.heap.size w6 wz:=hc.1
      clear hk hf
      go_simp
      refine hK _ _ ⟨Below.alloc (.refl _ _) (Nat.le_refl _) _,rfl⟩ ⟨hc.1.trans ((Below.alloc (.refl _ _) (Nat.le_refl _) _).mono hc.1.size),fun _ p hp10=>?_⟩ (setP_self _ _ _)
      rw [setP_self] at hp10
      obtain rfl:=Option.some.inj hp10
      exact ⟨_,rfl,hb.size,by simp,tbox_lit _ _ _ _ _ _,NoInt.box _ _ _ _ _ _ _ _ _ _ _ _⟩
     refine m_store (endM z) rfl stable_endM (fun ph a wz hp hph hc hk hf K hK=>?_) ?_
     ·have hb:Below w6.heap.size w6 wz:=hc.1
      obtain ⟨v13,h13,S13⟩:=mheld_at hf 0 rfl (by kernel_rfl)
      obtain ⟨v73,h73,S73⟩:=mheld_at hf 2 rfl (by kernel_rfl)
      clear hk hf
      have hbx:=hc.2 hph _ S13
      obtain ⟨b2,rfl,hb3,hl3,hz3,hni3⟩:=hbx
      obtain ⟨A4,p4,A5,p5,A6,p6,rfl,hT⟩:=(S73 hph).parts
      have hq8:∀ u,phQ ph u→RowOff (boxV b2) u:=fun u hu=>hu b2 S13
      have hat:TblAt (phQ ph) wz b2 (newT ⟨#[]⟩ []):=⟨none,0,none,0,none,0,hz3,⟨nil_cols _ _ _,BlksQ.nil_ _ _ _ _,TimesQ.nil_ _ _ _ _⟩,hni3⟩
      have hst:=hat.store hq8 hT
      have hbe:=below_four hb hb3 (.string z.name) (.slice A4 z.cols.length p4) (.slice A5 (cutL z.R).length p5) (.slice A6 z.T.length p6)
      obtain ⟨y0,y1,y2,y3,_⟩:=hz3.cells
      obtain ⟨f0,f1,f2,f3⟩:=hz3.free
      have HST:=Lib.hid hst
      have HBE:=Lib.hid hbe
      have HS13:=Lib.hid S13
      clear hst hbe hat hT hz3 hni3 S13 S73 hc hp
      go_simp
      exact hK undef _ trivial ⟨HBE.out,fun h=>by rw [setP_self] at h;cases h⟩ (fun p hp10=>by
       rw [setP_ne _ (by decide),HS13.out] at hp10
       obtain rfl:=Option.some.inj hp10
       exact ⟨_,rfl,HST.out.mono fun _ _=>trivial⟩)
     refine m_fix rfl ?_
     apply Exists.intro
     refine ⟨fun ph a wz hp hc hk hf K hK=>?_,?_⟩
     ·have h74:=mheld_isV hf 2 rfl (by kernel_rfl)
      clear hk hf hc
      go_simp
      exact hK _ _ (Below.refl _ _) rfl
     refine m_nil ?_
     refine ⟨keeps_m (fun m hm=>?_),?_⟩
     ·have hm2:m=3∨m=5∨m=10∨m=11:=by simpa [or_assoc] using hm
      rcases hm2 with rfl|rfl|rfl|rfl
      ·exact ⟨.inr (.inr (keep_isV _)),.inr (.inr keep_own_self),.inr (.inr (keep_isV _)),.inl rfl,.inr (.inr (keep_isV _)),.inr (.inl rfl),.inr (.inl rfl),.inr (.inl rfl),.inr (.inl rfl),.inr (.inl rfl),.inr (.inr (keep_box_other (by decide))),.inr (.inl rfl),.inr (.inl rfl),trivial⟩
      ·exact ⟨.inr (.inr (keep_isV _)),.inr (.inr (keep_own_past rfl rfl (by decide))),.inr (.inr (keep_isV _)),.inr (.inr keep_own_self),.inr (.inr (keep_isV _)),.inl rfl,.inr (.inl rfl),.inr (.inl rfl),.inr (.inl rfl),.inr (.inl rfl),.inr (.inr (keep_box_other (by decide))),.inr (.inl rfl),.inr (.inl rfl),trivial⟩
      ·exact ⟨.inr (.inr (keep_isV _)),.inr (.inr (keep_own_box (by decide) fun _ _ _ h=>h)),.inr (.inr (keep_isV _)),.inr (.inr (keep_own_box (by decide) fun _ _ _ h=>h)),.inr (.inr (keep_isV _)),.inr (.inr (keep_till (by decide) fun _ _ _ _ _ _ _ h he=>LitP.kept _ _ _ he.1 h)),.inr (.inr (keep_app_box fun _ _ _ h=>h)),.inr (.inr (keep_app_box fun _ _ _ h=>h)),.inr (.inr (keep_tbl_box fun _ _ _ h=>h)),.inr (.inr (keep_isV _)),.inl rfl,.inr (.inl rfl),.inr (.inl rfl),trivial⟩
      ·exact ⟨.inr (.inr (keep_isV _)),.inr (.inr (keep_own_past rfl rfl (by decide))),.inr (.inr (keep_isV _)),.inr (.inr (keep_own_past rfl rfl (by decide))),.inr (.inr (keep_isV _)),.inr (.inr keep_till_self),.inr (.inr keep_app_self),.inr (.inr keep_app_self),.inr (.inr keep_tbl_self),.inr (.inr (keep_isV _)),.inr (.inr (keep_box_other (by decide))),.inl rfl,.inr (.inl rfl),trivial⟩
     intro ph w7 hps hc
     simp only [mlexL,mEnd]
     rintro _ rfl v67 S67 _ rfl v69 S69 _ rfl v71 S71 v72 S72 v65 S65 v73 S73 _ rfl v13 S13 _ hst11 _ rfl
     obtain ⟨O3,rfl,hA3⟩:=hst11 v13 S13
     have hq7:=hc.1
     have HX5':=Lib.hid (HX5.out.later hq7)
     have HT6':=Lib.hid (HT6.out.kept hq7)
     have HX3s:=Lib.hid (HX3'.out.later hq7)
     have HT4s:=Lib.hid (HT4'.out.kept hq7)
     have HB7:=Lib.hid (HB6.out.trans (hq7.mono HB6.out.size))
     have HA3:=Lib.hid hA3
     clear hst11 hA3 hc hps S13 S67 S69 S71 S72 S65 S73 HX5 HT6 HX3' HT4' HB6 hq7 HX1s HT2s
     have HPX:=Lib.hid (table_pack_calls (w:=w7) (t:=x) ⟨_,_,_,rfl,HT4s.out⟩ HGX.out)
     unfold TPackEnd at HPX
     obtain ⟨x0,x1,x2,x3,_⟩:=HX3s.out.cells
     simp only [Act.put,List.setIfInBounds_toArray,List.set_cons_zero,List.set_cons_succ]
     go_wp2_with fail
     refine HPX.out.mono ?_
     clear x0 x1 x2 x3
     rintro e w8 ⟨v8,rfl,h8,hq8⟩
     obtain ⟨E1,e1,E2,e2,E3,e3,rfl,hT8⟩:=h8.trueQ.parts
     have HB8:=Lib.hid (HB7.out.trans (hq8.mono HB7.out.size))
     have HAP3:=Lib.hid (table_apply_calls (w:=w8) (t:=packT x) (l:=lb) ⟨_,_,_,rfl,hT8.of⟩ HGX.out.pack (HTB.out.kept HB8.out) (by have:=HRB.out;omega))
     unfold TApplyEnd at HAP3
     rw [HEC.out,HEE.out] at HAP3
     have HQ8:=Lib.hid hq8
     clear h8 hq8 hT8 HPX
     go_wp2_with fail
     refine HAP3.out.mono ?_
     rintro e w9 ⟨v9,rfl,h9,hq9⟩
     obtain ⟨F1,f1,F2,f2,F3,f3,rfl,hT9⟩:=h9.trueQ.parts
     have hq10:=Below.alloc (.refl w9.heap.size w9) (Nat.le_refl _) (.cells #[.string (ee).name,.slice F1 (ee).cols.length f1,.slice F2 (cutL (ee).R).length f2,.slice F3 (ee).T.length f3] 28)
     have hq9b:=hq9.trans (hq10.mono hq9.size)
     have hq79:=HQ8.out.trans (hq9b.mono HQ8.out.size)
     have hx9:=tbox_lit w9 28 ee.name (.slice F1 ee.cols.length f1) (.slice F2 (cutL ee.R).length f2) (.slice F3 ee.T.length f3)
     have HX9:=Lib.hid hx9
     have HT10:=Lib.hid (hT9.of.kept hq10)
     have HX5s:=Lib.hid (HX5'.out.later hq79)
     have HT6s:=Lib.hid (HT6'.out.kept hq79)
     have HA3s:=Lib.hid (HA3.out.kept hq79)
     have HB10:=Lib.hid (HB8.out.trans (hq9b.mono HB8.out.size))
     have HR1:=Lib.hid (table_rows_calls (t:=y) ⟨_,_,_,rfl,HT6s.out⟩ HGY.out)
     unfold TRowsEnd at HR1
     obtain ⟨x0,x1,x2,x3,_⟩:=HX5s.out.cells
     clear h9 hq9 hq10 hq9b hq79 hx9 hT9 HX5' HT6' HA3 HAP3
     go_wp2_with fail
     generalize w9.alloc _=w10 at *
     generalize w9.heap.size=O4 at *
     refine HR1.out.mono ?_
     clear x0 x1 x2 x3
     rintro e w11 ⟨v11,rfl,h11,hq11⟩
     obtain ⟨G1,g1,G2,g2,G3,g3,hx12,hT12,-⟩:=(HA3s.out.kept hq11).parts
     have HX12:=Lib.hid hx12
     have HT12:=Lib.hid hT12.of
     have HR2:=Lib.hid (table_rows_calls (w:=w11) (t:=z) ⟨_,_,_,rfl,hT12.of⟩ HGZ.out)
     unfold TRowsEnd at HR2
     obtain ⟨x0,x1,x2,x3,_⟩:=hx12.cells
     have HR11:=Lib.hid h11
     have HQ11:=Lib.hid hq11
     clear h11 hq11 hx12 hT12 HR1 HA3s
     go_wp2_with fail
     refine HR2.out.mono ?_
     clear x0 x1 x2 x3
     rintro e w12 ⟨v12,rfl,h12,hq12⟩
     have hq1012:=HQ11.out.trans (hq12.mono HQ11.out.size)
     have HR3:=Lib.hid (table_rows_calls (w:=w12) (t:=ee) ⟨_,_,_,rfl,HT10.out.kept hq1012⟩ HGE.out)
     unfold TRowsEnd at HR3
     obtain ⟨x0,x1,x2,x3,_⟩:=(HX9.out.later hq1012).cells
     have HR12:=Lib.hid h12
     have HQ12:=Lib.hid hq12
     clear h12 hq12 hq1012 HR2
     go_wp2_with fail
     refine HR3.out.mono ?_
     clear x0 x1 x2 x3
     rintro e w13 ⟨v13,rfl,h13,hq13⟩
     have hq1113:=HQ12.out.trans (hq13.mono HQ12.out.size)
     have hq1013:=HQ11.out.trans (hq1113.mono HQ11.out.size)
     have HR1y:Hid (TimesIn w13 v11 y.rows):=HR11.out.kept hq1113
     have HR1z:Hid (TimesIn w13 v12 y.rows):=by
      have:=HR12.out.kept hq13
      have e:z.rows=y.rows:=congrArg Tbl.R HZP.out
      rw [e] at this
      exact this
     have HR1e:Hid (TimesIn w13 v13 y.rows):=by
      have e:ee.rows=y.rows:=congrArg Tbl.R HEP.out
      rw [e] at h13
      exact h13
     have HXY:=Lib.hid (HX5s.out.later hq1013)
     have HTY:=Lib.hid (HT6s.out.kept hq1013)
     have HXZ:=Lib.hid (HX12.out.later hq1113)
     have HTZ:=Lib.hid (HT12.out.kept hq1113)
     have HXE2:=Lib.hid (HX9.out.later hq1013)
     have HTE:=Lib.hid (HT10.out.kept hq1013)
     have HB13:=Lib.hid (HB10.out.trans (hq1013.mono HB10.out.size))
     have HSR:=Lib.hid (short_fits HGY.out.rfits HGY.out.cols)
     have HGP:=Lib.hid HGY.out.pack
     clear h13 hq13 hq1113 hq1013 HR3 HR11 HR12 HQ11 HQ12 HX5s HT6s HX12 HT12 HX9 HT10 HB10
     go_wp2_with fail
     refine wp_region_calm (offC w13) (fun _=>false) (fun _=>false) anyE false (by kernel_rfl) (by kernel_rfl) (by kernel_rfl) (by kernel_rfl) (by intro m hm;revert hm;simp;try omega) (offC_stable _) (offC_start _) ?_
     refine calm_fixA rfl rfl ?_
     apply Exists.intro
     refine ⟨fun a wz hc hk hf K hK=>?_,?_⟩
     ·have hb:Below w13.heap.size w13 wz:=hc rfl
      clear hk hf hc
      go_simp
      refine Calls.mono (HAW.out wz) ?_
      rintro e w1 ⟨rfl,hq⟩
      exact hK _ _ hq rfl
     refine calm_fixA rfl rfl ?_
     apply Exists.intro
     refine ⟨fun a wz hc hk hf K hK=>?_,?_⟩
     ·have h97:=held_isV hf 0 rfl (by kernel_rfl)
      clear hk hf hc
      go_simp
      exact hK _ _ (Below.refl _ _) rfl
     refine calm_fixA rfl rfl ?_
     apply Exists.intro
     refine ⟨fun a wz hc hk hf K hK=>?_,?_⟩
     ·have h14:=hk 14 (by kernel_rfl)
      have h98:=held_isV hf 0 rfl (by kernel_rfl)
      clear hk hf hc
      go_simp
      exact hK _ _ (Below.refl _ _) rfl
     refine calm_fixA rfl rfl ?_
     apply Exists.intro
     refine ⟨fun a wz hc hk hf K hK=>?_,?_⟩
     ·have h99:=held_isV hf 0 rfl (by kernel_rfl)
      have h98:=held_isV hf 1 rfl (by kernel_rfl)
      clear hk hf hc
      go_simp
      exact hK _ _ (Below.refl _ _) rfl
     refine calm_fixA rfl rfl ?_
     apply Exists.intro
     refine ⟨fun a wz hc hk hf K hK=>?_,?_⟩
     ·have h98:=held_isV hf 2 rfl (by kernel_rfl)
      have h100:=held_isV hf 0 rfl (by kernel_rfl)
      clear hk hf hc
      go_simp
      exact hK _ _ (Below.refl _ _) rfl
     refine calm_fixA rfl rfl ?_
     apply Exists.intro
     refine ⟨fun a wz hc hk hf K hK=>?_,?_⟩
     ·have h101:=held_isV hf 0 rfl (by kernel_rfl)
      clear hk hf hc
      go_simp
      exact hK _ _ (Below.refl _ _) rfl
     refine calm_fixA rfl rfl ?_
     apply Exists.intro
     refine ⟨fun a wz hc hk hf K hK=>?_,?_⟩
     ·have h16:=hk 16 (by kernel_rfl)
      have h102:=held_isV hf 0 rfl (by kernel_rfl)
      clear hk hf hc
      go_simp
      exact hK _ _ (Below.refl _ _) rfl
     refine calm_fixA rfl rfl ?_
     apply Exists.intro
     refine ⟨fun a wz hc hk hf K hK=>?_,?_⟩
     ·have h103:=held_isV hf 0 rfl (by kernel_rfl)
      have h102:=held_isV hf 1 rfl (by kernel_rfl)
      clear hk hf hc
      go_simp
      exact hK _ _ (Below.refl _ _) rfl
     refine calm_fixA rfl rfl ?_
     apply Exists.intro
     refine ⟨fun a wz hc hk hf K hK=>?_,?_⟩
     ·have h102:=held_isV hf 2 rfl (by kernel_rfl)
      have h104:=held_isV hf 0 rfl (by kernel_rfl)
      clear hk hf hc
      go_simp
      exact hK _ _ (Below.refl _ _) rfl
     refine calm_fixA rfl rfl ?_
     apply Exists.intro
     refine ⟨fun a wz hc hk hf K hK=>?_,?_⟩
     ·have h105:=held_isV hf 0 rfl (by kernel_rfl)
      clear hk hf hc
      go_simp
      exact hK _ _ (Below.refl _ _) rfl
     refine calm_fixA rfl rfl ?_
     apply Exists.intro
     refine ⟨fun a wz hc hk hf K hK=>?_,?_⟩
     ·have h17:=hk 17 (by kernel_rfl)
      have h106:=held_isV hf 0 rfl (by kernel_rfl)
      clear hk hf hc
      go_simp
      exact hK _ _ (Below.refl _ _) rfl
     refine calm_fixA rfl rfl ?_
     apply Exists.intro
     refine ⟨fun a wz hc hk hf K hK=>?_,?_⟩
     ·have h19:=hk 19 (by kernel_rfl)
      have h106:=held_isV hf 1 rfl (by kernel_rfl)
      clear hk hf hc
      go_simp
      exact hK _ _ (Below.refl _ _) rfl
     refine calm_fixA rfl rfl ?_
     apply Exists.intro
     refine ⟨fun a wz hc hk hf K hK=>?_,?_⟩
     ·have hb:Below w13.heap.size w13 wz:=hc rfl
      have h107:=held_isV hf 1 rfl (by kernel_rfl)
      have h108:=held_isV hf 0 rfl (by kernel_rfl)
      have h106:=held_isV hf 2 rfl (by kernel_rfl)
      clear hk hf hc
      have hsm:=same_times (HR1y.out.kept hb) (HR1z.out.kept hb) (by have:=HGY.out.rfew;omega) HSR.out HSR.out
      rw [decide_eq_true rfl] at hsm
      go_simp
      refine Calls.mono (hsm) ?_
      rintro e w1 ⟨rfl,hq⟩
      exact hK _ _ hq rfl
     refine calm_fixA rfl rfl ?_
     apply Exists.intro
     refine ⟨fun a wz hc hk hf K hK=>?_,?_⟩
     ·have h106:=held_isV hf 3 rfl (by kernel_rfl)
      have h109:=held_isV hf 0 rfl (by kernel_rfl)
      clear hk hf hc
      go_simp
      exact hK _ _ (Below.refl _ _) rfl
     refine calm_fixA rfl rfl ?_
     apply Exists.intro
     refine ⟨fun a wz hc hk hf K hK=>?_,?_⟩
     ·have h110:=held_isV hf 0 rfl (by kernel_rfl)
      clear hk hf hc
      go_simp
      exact hK _ _ (Below.refl _ _) rfl
     refine calm_fixA rfl rfl ?_
     apply Exists.intro
     refine ⟨fun a wz hc hk hf K hK=>?_,?_⟩
     ·have h17:=hk 17 (by kernel_rfl)
      have h111:=held_isV hf 0 rfl (by kernel_rfl)
      clear hk hf hc
      go_simp
      exact hK _ _ (Below.refl _ _) rfl
     refine calm_fixA rfl rfl ?_
     apply Exists.intro
     refine ⟨fun a wz hc hk hf K hK=>?_,?_⟩
     ·have h21:=hk 21 (by kernel_rfl)
      have h111:=held_isV hf 1 rfl (by kernel_rfl)
      clear hk hf hc
      go_simp
      exact hK _ _ (Below.refl _ _) rfl
     refine calm_fixA rfl rfl ?_
     apply Exists.intro
     refine ⟨fun a wz hc hk hf K hK=>?_,?_⟩
     ·have hb:Below w13.heap.size w13 wz:=hc rfl
      have h112:=held_isV hf 1 rfl (by kernel_rfl)
      have h113:=held_isV hf 0 rfl (by kernel_rfl)
      have h111:=held_isV hf 2 rfl (by kernel_rfl)
      clear hk hf hc
      have hsm:=same_times (HR1y.out.kept hb) (HR1e.out.kept hb) (by have:=HGY.out.rfew;omega) HSR.out HSR.out
      rw [decide_eq_true rfl] at hsm
      go_simp
      refine Calls.mono (hsm) ?_
      rintro e w1 ⟨rfl,hq⟩
      exact hK _ _ hq rfl
     refine calm_fixA rfl rfl ?_
     apply Exists.intro
     refine ⟨fun a wz hc hk hf K hK=>?_,?_⟩
     ·have h111:=held_isV hf 3 rfl (by kernel_rfl)
      have h114:=held_isV hf 0 rfl (by kernel_rfl)
      clear hk hf hc
      go_simp
      exact hK _ _ (Below.refl _ _) rfl
     refine calm_fixA rfl rfl ?_
     apply Exists.intro
     refine ⟨fun a wz hc hk hf K hK=>?_,?_⟩
     ·have h115:=held_isV hf 0 rfl (by kernel_rfl)
      clear hk hf hc
      go_simp
      exact hK _ _ (Below.refl _ _) rfl
     refine calm_fixA rfl rfl ?_
     apply Exists.intro
     refine ⟨fun a wz hc hk hf K hK=>?_,?_⟩
     ·have hb:Below w13.heap.size w13 wz:=hc rfl
      have h11:=hk 11 (by kernel_rfl)
      have h116:=held_isV hf 0 rfl (by kernel_rfl)
      clear hk hf hc
      obtain ⟨y0,y1,y2,y3,_⟩:=(HXY.out.later hb).cells
      go_simp
      exact hK _ _ (Below.refl _ _) rfl
     refine calm_varA (TblP (packT y)) rfl rfl TblP.kept (fun a wz hc hk hf K hK=>?_) ?_
     ·have hb:Below w13.heap.size w13 wz:=hc rfl
      have h117:=held_isV hf 0 rfl (by kernel_rfl)
      have h116:=held_isV hf 1 rfl (by kernel_rfl)
      clear hk hf hc
      go_simp
      refine Calls.mono (table_pack_calls (t:=y) ⟨_,_,_,rfl,HTY.out.kept hb⟩ HGY.out) ?_
      rintro e w1 ⟨v1,rfl,h1,hq⟩
      exact hK _ _ hq (fun _=>h1)
     refine calm_fixA rfl rfl ?_
     apply Exists.intro
     refine ⟨fun a wz hc hk hf K hK=>?_,?_⟩
     ·have hb:Below w13.heap.size w13 wz:=hc rfl
      have h13:=hk 13 (by kernel_rfl)
      have h116:=held_isV hf 2 rfl (by kernel_rfl)
      clear hk hf hc
      obtain ⟨y0,y1,y2,y3,_⟩:=(HXZ.out.later hb).cells
      go_simp
      exact hK _ _ (Below.refl _ _) rfl
     refine calm_varA (TblP (packT y)) rfl rfl TblP.kept (fun a wz hc hk hf K hK=>?_) ?_
     ·have hb:Below w13.heap.size w13 wz:=hc rfl
      have h119:=held_isV hf 0 rfl (by kernel_rfl)
      have h116:=held_isV hf 3 rfl (by kernel_rfl)
      clear hk hf hc
      go_simp
      refine Calls.mono (table_pack_calls (t:=z) ⟨_,_,_,rfl,HTZ.out.kept hb⟩ HGZ.out) ?_
      rintro e w1 ⟨v1,rfl,h1,hq⟩
      exact hK _ _ hq (fun _=>(HZP.out▸h1:TblIn w1 v1 (packT y)))
     refine calm_fixA rfl rfl ?_
     apply Exists.intro
     refine ⟨fun a wz hc hk hf K hK=>?_,?_⟩
     ·have hb:Below w13.heap.size w13 wz:=hc rfl
      obtain ⟨v118,h118,S118⟩:=held_at hf 2 rfl (by kernel_rfl)
      obtain ⟨v120,h120,S120⟩:=held_at hf 0 rfl (by kernel_rfl)
      have h116:=held_isV hf 4 rfl (by kernel_rfl)
      clear hk hf hc
      have hsm:=same14_calls (t:=packT y) (show TblIn wz v118 (packT y) from S118 rfl) (show TblIn wz v120 (packT y) from S120 rfl) HGP.out
      go_simp
      refine Calls.mono (hsm) ?_
      rintro e w1 ⟨rfl,hq⟩
      exact hK _ _ hq rfl
     refine calm_fixA rfl rfl ?_
     apply Exists.intro
     refine ⟨fun a wz hc hk hf K hK=>?_,?_⟩
     ·have h116:=held_isV hf 5 rfl (by kernel_rfl)
      have h121:=held_isV hf 0 rfl (by kernel_rfl)
      clear hk hf hc
      go_simp
      exact hK _ _ (Below.refl _ _) rfl
     refine calm_fixA rfl rfl ?_
     apply Exists.intro
     refine ⟨fun a wz hc hk hf K hK=>?_,?_⟩
     ·have h122:=held_isV hf 0 rfl (by kernel_rfl)
      clear hk hf hc
      go_simp
      exact hK _ _ (Below.refl _ _) rfl
     refine calm_fixA rfl rfl ?_
     apply Exists.intro
     refine ⟨fun a wz hc hk hf K hK=>?_,?_⟩
     ·have hb:Below w13.heap.size w13 wz:=hc rfl
      have h11:=hk 11 (by kernel_rfl)
      have h123:=held_isV hf 0 rfl (by kernel_rfl)
      clear hk hf hc
      obtain ⟨y0,y1,y2,y3,_⟩:=(HXY.out.later hb).cells
      go_simp
      exact hK _ _ (Below.refl _ _) rfl
     refine calm_varA (TblP (packT y)) rfl rfl TblP.kept (fun a wz hc hk hf K hK=>?_) ?_
     ·have hb:Below w13.heap.size w13 wz:=hc rfl
      have h124:=held_isV hf 0 rfl (by kernel_rfl)
      have h123:=held_isV hf 1 rfl (by kernel_rfl)
      clear hk hf hc
      go_simp
      refine Calls.mono (table_pack_calls (t:=y) ⟨_,_,_,rfl,HTY.out.kept hb⟩ HGY.out) ?_
      rintro e w1 ⟨v1,rfl,h1,hq⟩
      exact hK _ _ hq (fun _=>h1)
     refine calm_fixA rfl rfl ?_
     apply Exists.intro
     refine ⟨fun a wz hc hk hf K hK=>?_,?_⟩
     ·have hb:Below w13.heap.size w13 wz:=hc rfl
      have h15:=hk 15 (by kernel_rfl)
      have h123:=held_isV hf 2 rfl (by kernel_rfl)
      clear hk hf hc
      obtain ⟨y0,y1,y2,y3,_⟩:=(HXE2.out.later hb).cells
      go_simp
      exact hK _ _ (Below.refl _ _) rfl
     refine calm_varA (TblP (packT y)) rfl rfl TblP.kept (fun a wz hc hk hf K hK=>?_) ?_
     ·have hb:Below w13.heap.size w13 wz:=hc rfl
      have h126:=held_isV hf 0 rfl (by kernel_rfl)
      have h123:=held_isV hf 3 rfl (by kernel_rfl)
      clear hk hf hc
      go_simp
      refine Calls.mono (table_pack_calls (t:=ee) ⟨_,_,_,rfl,HTE.out.kept hb⟩ HGE.out) ?_
      rintro e w1 ⟨v1,rfl,h1,hq⟩
      exact hK _ _ hq (fun _=>(HEP.out▸h1:TblIn w1 v1 (packT y)))
     refine calm_fixA rfl rfl ?_
     apply Exists.intro
     refine ⟨fun a wz hc hk hf K hK=>?_,?_⟩
     ·have hb:Below w13.heap.size w13 wz:=hc rfl
      obtain ⟨v125,h125,S125⟩:=held_at hf 2 rfl (by kernel_rfl)
      obtain ⟨v127,h127,S127⟩:=held_at hf 0 rfl (by kernel_rfl)
      have h123:=held_isV hf 4 rfl (by kernel_rfl)
      clear hk hf hc
      have hsm:=same14_calls (t:=packT y) (show TblIn wz v125 (packT y) from S125 rfl) (show TblIn wz v127 (packT y) from S127 rfl) HGP.out
      go_simp
      refine Calls.mono (hsm) ?_
      rintro e w1 ⟨rfl,hq⟩
      exact hK _ _ hq rfl
     refine calm_fixA rfl rfl ?_
     apply Exists.intro
     refine ⟨fun a wz hc hk hf K hK=>?_,?_⟩
     ·have h123:=held_isV hf 5 rfl (by kernel_rfl)
      have h128:=held_isV hf 0 rfl (by kernel_rfl)
      clear hk hf hc
      go_simp
      exact hK _ _ (Below.refl _ _) rfl
     refine calm_fixA rfl rfl ?_
     apply Exists.intro
     refine ⟨fun a wz hc hk hf K hK=>?_,?_⟩
     ·have h129:=held_isV hf 0 rfl (by kernel_rfl)
      clear hk hf hc
      go_simp
      exact hK _ _ (Below.refl _ _) rfl
     refine calm_nil ?_
     refine ⟨keeps_none,?_⟩
     intro w14 hc
     simp only [lexL,calmEnd]
     rintro _ rfl _ rfl _ rfl _ rfl _ rfl _ rfl _ rfl _ rfl _ rfl _ rfl _ rfl _ rfl _ rfl _ rfl _ rfl _ rfl _ rfl _ rfl _ rfl _ rfl _ rfl v118 S118 _ rfl v120 S120 _ rfl _ rfl _ rfl _ rfl v125 S125 _ rfl v127 S127 _ rfl _ rfl _ rfl
     have hb14:=HB13.out.trans (Below.mono (hc rfl) HB13.out.size)
     clear hc S118 S120 S125 S127
     simp only [Act.put,List.setIfInBounds_toArray,List.set_cons_zero,List.set_cons_succ]
     go_wp2
     go_ret
     exact ⟨rfl,hb14⟩
    ·have HB6':=HB6.out
     have hB6':=HB6'.size
     rcases Decidable.not_and_iff_or_not.1 hz with z0|hz
     ·have k0:(n0 != 0)=true:=by simp [z0]
      have hb:=HB6'
      have hB:=hB6'
      go_wp2_with (go_at_call 8;refine HAW.out.step (w0:=w) (B:=w.heap.size) hb hB ?_;clear hb hB;intro wa hb hB)
      go_ret
      exact ⟨rfl,hb⟩
     ·by_cases z0:n0=0
      ·have k0:(n0 != 0)=false:=by simp [z0]
       rcases Decidable.not_and_iff_or_not.1 hz with z1|z2
       ·have k1:(n1 != 0)=true:=by simp [z1]
        have hb:=HB6'
        have hB:=hB6'
        go_wp2_with (go_at_call 8;refine HAW.out.step (w0:=w) (B:=w.heap.size) hb hB ?_;clear hb hB;intro wa hb hB)
        go_ret
        exact ⟨rfl,hb⟩
       ·by_cases z1:n1=0
        ·have k1:(n1 != 0)=false:=by simp [z1]
         have k2:(n2 != 0)=true:=by simp [z2]
         have hb:=HB6'
         have hB:=hB6'
         go_wp2_with (go_at_call 8;refine HAW.out.step (w0:=w) (B:=w.heap.size) hb hB ?_;clear hb hB;intro wa hb hB)
         go_ret
         exact ⟨rfl,hb⟩
        ·have k1:(n1 != 0)=true:=by simp [z1]
         have hb:=HB6'
         have hB:=hB6'
         go_wp2_with (go_at_call 8;refine HAW.out.step (w0:=w) (B:=w.heap.size) hb hB ?_;clear hb hB;intro wa hb hB)
         go_ret
         exact ⟨rfl,hb⟩
      ·have k0:(n0 != 0)=true:=by simp [z0]
       have hb:=HB6'
       have hB:=hB6'
       go_wp2_with (go_at_call 8;refine HAW.out.step (w0:=w) (B:=w.heap.size) hb hB ?_;clear hb hB;intro wa hb hB)
       go_ret
       exact ⟨rfl,hb⟩
 ·have d6:decide ((6:Int) < (cols.length:Int))=true:=decide_eq_true (by omega)
  go_enter Tryz.func5,Tryz.ntmps5
  go_wp2_with (go_at_call 8;refine HAW.out.step (w0:=w) (B:=w.heap.size) hb hB ?_;clear hb hB;intro wa hb hB)
  go_ret
  exact ⟨rfl,hb⟩
end Go.Proofs.YtafmbnafibahkaaGreat
