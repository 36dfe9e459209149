/- The law GroupCounts of layer 21. -/
import Derived.Test.YtjbpbfhgjldliaaGTimes
import Derived.Test.YtjbpbfhgjldliaaGOpen
import Derived.Test.YtjbpbfhgjldliaaGZCalm
import Derived.Test.YtjbpbfhgjldliaaGGroupChg
import Derived.Test.YtjbpbfhgjldliaaGGroupAwake
import Derived.Test.YtjbpbfhgjldliaaGGroupEnds
namespace Go.Proofs.Ytjbpbfhgjldliaa
open Go Go.RowKit
theorem pieces_slice {w:World}{v:Value}{P:List (List Tm)}(h:PiecesIn w v P):∃ A c,v=.slice A P.length c:=by
 obtain ⟨A,c,e,_⟩:=pieces_at h
 exact ⟨A,c,e⟩
theorem many_take_fit {l:List Tm}{n:Nat}(h:wtW l≤n)(j:Nat):(manyL (l.take j)).natAbs≤n:=Nat.le_trans (gmany_le _) (Nat.le_trans (wt_take_le l j) h)
set_option maxHeartbeats 16000000 in
set_option maxRecDepth 100000 in
theorem groupCounts_calls {w:World}{vl vg:Value}{pl:List (List Tm)}{ng:List (Int×Int)}(hl:PiecesIn w vl pl)(hg:OnIn w vg ng):GivesAt Try.prog 5 #[vl,vg] w (.bool true):=by
 have HAW:=Lib.hid awake21_calls
 have HPL:=Lib.hid hl
 obtain ⟨Al,cl,rfl⟩:=pieces_slice hl
 have HWG:Hid (∀ W,Below w.heap.size w W→GivesAt Try.prog 6 #[vg] W (.bool (ways21 ng))):=fun W hW=>(ways21_calls (hg.kept hW)).gives
 have HKG:=Lib.hid fun (h:ways21 ng=true)=>way21_ok h
 have HOG:=Lib.hid hg
 obtain ⟨Ag,cg,rfl⟩:=hg.slice
 have HB:Hid (Below w.heap.size w w):=Lib.hid (.refl _ _)
 clear hl hg
 unfold GivesAt
 go_enter Try.func5,Try.ntmps5
 by_cases hc:pl.length≤4
 ·have dc0:decide ((4:Int) < (pl.length:Int))=false:=decide_eq_false (by omega)
  have HLEN0:Hid (pl.length≤4):=hc
  clear hc
  cases hsg:ways21 ng with
  | false =>
   rw [hsg] at HWG
   clear hsg
   go_wp2_with fail
   refine Calls.mono (HWG.out w HB.out) ?_
   rintro e wn1 ⟨rfl,hq⟩
   replace HB:=Lib.hid (HB.out.trans (hq.mono HB.out.size))
   clear hq
   go_wp2_with fail
   refine Calls.mono (HAW.out wn1) ?_
   rintro e wn2 ⟨rfl,hq⟩
   replace HB:=Lib.hid (HB.out.trans (hq.mono HB.out.size))
   clear hq
   go_wp2
   go_ret
   exact ⟨rfl,HB.out⟩
  | true =>
   rw [hsg] at HWG
   replace HKG:=Lib.hid (HKG.out hsg)
   clear hsg
   go_wp2_with fail
   refine Calls.mono (HWG.out w HB.out) ?_
   rintro e wn1 ⟨rfl,hq⟩
   replace HB:=Lib.hid (HB.out.trans (hq.mono HB.out.size))
   clear hq
   clear HWG
   go_wp2
   go_loopw [5,6,7] (fun gv nv i wr=>∃ k:Nat,k≤pl.length∧i=.int .i64 k∧∃ S was N,Hid (groupK.In (fun _=>True) wr gv (S.map (grpB ng)))∧Hid (FitS [0,2] (12*k) (12582912*k) S)∧Hid (toldP ng 1 (S.map (grpB ng))=some was)∧nv=.int .i64 N∧Hid (N=manyL (S.flatMap (·.2)))∧Hid (Below w.heap.size w wr)) (fun _ _ i _=>pl.length-(intOf i).toNat)
   case atStart=>exact ⟨0,Nat.zero_le _,rfl,[],[],0,Lib.hid (Kin.In.nil_ _ _ none 0 trivial),Lib.hid (FitS.nil_ _),Lib.hid rfl,rfl,Lib.hid rfl,HB⟩
   case round =>
    clear HB
    obtain ⟨k,hk,rfl,S0,was0,N0,HG0,HF0,HW0,rfl,HN0,HB⟩:=hrel
    by_cases hlt:k < pl.length
    ·obtain ⟨GA0,gc0,ge,hst⟩:=state_at HG0.out
     obtain ⟨gl0,hgl⟩:∃ n,S0.length=n:=⟨_,rfl⟩
     have HSL0:=Lib.hid hgl
     rw [hgl] at ge
     subst ge
     have HST0:=Lib.hid hst
     clear hgl hst
     clear HST0
     have HM0:Hid (N0.natAbs≤12582912*k):=Lib.hid (by
      have h:=HF0.out.many S0.length
      rw [List.take_length] at h
      rw [HN0.out];exact h)
     obtain ⟨AP0,cp0,e0,hpat⟩:=pieces_at HPL.out
     obtain ⟨rfl,rfl⟩:Al=AP0∧cl=cp0:=by injection e0 with e1 _ e2;exact ⟨e1,e2⟩
     clear e0
     obtain ⟨b1,o1,rfl,hbl,hpc⟩:=hpat k hlt
     obtain ⟨pv,hpv,hx⟩:=hpc k hlt
     have HX:=Lib.hid fun W (hW:Below w.heap.size w W)=>(hW.cell (p:=⟨b1,o1+k,none⟩) hbl).trans hx
     have HP:=Lib.hid hpv
     have HLK:Hid (k < pl.length):=hlt
     have HK4:Hid (k < 4):=Lib.hid (by have:=HLEN0.out;omega)
     have i1:(k:Int) < (pl.length:Int):=by omega
     have i2:(pl.length:Int)≤4:=by have:=HLEN0.out;omega
     clear hpc hx hpv
     generalize pl[k]=p at *
     clear hlt hk hbl
     obtain ⟨Ap,cp,rfl⟩:=times_slice HP.out
     have x0:=HX.out wr HB.out
     cases hsp:small21 p 12 with
     | false =>
      have HSP:Hid (GivesAt Try.prog 7 #[.slice Ap p.length cp,.int .i64 12] wr (.bool (small21 p 12))):=Lib.hid (small21_calls 12 (HP.out.kept HB.out)).gives
      rw [hsp] at HSP
      clear hsp
      go_wp2_with fail
      refine Calls.mono (HSP.out) ?_
      rintro e wn2 ⟨rfl,hq⟩
      replace HB:=Lib.hid (HB.out.trans (hq.mono HB.out.size))
      replace HG0:=Lib.hid (HG0.out.kept hq)
      clear hq
      clear HSP x0
      go_wp2_with fail
      refine Calls.mono (HAW.out wn2) ?_
      rintro e wn3 ⟨rfl,hq⟩
      replace HB:=Lib.hid (HB.out.trans (hq.mono HB.out.size))
      replace HG0:=Lib.hid (HG0.out.kept hq)
      clear hq
      go_wp2
      go_ret
      exact ⟨rfl,HB.out⟩
     | true =>
      have HSP:Hid (GivesAt Try.prog 7 #[.slice Ap p.length cp,.int .i64 12] wr (.bool (small21 p 12))):=Lib.hid (small21_calls 12 (HP.out.kept HB.out)).gives
      rw [hsp] at HSP
      have HNP:=Lib.hid (fine21 hsp)
      clear hsp
      go_wp2_with fail
      refine Calls.mono (HSP.out) ?_
      rintro e wn2 ⟨rfl,hq⟩
      replace HB:=Lib.hid (HB.out.trans (hq.mono HB.out.size))
      replace HG0:=Lib.hid (HG0.out.kept hq)
      clear hq
      clear HSP x0
      obtain ⟨hpl,hpw,hp4,_⟩:=HNP.out
      have HZP:Hid (p.length≤12∧wtW p≤12582912):=Lib.hid ⟨hpl,hpw⟩
      have HP4:=Lib.hid hp4
      clear hpl hpw hp4 HNP
      have al:=Below.alloc (.refl wn2.heap.size wn2) (Nat.le_refl _) (.cells #[.int .i64 0,.int .i64 2] 3)
      have x0:=HX.out _ (HB.out.trans (al.mono HB.out.size))
      clear al
      go_wp2_with fail
      have hq:Below wn2.heap.size wn2 (wn2.alloc (.cells #[.int .i64 0,.int .i64 2] 3)):=Below.alloc (.refl _ _) (Nat.le_refl _) _
      have HI:Hid (IntsIn (wn2.alloc (.cells #[.int .i64 0,.int .i64 2] 3)) (.slice (some ⟨wn2.heap.size,0,none⟩) 2 2) [0,2]):=lit_ones (Value.int .i64) wn2 3 [0,2] (by show 2≤1000;decide)
      replace HB:=Lib.hid (HB.out.trans (hq.mono HB.out.size))
      replace HG0:=Lib.hid (HG0.out.kept hq)
      clear hq
      generalize World.alloc wn2 _=wn3 at *
      generalize wn2.heap.size=bHI at *
      clear x0
      have hc:=gchange_calls (lv:=.slice GA0 gl0 gc0) (l:=(S0:List BP).map (grpB ng)) HG0.out (sort_right HF0.out.sort _) (HI.out) (HOG.out.kept HB.out) (HP.out.kept HB.out) (HF0.out.fit (by first|decide|(have:=HK4.out;omega)) (by first|decide|(have:=HK4.out;omega)) (by decide) _ HKG.out.1) (by have:=HKG.out.1;show 2+_≤_;omega) (by rw [List.length_map];have h1:=HF0.out.count;have h2:=HZP.out.1;first|omega|(have:=HK4.out;omega)) (by have h2:=HZP.out.1;omega) (by have h2:=HZP.out.2;omega)
      refine hc.mono ?_
      clear hc
      intro e wn4 hend
      obtain ⟨E1,gv1,rv1,cn1,er1,S1,was1,d1,rfl,hG,hT,hn1,hq,hp,hE,hw1,hdl1,hdw1,hm1⟩:=chg_of hend HG0.out HF0.out.sort HF0.out.live HW0.out
      have HF1:=Lib.hid (FitS.both (m:=12) (k:=12582912) HF0.out hp hE (hm1.elim (fun h=>.inl h.2.1) fun h=>.inr h.2.1) (by have h2:=HZP.out.1;omega) (by have h2:=HZP.out.2;omega))
      have HM1:=Lib.hid hm1
      have HE1:=Lib.hid (And.intro hp hE)
      have HWA1:=Lib.hid hw1
      have HDL1:=Lib.hid (And.intro hdl1 hdw1)
      have HCN1:=Lib.hid hn1
      have HG1:Hid (groupK.In (fun _=>True) wn4 gv1 (S1.map (grpB ng))):=hG
      have HD1:Hid (TimesIn wn4 rv1 d1):=hT
      clear hend hG hT hn1 hp hE hw1 hdl1 hdw1 hm1
      replace HB:=Lib.hid (HB.out.trans (hq.mono HB.out.size))
      replace HG0:=Lib.hid (HG0.out.kept hq)
      replace HI:=Lib.hid (IntsIn.kept HI.out hq)
      clear hq
      clear HD1 HI
      have hlk:¬(p.length:Int) < (cn1:Int):=by have:=HCN1.out;omega
      have d1:decide ((p.length:Int) < (cn1:Int))=false:=decide_eq_false hlk
      have d2:decide (p.length < cn1)=false:=decide_eq_false (by omega)
      clear hlk
      have x0:=HX.out _ HB.out
      have q1:IntKind.i64.wrap ((k:Int)+1)=(k:Int)+1:=by have:=HK4.out;rw [IntKind.wrap_i64];omega
      have HF1':Hid (FitS [0,2] (12*(k+1)) (12582912*(k+1)) S1):=HF1
      clear HF1
      by_cases he:er1=0
      ·have HNX:Hid (S1=nextS E1 S0):=Lib.hid (HM1.out.elim (fun h=>h.2.1) fun h=>absurd (h.1.symm.trans he) (by decide))
       subst he
       have HMY:Hid (manyL (S1.flatMap (·.2))=N0+manyL p):=Lib.hid (by
        rw [HNX.out,next_many HF0.out.sort HE1.out.1,okL_all HP4.out (fun c hc=>by
         simp only [List.mem_cons,List.not_mem_nil,or_false] at hc
         omega),HN0.out])
       clear HM1 HE1 HDL1 HNX HG0 HF0 HW0 HN0 HSL0 HP4
       obtain ⟨GA1,gc1,ge,hst⟩:=state_at HG1.out
       obtain ⟨gl1,hgl⟩:∃ n,S1.length=n:=⟨_,rfl⟩
       have HSL1:=Lib.hid hgl
       rw [hgl] at ge
       subst ge
       have HST1:=Lib.hid hst
       clear hgl hst
       go_wp2
       clear x0
       go_loop [6,12] (fun nv j=>∃ q:Nat,q≤p.length∧j=.int .i64 q∧nv=.int .i64 (N0+manyL (p.take q))) (fun _ j=>p.length-(intOf j).toNat)
       case atStart=>exact ⟨0,Nat.zero_le _,rfl,by rw [List.take_zero,gmany_nil,Int.add_zero]⟩
       case round =>
        obtain ⟨q,hq0,rfl,rfl⟩:=hrel
        have x0:=HX.out _ HB.out
        by_cases hql:q < p.length
        ·have hat:=HP.out.kept HB.out
         obtain ⟨b2,o2,cap',e0⟩:=times_some hat (by omega)
         obtain ⟨rfl,rfl⟩:Ap=some ⟨b2,o2,none⟩∧cp=cap':=by injection e0 with e1 _ e2;exact ⟨e1,e2⟩
         clear e0
         obtain ⟨rv,_,_,x2⟩:=times_cellAt hat q hql
         have HTK:=Lib.hid (gmany_take p q hql)
         have HLE:=Lib.hid (many_take_fit HZP.out.2 (q+1))
         obtain ⟨M,hM⟩:∃ M,manyL (p.take q)=M:=⟨_,rfl⟩
         rw [hM] at HTK ⊢
         clear hM hat
         generalize p[q]=y at *
         obtain ⟨row1,d⟩:=y
         dsimp only at *
         have i3:(q:Int) < (p.length:Int):=by omega
         have q2:IntKind.i64.wrap ((q:Int)+1)=(q:Int)+1:=by have:=HZP.out.1;rw [IntKind.wrap_i64];omega
         have q3:IntKind.i64.wrap (N0+M+d)=N0+M+d:=by
          have h1:=HLE.out
          have h2:=HTK.out
          have h3:=HM0.out
          have h4:=HK4.out
          rw [h2] at h1
          rw [IntKind.wrap_i64];omega
         have HLQ:Hid (q < p.length):=hql
         have HRL:Hid (N0+M+d=N0+manyL (p.take (q+1))):=Lib.hid (by rw [HTK.out];omega)
         clear hql hq0
         go_wp2
         go_round
         case rel=>exact ⟨q+1,HLQ.out,by go_num,congrArg (Value.int .i64) HRL.out⟩
         case measure=>have:=HLQ.out;simp [intOf];omega
        ·obtain rfl:q=p.length:=by omega
         rw [List.take_length]
         obtain ⟨N1,hn1⟩:∃ n,N0+manyL p=n:=⟨_,rfl⟩
         rw [hn1] at HMY ⊢
         have HN1:Hid (N1=manyL (S1.flatMap (·.2))):=Lib.hid HMY.out.symm
         clear hn1 hql hq0 HMY
         have i4:¬(p.length:Int) < (p.length:Int):=by omega
         go_wp2
         clear i4 x0
         go_loopw [13,14] (fun sv j wq=>∃ q:Nat,q≤S1.length∧j=.int .i64 q∧sv=.int .i64 (manyL ((S1.take q).flatMap (·.2)))∧Hid (Below wn4.heap.size wn4 wq)) (fun _ j _=>S1.length-(intOf j).toNat)
         case atStart=>exact ⟨0,Nat.zero_le _,rfl,rfl,Lib.hid (.refl _ _)⟩
         case round =>
          obtain ⟨q,hq0,rfl,rfl,HBQ⟩:=hrel
          have HB2:Hid (Below w.heap.size w wr):=Lib.hid (HB.out.trans (HBQ.out.mono HB.out.size))
          by_cases hql:q < S1.length
          ·obtain ⟨b3,o3,rfl,hb3,hcc⟩:=HST1.out q hql
           obtain ⟨kA,kp,pA,pp,-,hs1,x1,x2,x3⟩:=hcc q hql
           have y1:=cell_kept x1 HBQ.out
           have y2:=cell_kept x2 HBQ.out
           have y3:=cell_kept x3 HBQ.out
           have HY1:=Lib.hid y1
           have HY2:=Lib.hid y2
           have HY3:=Lib.hid y3
           have HS1:=Lib.hid (StrsIn.kept hs1 HBQ.out)
           have HKL:=Lib.hid (HF1'.out.keys S1[q] (List.getElem_mem hql))
           have HLV:=Lib.hid (HF1'.out.live S1[q] (List.getElem_mem hql))
           have HTK:=Lib.hid (manyS_take S1 q hql)
           have HLE:=Lib.hid (HF1'.out.many (q+1))
           obtain ⟨M,hM⟩:∃ M,manyL ((S1.take q).flatMap (·.2))=M:=⟨_,rfl⟩
           rw [hM] at HTK ⊢
           have HLQ:Hid (q < S1.length):=hql
           have HSC:Hid (S1.length≤1000):=Lib.hid (by have:=HF1'.out.count;have:=HK4.out;omega)
           have HCC:=Lib.hid hcc
           clear hM hcc x1 x2 x3 y1 y2 y3 hs1 hb3
           have i3:(q:Int) < (gl1:Int):=by have:=HSL1.out;omega
           have q2:IntKind.i64.wrap ((q:Int)+1)=(q:Int)+1:=by have:=HSC.out;have:=HLQ.out;rw [IntKind.wrap_i64];omega
           obtain ⟨nq,hnq⟩:∃ n,manyL (S1[q]'hql).2=n:=⟨_,rfl⟩
           rw [hnq] at HTK HY2 HLV
           clear hnq
           have HKQ:Hid ((S1[q]'hql).1.length=2):=HKL
           obtain ⟨ky,hky⟩:∃ n,(S1[q]'hql).1=n:=⟨_,rfl⟩
           rw [hky] at HY1 HS1 HKQ
           have HPW:=Lib.hid fun (j:Nat) (hj:j+1=q) (h2:j < S1.length)=>show cmpL (S1[j]'h2).1 ky = -1 by
            rw [←hky]
            exact List.pairwise_iff_getElem.1 HF1'.out.sort j q h2 hql (by omega)
           rw [HKQ.out] at HY1 HS1
           have q3:IntKind.i64.wrap (M+nq)=M+nq:=by
            have h1:=HLE.out
            have h2:=HTK.out
            have h4:=HK4.out
            rw [h2] at h1
            rw [IntKind.wrap_i64];omega
           have HRL:Hid (M+nq=manyL ((S1.take (q+1)).flatMap (·.2))):=Lib.hid HTK.out.symm
           have e1:(nq==0)=false:=by rw [beq_eq_false_iff_ne];exact HLV.out
           have e2:((ng.length:Int)==(ng.length:Int))=true:=by simp
           clear hky hql hq0 HKL
           by_cases hz:q=0
           ·subst hz
            rw [Nat.zero_mul,Nat.add_zero] at HY1 HY2 HY3
            have d0:decide ((0:Int) < ((0:Nat):Int))=false:=by decide
            clear HPW HCC
            go_wp2_with fail
            refine wp_region_calm (offC wr) (fun _=>false) (fun _=>false) anyE false (by kernel_rfl) (by kernel_rfl) (by kernel_rfl) (by kernel_rfl) (by intro m hm;revert hm;simp;try omega) (offC_stable _) (offC_start _) ?_
            refine calm_fixA rfl rfl ?_
            apply Exists.intro
            refine ⟨fun a wz hc hk hf K hK=>?_,?_⟩
            ·have h5:=hk 5 (by kernel_rfl)
             clear hk hf hc
             go_simp
             exact hK _ _ (Below.refl _ _) rfl
            refine calm_fixA rfl rfl ?_
            apply Exists.intro
            refine ⟨fun a wz hc hk hf K hK=>?_,?_⟩
            ·have h14:=hk 14 (by kernel_rfl)
             clear hk hf hc
             go_simp
             exact hK _ _ (Below.refl _ _) rfl
            refine calm_fixA rfl rfl ?_
            apply Exists.intro
            refine ⟨fun a wz hc hk hf K hK=>?_,?_⟩
            ·have h85:=held_isV hf 1 rfl (by kernel_rfl)
             have h86:=held_isV hf 0 rfl (by kernel_rfl)
             clear hk hf hc
             go_simp
             exact hK _ _ (Below.refl _ _) rfl
            refine calm_fixA rfl rfl ?_
            apply Exists.intro
            refine ⟨fun a wz hc hk hf K hK=>?_,?_⟩
            ·have h87:=held_isV hf 0 rfl (by kernel_rfl)
             clear hk hf hc
             go_simp
             exact hK _ _ (Below.refl _ _) rfl
            refine calm_fixA rfl rfl ?_
            apply Exists.intro
            refine ⟨fun a wz hc hk hf K hK=>?_,?_⟩
            ·have hb:Below wr.heap.size wr wz:=hc rfl
             have h88:=held_isV hf 0 rfl (by kernel_rfl)
             clear hk hf hc
             have y1:=cell_kept HY1.out hb
             have y2:=cell_kept HY2.out hb
             have y3:=cell_kept HY3.out hb
             go_simp
             exact hK _ _ (Below.refl _ _) rfl
            refine calm_fixA rfl rfl ?_
            apply Exists.intro
            refine ⟨fun a wz hc hk hf K hK=>?_,?_⟩
            ·have h89:=held_isV hf 0 rfl (by kernel_rfl)
             clear hk hf hc
             go_simp
             exact hK _ _ (Below.refl _ _) rfl
            refine calm_fixA rfl rfl ?_
            apply Exists.intro
            refine ⟨fun a wz hc hk hf K hK=>?_,?_⟩
            ·have h90:=held_isV hf 0 rfl (by kernel_rfl)
             clear hk hf hc
             go_simp
             exact hK _ _ (Below.refl _ _) rfl
            refine calm_fixA rfl rfl ?_
            apply Exists.intro
            refine ⟨fun a wz hc hk hf K hK=>?_,?_⟩
            ·have h5:=hk 5 (by kernel_rfl)
             have h91:=held_isV hf 0 rfl (by kernel_rfl)
             clear hk hf hc
             go_simp
             exact hK _ _ (Below.refl _ _) rfl
            refine calm_fixA rfl rfl ?_
            apply Exists.intro
            refine ⟨fun a wz hc hk hf K hK=>?_,?_⟩
            ·have h14:=hk 14 (by kernel_rfl)
             have h91:=held_isV hf 1 rfl (by kernel_rfl)
             clear hk hf hc
             go_simp
             exact hK _ _ (Below.refl _ _) rfl
            refine calm_fixA rfl rfl ?_
            apply Exists.intro
            refine ⟨fun a wz hc hk hf K hK=>?_,?_⟩
            ·have h92:=held_isV hf 1 rfl (by kernel_rfl)
             have h93:=held_isV hf 0 rfl (by kernel_rfl)
             have h91:=held_isV hf 2 rfl (by kernel_rfl)
             clear hk hf hc
             go_simp
             exact hK _ _ (Below.refl _ _) rfl
            refine calm_fixA rfl rfl ?_
            apply Exists.intro
            refine ⟨fun a wz hc hk hf K hK=>?_,?_⟩
            ·have h94:=held_isV hf 0 rfl (by kernel_rfl)
             have h91:=held_isV hf 3 rfl (by kernel_rfl)
             clear hk hf hc
             go_simp
             exact hK _ _ (Below.refl _ _) rfl
            refine calm_fixA rfl rfl ?_
            apply Exists.intro
            refine ⟨fun a wz hc hk hf K hK=>?_,?_⟩
            ·have hb:Below wr.heap.size wr wz:=hc rfl
             have h95:=held_isV hf 0 rfl (by kernel_rfl)
             have h91:=held_isV hf 4 rfl (by kernel_rfl)
             clear hk hf hc
             have y1:=cell_kept HY1.out hb
             have y2:=cell_kept HY2.out hb
             have y3:=cell_kept HY3.out hb
             go_simp
             exact hK _ _ (Below.refl _ _) rfl
            refine calm_fixA rfl rfl ?_
            apply Exists.intro
            refine ⟨fun a wz hc hk hf K hK=>?_,?_⟩
            ·have h96:=held_isV hf 0 rfl (by kernel_rfl)
             have h91:=held_isV hf 5 rfl (by kernel_rfl)
             clear hk hf hc
             go_simp
             exact hK _ _ (Below.refl _ _) rfl
            refine calm_fixA rfl rfl ?_
            apply Exists.intro
            refine ⟨fun a wz hc hk hf K hK=>?_,?_⟩
            ·have h1:=hk 1 (by kernel_rfl)
             have h91:=held_isV hf 6 rfl (by kernel_rfl)
             clear hk hf hc
             go_simp
             exact hK _ _ (Below.refl _ _) rfl
            refine calm_fixA rfl rfl ?_
            apply Exists.intro
            refine ⟨fun a wz hc hk hf K hK=>?_,?_⟩
            ·have h98:=held_isV hf 0 rfl (by kernel_rfl)
             have h91:=held_isV hf 7 rfl (by kernel_rfl)
             clear hk hf hc
             go_simp
             exact hK _ _ (Below.refl _ _) rfl
            refine calm_fixA rfl rfl ?_
            apply Exists.intro
            refine ⟨fun a wz hc hk hf K hK=>?_,?_⟩
            ·have h97:=held_isV hf 2 rfl (by kernel_rfl)
             have h99:=held_isV hf 0 rfl (by kernel_rfl)
             have h91:=held_isV hf 8 rfl (by kernel_rfl)
             clear hk hf hc
             go_simp
             exact hK _ _ (Below.refl _ _) rfl
            refine calm_fixA rfl rfl ?_
            apply Exists.intro
            refine ⟨fun a wz hc hk hf K hK=>?_,?_⟩
            ·have h91:=held_isV hf 9 rfl (by kernel_rfl)
             have h100:=held_isV hf 0 rfl (by kernel_rfl)
             clear hk hf hc
             go_simp
             exact hK _ _ (Below.refl _ _) rfl
            refine calm_fixA rfl rfl ?_
            apply Exists.intro
            refine ⟨fun a wz hc hk hf K hK=>?_,?_⟩
            ·have h101:=held_isV hf 0 rfl (by kernel_rfl)
             clear hk hf hc
             go_simp
             exact hK _ _ (Below.refl _ _) rfl
            refine calm_fixA rfl rfl ?_
            apply Exists.intro
            refine ⟨fun a wz hc hk hf K hK=>?_,?_⟩
            ·have h5:=hk 5 (by kernel_rfl)
             have h102:=held_isV hf 0 rfl (by kernel_rfl)
             clear hk hf hc
             go_simp
             exact hK _ _ (Below.refl _ _) rfl
            refine calm_fixA rfl rfl ?_
            apply Exists.intro
            refine ⟨fun a wz hc hk hf K hK=>?_,?_⟩
            ·have h14:=hk 14 (by kernel_rfl)
             have h102:=held_isV hf 1 rfl (by kernel_rfl)
             clear hk hf hc
             go_simp
             exact hK _ _ (Below.refl _ _) rfl
            refine calm_fixA rfl rfl ?_
            apply Exists.intro
            refine ⟨fun a wz hc hk hf K hK=>?_,?_⟩
            ·have h103:=held_isV hf 1 rfl (by kernel_rfl)
             have h104:=held_isV hf 0 rfl (by kernel_rfl)
             have h102:=held_isV hf 2 rfl (by kernel_rfl)
             clear hk hf hc
             go_simp
             exact hK _ _ (Below.refl _ _) rfl
            refine calm_fixA rfl rfl ?_
            apply Exists.intro
            refine ⟨fun a wz hc hk hf K hK=>?_,?_⟩
            ·have h105:=held_isV hf 0 rfl (by kernel_rfl)
             have h102:=held_isV hf 3 rfl (by kernel_rfl)
             clear hk hf hc
             go_simp
             exact hK _ _ (Below.refl _ _) rfl
            refine calm_fixA rfl rfl ?_
            apply Exists.intro
            refine ⟨fun a wz hc hk hf K hK=>?_,?_⟩
            ·have hb:Below wr.heap.size wr wz:=hc rfl
             have h106:=held_isV hf 0 rfl (by kernel_rfl)
             have h102:=held_isV hf 4 rfl (by kernel_rfl)
             clear hk hf hc
             have y1:=cell_kept HY1.out hb
             have y2:=cell_kept HY2.out hb
             have y3:=cell_kept HY3.out hb
             go_simp
             exact hK _ _ (Below.refl _ _) rfl
            refine calm_fixA rfl rfl ?_
            apply Exists.intro
            refine ⟨fun a wz hc hk hf K hK=>?_,?_⟩
            ·have h107:=held_isV hf 0 rfl (by kernel_rfl)
             have h102:=held_isV hf 5 rfl (by kernel_rfl)
             clear hk hf hc
             go_simp
             exact hK _ _ (Below.refl _ _) rfl
            refine calm_fixA rfl rfl ?_
            apply Exists.intro
            refine ⟨fun a wz hc hk hf K hK=>?_,?_⟩
            ·have h108:=held_isV hf 0 rfl (by kernel_rfl)
             have h102:=held_isV hf 6 rfl (by kernel_rfl)
             clear hk hf hc
             go_simp
             exact hK _ _ (Below.refl _ _) rfl
            refine calm_fixA rfl rfl ?_
            apply Exists.intro
            refine ⟨fun a wz hc hk hf K hK=>?_,?_⟩
            ·have h102:=held_isV hf 7 rfl (by kernel_rfl)
             have h109:=held_isV hf 0 rfl (by kernel_rfl)
             clear hk hf hc
             go_simp
             exact hK _ _ (Below.refl _ _) rfl
            refine calm_fixA rfl rfl ?_
            apply Exists.intro
            refine ⟨fun a wz hc hk hf K hK=>?_,?_⟩
            ·have h110:=held_isV hf 0 rfl (by kernel_rfl)
             clear hk hf hc
             go_simp
             exact hK _ _ (Below.refl _ _) rfl
            refine calm_fixA rfl rfl ?_
            apply Exists.intro
            refine ⟨fun a wz hc hk hf K hK=>?_,?_⟩
            ·have h14:=hk 14 (by kernel_rfl)
             have h111:=held_isV hf 0 rfl (by kernel_rfl)
             clear hk hf hc
             go_simp
             exact hK _ _ (Below.refl _ _) rfl
            refine calm_fixA rfl rfl ?_
            apply Exists.intro
            refine ⟨fun a wz hc hk hf K hK=>?_,?_⟩
            ·have h112:=held_isV hf 0 rfl (by kernel_rfl)
             have h111:=held_isV hf 1 rfl (by kernel_rfl)
             clear hk hf hc
             go_simp
             exact hK _ _ (Below.refl _ _) rfl
            refine calm_fixA rfl rfl ?_
            apply Exists.intro
            refine ⟨fun a wz hc hk hf K hK=>?_,?_⟩
            ·have h113:=held_isV hf 0 rfl (by kernel_rfl)
             have h111:=held_isV hf 2 rfl (by kernel_rfl)
             clear hk hf hc
             go_simp
             exact hK _ _ (Below.refl _ _) rfl
            refine calm_fixA rfl rfl ?_
            apply Exists.intro
            refine ⟨fun a wz hc hk hf K hK=>?_,?_⟩
            ·have h5:=hk 5 (by kernel_rfl)
             have h114:=held_isV hf 0 rfl (by kernel_rfl)
             clear hk hf hc
             go_simp
             exact hK _ _ (Below.refl _ _) rfl
            refine calm_fixA rfl rfl ?_
            apply Exists.intro
            refine ⟨fun a wz hc hk hf K hK=>?_,?_⟩
            ·have h14:=hk 14 (by kernel_rfl)
             have h114:=held_isV hf 1 rfl (by kernel_rfl)
             clear hk hf hc
             go_simp
             exact hK _ _ (Below.refl _ _) rfl
            refine calm_fixA rfl rfl ?_
            apply Exists.intro
            refine ⟨fun a wz hc hk hf K hK=>?_,?_⟩
            ·have h116:=held_isV hf 0 rfl (by kernel_rfl)
             have h114:=held_isV hf 2 rfl (by kernel_rfl)
             clear hk hf hc
             go_simp
             exact hK _ _ (Below.refl _ _) rfl
            refine calm_fixA rfl rfl ?_
            apply Exists.intro
            refine ⟨fun a wz hc hk hf K hK=>?_,?_⟩
            ·have h115:=held_isV hf 2 rfl (by kernel_rfl)
             have h117:=held_isV hf 0 rfl (by kernel_rfl)
             have h114:=held_isV hf 3 rfl (by kernel_rfl)
             clear hk hf hc
             go_simp
             exact hK _ _ (Below.refl _ _) rfl
            refine calm_fixA rfl rfl ?_
            apply Exists.intro
            refine ⟨fun a wz hc hk hf K hK=>?_,?_⟩
            ·have h118:=held_isV hf 0 rfl (by kernel_rfl)
             have h114:=held_isV hf 4 rfl (by kernel_rfl)
             clear hk hf hc
             go_simp
             exact hK _ _ (Below.refl _ _) rfl
            refine calm_fixA rfl rfl ?_
            apply Exists.intro
            refine ⟨fun a wz hc hk hf K hK=>?_,?_⟩
            ·have hb:Below wr.heap.size wr wz:=hc rfl
             have h119:=held_isV hf 0 rfl (by kernel_rfl)
             have h114:=held_isV hf 5 rfl (by kernel_rfl)
             clear hk hf hc
             have y1:=cell_kept HY1.out hb
             have y2:=cell_kept HY2.out hb
             have y3:=cell_kept HY3.out hb
             go_simp
             exact hK _ _ (Below.refl _ _) rfl
            refine calm_fixA rfl rfl ?_
            apply Exists.intro
            refine ⟨fun a wz hc hk hf K hK=>?_,?_⟩
            ·have h5:=hk 5 (by kernel_rfl)
             have h114:=held_isV hf 6 rfl (by kernel_rfl)
             clear hk hf hc
             go_simp
             exact hK _ _ (Below.refl _ _) rfl
            refine calm_fixA rfl rfl ?_
            apply Exists.intro
            refine ⟨fun a wz hc hk hf K hK=>?_,?_⟩
            ·have h14:=hk 14 (by kernel_rfl)
             have h114:=held_isV hf 7 rfl (by kernel_rfl)
             clear hk hf hc
             go_simp
             exact hK _ _ (Below.refl _ _) rfl
            refine calm_fixA rfl rfl ?_
            apply Exists.intro
            refine ⟨fun a wz hc hk hf K hK=>?_,?_⟩
            ·have h121:=held_isV hf 1 rfl (by kernel_rfl)
             have h122:=held_isV hf 0 rfl (by kernel_rfl)
             have h114:=held_isV hf 8 rfl (by kernel_rfl)
             clear hk hf hc
             go_simp
             exact hK _ _ (Below.refl _ _) rfl
            refine calm_fixA rfl rfl ?_
            apply Exists.intro
            refine ⟨fun a wz hc hk hf K hK=>?_,?_⟩
            ·have h123:=held_isV hf 0 rfl (by kernel_rfl)
             have h114:=held_isV hf 9 rfl (by kernel_rfl)
             clear hk hf hc
             go_simp
             exact hK _ _ (Below.refl _ _) rfl
            refine calm_fixA rfl rfl ?_
            apply Exists.intro
            refine ⟨fun a wz hc hk hf K hK=>?_,?_⟩
            ·have hb:Below wr.heap.size wr wz:=hc rfl
             have h124:=held_isV hf 0 rfl (by kernel_rfl)
             have h114:=held_isV hf 10 rfl (by kernel_rfl)
             clear hk hf hc
             have y1:=cell_kept HY1.out hb
             have y2:=cell_kept HY2.out hb
             have y3:=cell_kept HY3.out hb
             go_simp
             exact hK _ _ (Below.refl _ _) rfl
            refine calm_fixA rfl rfl ?_
            apply Exists.intro
            refine ⟨fun a wz hc hk hf K hK=>?_,?_⟩
            ·have h120:=held_isV hf 5 rfl (by kernel_rfl)
             have h125:=held_isV hf 0 rfl (by kernel_rfl)
             have h114:=held_isV hf 11 rfl (by kernel_rfl)
             clear hk hf hc
             go_simp
             exact hK _ _ (Below.refl _ _) rfl
            refine calm_fixA rfl rfl ?_
            apply Exists.intro
            refine ⟨fun a wz hc hk hf K hK=>?_,?_⟩
            ·have h126:=held_isV hf 0 rfl (by kernel_rfl)
             have h114:=held_isV hf 12 rfl (by kernel_rfl)
             clear hk hf hc
             go_simp
             exact hK _ _ (Below.refl _ _) rfl
            refine calm_fixA rfl rfl ?_
            apply Exists.intro
            refine ⟨fun a wz hc hk hf K hK=>?_,?_⟩
            ·have h114:=held_isV hf 13 rfl (by kernel_rfl)
             have h127:=held_isV hf 0 rfl (by kernel_rfl)
             have h111:=held_isV hf 16 rfl (by kernel_rfl)
             clear hk hf hc
             go_simp
             exact hK _ _ (Below.refl _ _) rfl
            refine calm_fixA rfl rfl ?_
            apply Exists.intro
            refine ⟨fun a wz hc hk hf K hK=>?_,?_⟩
            ·have h111:=held_isV hf 17 rfl (by kernel_rfl)
             have h128:=held_isV hf 0 rfl (by kernel_rfl)
             clear hk hf hc
             go_simp
             exact hK _ _ (Below.refl _ _) rfl
            refine calm_nil ?_
            refine ⟨keeps_none,?_⟩
            intro w9 hc
            simp only [lexL,calmEnd]
            rintro _ rfl _ rfl _ rfl _ rfl _ rfl _ rfl _ rfl _ rfl _ rfl _ rfl _ rfl _ rfl _ rfl _ rfl _ rfl _ rfl _ rfl _ rfl _ rfl _ rfl _ rfl _ rfl _ rfl _ rfl _ rfl _ rfl _ rfl _ rfl _ rfl _ rfl _ rfl _ rfl _ rfl _ rfl _ rfl _ rfl _ rfl _ rfl _ rfl _ rfl _ rfl _ rfl _ rfl _ rfl _ rfl
            have hq9:Below wr.heap.size wr w9:=hc rfl
            clear hc
            simp only [Act.put,List.setIfInBounds_toArray,List.set_cons_zero,List.set_cons_succ]
            have HB3:=Lib.hid (HBQ.out.trans (hq9.mono HBQ.out.size))
            have y2:=cell_kept HY2.out hq9
            clear hq9 HY1 HY2 HY3 HBQ
            go_wp2
            go_roundw
            case rel=>exact ⟨0+1,HLQ.out,by go_num,congrArg (Value.int .i64) HRL.out,HB3⟩
            case measure=>have:=HLQ.out;simp [intOf];omega
           ·obtain ⟨j,rfl⟩:∃ j,q=j+1:=⟨q-1,by omega⟩
            clear hz
            have hjl:j < S1.length:=by have:=HLQ.out;omega
            have hcm:=HPW.out j rfl hjl
            obtain ⟨kA2,kp2,pA2,pp2,-,hs2,x4,-,-⟩:=HCC.out j hjl
            have HKL2:=Lib.hid (HF1'.out.keys (S1[j]'hjl) (List.getElem_mem _))
            have HY4:=Lib.hid (cell_kept x4 HBQ.out)
            have HS2:=Lib.hid (StrsIn.kept hs2 HBQ.out)
            obtain ⟨kz,hkz⟩:∃ n,(S1[j]'hjl).1=n:=⟨_,rfl⟩
            rw [hkz] at HY4 HS2 HKL2 hcm
            replace HKL2:Hid (kz.length=2):=HKL2
            rw [HKL2.out] at HY4 HS2
            have HCMP:Hid (∀ W,Below wr.heap.size wr W→GivesAt Try.prog 17 #[.slice kA2 2 kp2,.slice kA 2 kp] W (.int .i64 (-1))):=fun W hW=>by
             have h:=ref_compare_calls (StrsIn.kept HS2.out hW) (StrsIn.kept HS1.out hW)
             rw [hcm] at h
             exact h
            clear hkz hcm hs2 x4 HPW HCC hjl
            have q5:IntKind.i64.wrap (j:Int)=(j:Int):=by have:=HSC.out;have:=HLQ.out;rw [IntKind.wrap_i64];omega
            have q6:IntKind.i64.wrap ((j:Int)+1+1)=(j:Int)+1+1:=by have:=HSC.out;have:=HLQ.out;rw [IntKind.wrap_i64];omega
            have i6:(j:Int) < (gl1:Int):=by have:=HSL1.out;have:=HLQ.out;omega
            have i7:(0:Int)≤(j:Int):=by omega
            have d0:decide ((0:Int) < ((j+1:Nat):Int))=true:=decide_eq_true (by omega)
            go_wp2_with fail
            refine wp_region_calm (offC wr) (fun _=>false) (fun _=>false) anyE false (by kernel_rfl) (by kernel_rfl) (by kernel_rfl) (by kernel_rfl) (by intro m hm;revert hm;simp;try omega) (offC_stable _) (offC_start _) ?_
            refine calm_fixA rfl rfl ?_
            apply Exists.intro
            refine ⟨fun a wz hc hk hf K hK=>?_,?_⟩
            ·have h5:=hk 5 (by kernel_rfl)
             clear hk hf hc
             go_simp
             exact hK _ _ (Below.refl _ _) rfl
            refine calm_fixA rfl rfl ?_
            apply Exists.intro
            refine ⟨fun a wz hc hk hf K hK=>?_,?_⟩
            ·have h14:=hk 14 (by kernel_rfl)
             clear hk hf hc
             go_simp
             exact hK _ _ (Below.refl _ _) rfl
            refine calm_fixA rfl rfl ?_
            apply Exists.intro
            refine ⟨fun a wz hc hk hf K hK=>?_,?_⟩
            ·have h85:=held_isV hf 1 rfl (by kernel_rfl)
             have h86:=held_isV hf 0 rfl (by kernel_rfl)
             clear hk hf hc
             go_simp
             exact hK _ _ (Below.refl _ _) rfl
            refine calm_fixA rfl rfl ?_
            apply Exists.intro
            refine ⟨fun a wz hc hk hf K hK=>?_,?_⟩
            ·have h87:=held_isV hf 0 rfl (by kernel_rfl)
             clear hk hf hc
             go_simp
             exact hK _ _ (Below.refl _ _) rfl
            refine calm_fixA rfl rfl ?_
            apply Exists.intro
            refine ⟨fun a wz hc hk hf K hK=>?_,?_⟩
            ·have hb:Below wr.heap.size wr wz:=hc rfl
             have h88:=held_isV hf 0 rfl (by kernel_rfl)
             clear hk hf hc
             have y1:=cell_kept HY1.out hb
             have y2:=cell_kept HY2.out hb
             have y3:=cell_kept HY3.out hb
             have y4:=cell_kept HY4.out hb
             go_simp
             exact hK _ _ (Below.refl _ _) rfl
            refine calm_fixA rfl rfl ?_
            apply Exists.intro
            refine ⟨fun a wz hc hk hf K hK=>?_,?_⟩
            ·have h89:=held_isV hf 0 rfl (by kernel_rfl)
             clear hk hf hc
             go_simp
             exact hK _ _ (Below.refl _ _) rfl
            refine calm_fixA rfl rfl ?_
            apply Exists.intro
            refine ⟨fun a wz hc hk hf K hK=>?_,?_⟩
            ·have h90:=held_isV hf 0 rfl (by kernel_rfl)
             clear hk hf hc
             go_simp
             exact hK _ _ (Below.refl _ _) rfl
            refine calm_fixA rfl rfl ?_
            apply Exists.intro
            refine ⟨fun a wz hc hk hf K hK=>?_,?_⟩
            ·have h5:=hk 5 (by kernel_rfl)
             have h91:=held_isV hf 0 rfl (by kernel_rfl)
             clear hk hf hc
             go_simp
             exact hK _ _ (Below.refl _ _) rfl
            refine calm_fixA rfl rfl ?_
            apply Exists.intro
            refine ⟨fun a wz hc hk hf K hK=>?_,?_⟩
            ·have h14:=hk 14 (by kernel_rfl)
             have h91:=held_isV hf 1 rfl (by kernel_rfl)
             clear hk hf hc
             go_simp
             exact hK _ _ (Below.refl _ _) rfl
            refine calm_fixA rfl rfl ?_
            apply Exists.intro
            refine ⟨fun a wz hc hk hf K hK=>?_,?_⟩
            ·have h92:=held_isV hf 1 rfl (by kernel_rfl)
             have h93:=held_isV hf 0 rfl (by kernel_rfl)
             have h91:=held_isV hf 2 rfl (by kernel_rfl)
             clear hk hf hc
             go_simp
             exact hK _ _ (Below.refl _ _) rfl
            refine calm_fixA rfl rfl ?_
            apply Exists.intro
            refine ⟨fun a wz hc hk hf K hK=>?_,?_⟩
            ·have h94:=held_isV hf 0 rfl (by kernel_rfl)
             have h91:=held_isV hf 3 rfl (by kernel_rfl)
             clear hk hf hc
             go_simp
             exact hK _ _ (Below.refl _ _) rfl
            refine calm_fixA rfl rfl ?_
            apply Exists.intro
            refine ⟨fun a wz hc hk hf K hK=>?_,?_⟩
            ·have hb:Below wr.heap.size wr wz:=hc rfl
             have h95:=held_isV hf 0 rfl (by kernel_rfl)
             have h91:=held_isV hf 4 rfl (by kernel_rfl)
             clear hk hf hc
             have y1:=cell_kept HY1.out hb
             have y2:=cell_kept HY2.out hb
             have y3:=cell_kept HY3.out hb
             have y4:=cell_kept HY4.out hb
             go_simp
             exact hK _ _ (Below.refl _ _) rfl
            refine calm_fixA rfl rfl ?_
            apply Exists.intro
            refine ⟨fun a wz hc hk hf K hK=>?_,?_⟩
            ·have h96:=held_isV hf 0 rfl (by kernel_rfl)
             have h91:=held_isV hf 5 rfl (by kernel_rfl)
             clear hk hf hc
             go_simp
             exact hK _ _ (Below.refl _ _) rfl
            refine calm_fixA rfl rfl ?_
            apply Exists.intro
            refine ⟨fun a wz hc hk hf K hK=>?_,?_⟩
            ·have h1:=hk 1 (by kernel_rfl)
             have h91:=held_isV hf 6 rfl (by kernel_rfl)
             clear hk hf hc
             go_simp
             exact hK _ _ (Below.refl _ _) rfl
            refine calm_fixA rfl rfl ?_
            apply Exists.intro
            refine ⟨fun a wz hc hk hf K hK=>?_,?_⟩
            ·have h98:=held_isV hf 0 rfl (by kernel_rfl)
             have h91:=held_isV hf 7 rfl (by kernel_rfl)
             clear hk hf hc
             go_simp
             exact hK _ _ (Below.refl _ _) rfl
            refine calm_fixA rfl rfl ?_
            apply Exists.intro
            refine ⟨fun a wz hc hk hf K hK=>?_,?_⟩
            ·have h97:=held_isV hf 2 rfl (by kernel_rfl)
             have h99:=held_isV hf 0 rfl (by kernel_rfl)
             have h91:=held_isV hf 8 rfl (by kernel_rfl)
             clear hk hf hc
             go_simp
             exact hK _ _ (Below.refl _ _) rfl
            refine calm_fixA rfl rfl ?_
            apply Exists.intro
            refine ⟨fun a wz hc hk hf K hK=>?_,?_⟩
            ·have h91:=held_isV hf 9 rfl (by kernel_rfl)
             have h100:=held_isV hf 0 rfl (by kernel_rfl)
             clear hk hf hc
             go_simp
             exact hK _ _ (Below.refl _ _) rfl
            refine calm_fixA rfl rfl ?_
            apply Exists.intro
            refine ⟨fun a wz hc hk hf K hK=>?_,?_⟩
            ·have h101:=held_isV hf 0 rfl (by kernel_rfl)
             clear hk hf hc
             go_simp
             exact hK _ _ (Below.refl _ _) rfl
            refine calm_fixA rfl rfl ?_
            apply Exists.intro
            refine ⟨fun a wz hc hk hf K hK=>?_,?_⟩
            ·have h5:=hk 5 (by kernel_rfl)
             have h102:=held_isV hf 0 rfl (by kernel_rfl)
             clear hk hf hc
             go_simp
             exact hK _ _ (Below.refl _ _) rfl
            refine calm_fixA rfl rfl ?_
            apply Exists.intro
            refine ⟨fun a wz hc hk hf K hK=>?_,?_⟩
            ·have h14:=hk 14 (by kernel_rfl)
             have h102:=held_isV hf 1 rfl (by kernel_rfl)
             clear hk hf hc
             go_simp
             exact hK _ _ (Below.refl _ _) rfl
            refine calm_fixA rfl rfl ?_
            apply Exists.intro
            refine ⟨fun a wz hc hk hf K hK=>?_,?_⟩
            ·have h103:=held_isV hf 1 rfl (by kernel_rfl)
             have h104:=held_isV hf 0 rfl (by kernel_rfl)
             have h102:=held_isV hf 2 rfl (by kernel_rfl)
             clear hk hf hc
             go_simp
             exact hK _ _ (Below.refl _ _) rfl
            refine calm_fixA rfl rfl ?_
            apply Exists.intro
            refine ⟨fun a wz hc hk hf K hK=>?_,?_⟩
            ·have h105:=held_isV hf 0 rfl (by kernel_rfl)
             have h102:=held_isV hf 3 rfl (by kernel_rfl)
             clear hk hf hc
             go_simp
             exact hK _ _ (Below.refl _ _) rfl
            refine calm_fixA rfl rfl ?_
            apply Exists.intro
            refine ⟨fun a wz hc hk hf K hK=>?_,?_⟩
            ·have hb:Below wr.heap.size wr wz:=hc rfl
             have h106:=held_isV hf 0 rfl (by kernel_rfl)
             have h102:=held_isV hf 4 rfl (by kernel_rfl)
             clear hk hf hc
             have y1:=cell_kept HY1.out hb
             have y2:=cell_kept HY2.out hb
             have y3:=cell_kept HY3.out hb
             have y4:=cell_kept HY4.out hb
             go_simp
             exact hK _ _ (Below.refl _ _) rfl
            refine calm_fixA rfl rfl ?_
            apply Exists.intro
            refine ⟨fun a wz hc hk hf K hK=>?_,?_⟩
            ·have h107:=held_isV hf 0 rfl (by kernel_rfl)
             have h102:=held_isV hf 5 rfl (by kernel_rfl)
             clear hk hf hc
             go_simp
             exact hK _ _ (Below.refl _ _) rfl
            refine calm_fixA rfl rfl ?_
            apply Exists.intro
            refine ⟨fun a wz hc hk hf K hK=>?_,?_⟩
            ·have h108:=held_isV hf 0 rfl (by kernel_rfl)
             have h102:=held_isV hf 6 rfl (by kernel_rfl)
             clear hk hf hc
             go_simp
             exact hK _ _ (Below.refl _ _) rfl
            refine calm_fixA rfl rfl ?_
            apply Exists.intro
            refine ⟨fun a wz hc hk hf K hK=>?_,?_⟩
            ·have h102:=held_isV hf 7 rfl (by kernel_rfl)
             have h109:=held_isV hf 0 rfl (by kernel_rfl)
             clear hk hf hc
             go_simp
             exact hK _ _ (Below.refl _ _) rfl
            refine calm_fixA rfl rfl ?_
            apply Exists.intro
            refine ⟨fun a wz hc hk hf K hK=>?_,?_⟩
            ·have h110:=held_isV hf 0 rfl (by kernel_rfl)
             clear hk hf hc
             go_simp
             exact hK _ _ (Below.refl _ _) rfl
            refine calm_fixA rfl rfl ?_
            apply Exists.intro
            refine ⟨fun a wz hc hk hf K hK=>?_,?_⟩
            ·have h14:=hk 14 (by kernel_rfl)
             have h111:=held_isV hf 0 rfl (by kernel_rfl)
             clear hk hf hc
             go_simp
             exact hK _ _ (Below.refl _ _) rfl
            refine calm_fixA rfl rfl ?_
            apply Exists.intro
            refine ⟨fun a wz hc hk hf K hK=>?_,?_⟩
            ·have h112:=held_isV hf 0 rfl (by kernel_rfl)
             have h111:=held_isV hf 1 rfl (by kernel_rfl)
             clear hk hf hc
             go_simp
             exact hK _ _ (Below.refl _ _) rfl
            refine calm_fixA rfl rfl ?_
            apply Exists.intro
            refine ⟨fun a wz hc hk hf K hK=>?_,?_⟩
            ·have h113:=held_isV hf 0 rfl (by kernel_rfl)
             have h111:=held_isV hf 2 rfl (by kernel_rfl)
             clear hk hf hc
             go_simp
             exact hK _ _ (Below.refl _ _) rfl
            refine calm_fixA rfl rfl ?_
            apply Exists.intro
            refine ⟨fun a wz hc hk hf K hK=>?_,?_⟩
            ·have h5:=hk 5 (by kernel_rfl)
             have h114:=held_isV hf 0 rfl (by kernel_rfl)
             clear hk hf hc
             go_simp
             exact hK _ _ (Below.refl _ _) rfl
            refine calm_fixA rfl rfl ?_
            apply Exists.intro
            refine ⟨fun a wz hc hk hf K hK=>?_,?_⟩
            ·have h14:=hk 14 (by kernel_rfl)
             have h114:=held_isV hf 1 rfl (by kernel_rfl)
             clear hk hf hc
             go_simp
             exact hK _ _ (Below.refl _ _) rfl
            refine calm_fixA rfl rfl ?_
            apply Exists.intro
            refine ⟨fun a wz hc hk hf K hK=>?_,?_⟩
            ·have h116:=held_isV hf 0 rfl (by kernel_rfl)
             have h114:=held_isV hf 2 rfl (by kernel_rfl)
             clear hk hf hc
             go_simp
             exact hK _ _ (Below.refl _ _) rfl
            refine calm_fixA rfl rfl ?_
            apply Exists.intro
            refine ⟨fun a wz hc hk hf K hK=>?_,?_⟩
            ·have h115:=held_isV hf 2 rfl (by kernel_rfl)
             have h117:=held_isV hf 0 rfl (by kernel_rfl)
             have h114:=held_isV hf 3 rfl (by kernel_rfl)
             clear hk hf hc
             go_simp
             exact hK _ _ (Below.refl _ _) rfl
            refine calm_fixA rfl rfl ?_
            apply Exists.intro
            refine ⟨fun a wz hc hk hf K hK=>?_,?_⟩
            ·have h118:=held_isV hf 0 rfl (by kernel_rfl)
             have h114:=held_isV hf 4 rfl (by kernel_rfl)
             clear hk hf hc
             go_simp
             exact hK _ _ (Below.refl _ _) rfl
            refine calm_fixA rfl rfl ?_
            apply Exists.intro
            refine ⟨fun a wz hc hk hf K hK=>?_,?_⟩
            ·have hb:Below wr.heap.size wr wz:=hc rfl
             have h119:=held_isV hf 0 rfl (by kernel_rfl)
             have h114:=held_isV hf 5 rfl (by kernel_rfl)
             clear hk hf hc
             have y1:=cell_kept HY1.out hb
             have y2:=cell_kept HY2.out hb
             have y3:=cell_kept HY3.out hb
             have y4:=cell_kept HY4.out hb
             go_simp
             exact hK _ _ (Below.refl _ _) rfl
            refine calm_fixA rfl rfl ?_
            apply Exists.intro
            refine ⟨fun a wz hc hk hf K hK=>?_,?_⟩
            ·have h5:=hk 5 (by kernel_rfl)
             have h114:=held_isV hf 6 rfl (by kernel_rfl)
             clear hk hf hc
             go_simp
             exact hK _ _ (Below.refl _ _) rfl
            refine calm_fixA rfl rfl ?_
            apply Exists.intro
            refine ⟨fun a wz hc hk hf K hK=>?_,?_⟩
            ·have h14:=hk 14 (by kernel_rfl)
             have h114:=held_isV hf 7 rfl (by kernel_rfl)
             clear hk hf hc
             go_simp
             exact hK _ _ (Below.refl _ _) rfl
            refine calm_fixA rfl rfl ?_
            apply Exists.intro
            refine ⟨fun a wz hc hk hf K hK=>?_,?_⟩
            ·have h121:=held_isV hf 1 rfl (by kernel_rfl)
             have h122:=held_isV hf 0 rfl (by kernel_rfl)
             have h114:=held_isV hf 8 rfl (by kernel_rfl)
             clear hk hf hc
             go_simp
             exact hK _ _ (Below.refl _ _) rfl
            refine calm_fixA rfl rfl ?_
            apply Exists.intro
            refine ⟨fun a wz hc hk hf K hK=>?_,?_⟩
            ·have h123:=held_isV hf 0 rfl (by kernel_rfl)
             have h114:=held_isV hf 9 rfl (by kernel_rfl)
             clear hk hf hc
             go_simp
             exact hK _ _ (Below.refl _ _) rfl
            refine calm_fixA rfl rfl ?_
            apply Exists.intro
            refine ⟨fun a wz hc hk hf K hK=>?_,?_⟩
            ·have hb:Below wr.heap.size wr wz:=hc rfl
             have h124:=held_isV hf 0 rfl (by kernel_rfl)
             have h114:=held_isV hf 10 rfl (by kernel_rfl)
             clear hk hf hc
             have y1:=cell_kept HY1.out hb
             have y2:=cell_kept HY2.out hb
             have y3:=cell_kept HY3.out hb
             have y4:=cell_kept HY4.out hb
             go_simp
             exact hK _ _ (Below.refl _ _) rfl
            refine calm_fixA rfl rfl ?_
            apply Exists.intro
            refine ⟨fun a wz hc hk hf K hK=>?_,?_⟩
            ·have hb:Below wr.heap.size wr wz:=hc rfl
             have h120:=held_isV hf 5 rfl (by kernel_rfl)
             have h125:=held_isV hf 0 rfl (by kernel_rfl)
             have h114:=held_isV hf 11 rfl (by kernel_rfl)
             clear hk hf hc
             go_simp
             refine Calls.mono (HCMP.out wz hb) ?_
             rintro e w1 ⟨rfl,hq⟩
             exact hK _ _ hq rfl
            refine calm_fixA rfl rfl ?_
            apply Exists.intro
            refine ⟨fun a wz hc hk hf K hK=>?_,?_⟩
            ·have h126:=held_isV hf 0 rfl (by kernel_rfl)
             have h114:=held_isV hf 12 rfl (by kernel_rfl)
             clear hk hf hc
             go_simp
             exact hK _ _ (Below.refl _ _) rfl
            refine calm_fixA rfl rfl ?_
            apply Exists.intro
            refine ⟨fun a wz hc hk hf K hK=>?_,?_⟩
            ·have h114:=held_isV hf 13 rfl (by kernel_rfl)
             have h127:=held_isV hf 0 rfl (by kernel_rfl)
             have h111:=held_isV hf 16 rfl (by kernel_rfl)
             clear hk hf hc
             go_simp
             exact hK _ _ (Below.refl _ _) rfl
            refine calm_fixA rfl rfl ?_
            apply Exists.intro
            refine ⟨fun a wz hc hk hf K hK=>?_,?_⟩
            ·have h111:=held_isV hf 17 rfl (by kernel_rfl)
             have h128:=held_isV hf 0 rfl (by kernel_rfl)
             clear hk hf hc
             go_simp
             exact hK _ _ (Below.refl _ _) rfl
            refine calm_nil ?_
            refine ⟨keeps_none,?_⟩
            intro w9 hc
            simp only [lexL,calmEnd]
            rintro _ rfl _ rfl _ rfl _ rfl _ rfl _ rfl _ rfl _ rfl _ rfl _ rfl _ rfl _ rfl _ rfl _ rfl _ rfl _ rfl _ rfl _ rfl _ rfl _ rfl _ rfl _ rfl _ rfl _ rfl _ rfl _ rfl _ rfl _ rfl _ rfl _ rfl _ rfl _ rfl _ rfl _ rfl _ rfl _ rfl _ rfl _ rfl _ rfl _ rfl _ rfl _ rfl _ rfl _ rfl _ rfl
            have hq9:Below wr.heap.size wr w9:=hc rfl
            clear hc
            simp only [Act.put,List.setIfInBounds_toArray,List.set_cons_zero,List.set_cons_succ]
            clear HY4 HS2 HCMP
            have HB3:=Lib.hid (HBQ.out.trans (hq9.mono HBQ.out.size))
            have y2:=cell_kept HY2.out hq9
            clear hq9 HY1 HY2 HY3 HBQ
            go_wp2
            go_roundw
            case rel=>exact ⟨j+1+1,HLQ.out,by go_num,congrArg (Value.int .i64) HRL.out,HB3⟩
            case measure=>have:=HLQ.out;simp [intOf];omega
          ·obtain rfl:q=S1.length:=by omega
           rw [List.take_length]
           rw [←HN1.out]
           have i5:¬(S1.length:Int) < (gl1:Int):=by have:=HSL1.out;omega
           have e9:(N1==N1)=true:=by simp
           have HGZ:=Lib.hid (HG1.out.kept HBQ.out)
           clear hql hq0 HBQ HB HG1 HST1
           go_wp2
           go_roundw
           case rel=>exact ⟨k+1,HLK.out,by go_num,S1,was1,N1,HGZ,HF1',HWA1,rfl,HN1,HB2⟩
           case measure=>have:=HLK.out;simp [intOf];omega
      ·have hg:(er1==0)=false:=by rw [beq_eq_false_iff_ne];exact he
       have hgn:(er1 != 0)=true:=by rw [bne,hg];rfl
       have HSS:Hid (S1=S0):=Lib.hid (HM1.out.elim (fun h=>absurd h.1 he) fun h=>h.2.1)
       clear he
       have HFZ:Hid (FitS [0,2] (12*(k+1)) (12582912*(k+1)) S0):=Lib.hid (HSS.out▸HF1'.out)
       clear HG1 HM1 HE1 HWA1 HDL1
       go_wp2
       go_roundw
       case rel=>exact ⟨k+1,HLK.out,by go_num,S0,was0,N0,HG0,HFZ,HW0,rfl,HN0,HB⟩
       case measure=>have:=HLK.out;simp [intOf];omega
    ·obtain rfl:k=pl.length:=by omega
     have i1:¬(pl.length:Int) < (pl.length:Int):=by omega
     clear hlt hk
     go_wp2_with fail
     refine Calls.mono (HAW.out wr) ?_
     rintro e wn2 ⟨rfl,hq⟩
     replace HB:=Lib.hid (HB.out.trans (hq.mono HB.out.size))
     clear hq
     go_wp2
     go_ret
     exact ⟨rfl,HB.out⟩
 ·have dc0:decide ((4:Int) < (pl.length:Int))=true:=decide_eq_true (by omega)
  clear hc
  go_wp2_with fail
  refine Calls.mono (HAW.out w) ?_
  rintro e wn1 ⟨rfl,hq⟩
  replace HB:=Lib.hid (HB.out.trans (hq.mono HB.out.size))
  clear hq
  go_wp2
  go_ret
  exact ⟨rfl,HB.out⟩
end Go.Proofs.Ytjbpbfhgjldliaa
