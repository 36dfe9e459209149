/- The contract of the answer's Join of layer 19. -/
import Derived.Test.YtaoeikeobfllkaaGWeighRef
import Derived.Test.YtaoeikeobfllkaaGZCalm
import Derived.Test.YtaoeikeobfllkaaGCalmM
import Derived.Test.YtaoeikeobfllkaaGZPairFine
import Derived.Test.YtaoeikeobfllkaaGZPairRef
namespace Go.Proofs.Ytaoeikeobfllkaa
open Go Go.RowKit
theorem wt_part (l m:List Tm)(on:List Cl)(k q:Nat)(hk:k < l.length)(hq:q < m.length):wtW (pairsL (l.take k) m on++withL l[k] (m.take q) on)+(l[k].2*m[q].2).natAbs≤wtW l*wtW m:=by
 have h1:=wt_pairs (l.take k) m on
 have h2:=wt_with l[k] (m.take q) on
 have a1:=Nat.mul_le_mul_right (wtW m) (wt_take l k hk)
 have a2:=Nat.mul_le_mul_left l[k].2.natAbs (wt_take m q hq)
 rw [Nat.add_mul] at a1
 rw [Nat.mul_add] at a2
 rw [wtW_append,Int.natAbs_mul]
 omega
theorem part_length (l m:List Tm)(on:List Cl)(k q:Nat)(hk:k < l.length):(pairsL (l.take k) m on++withL l[k] (m.take q) on).length≤l.length*m.length:=by
 have h1:=pairs_length (l.take k) m on
 have h2:=with_length l[k] (m.take q) on
 rw [List.length_take] at h1 h2
 have h3:(k+1)*m.length≤l.length*m.length:=Nat.mul_le_mul_right _ hk
 rw [Nat.add_mul,Nat.one_mul] at h3
 rw [Nat.min_eq_left (Nat.le_of_lt hk)] at h1
 rw [List.length_append]
 omega
def OwR (B:Nat)(l:List ByteArray):Value→World→Prop:=fun v wx=>∃ A p,v=.slice A l.length p∧Own wx B 1 (.slice A l.length p) l.length (l.map Value.string)
theorem OwR.kept {B:Nat}{l:List ByteArray}:∀ (v:Value)(w w':World),Below w.heap.size w w'→OwR B l v w→OwR B l v w':=fun _ _ _ hb h=>by
 obtain ⟨A,p,e,h1⟩:=h
 exact ⟨A,p,e,h1.later hb⟩
theorem OwR.of {B:Nat}{l:List ByteArray}{v:Value}{w:World}(h:Own w B 1 v l.length (l.map Value.string)):OwR B l v w:=by
 obtain ⟨A,p,e⟩:=h.len
 exact ⟨A,p,e,e▸h⟩
set_option maxHeartbeats 8000000 in
set_option maxRecDepth 100000 in
theorem ref_join19_calls {w:World}{vl vm vo:Value}{l m:List Tm}{on:List Cl}{n1 n2 k1 k2 d1 d2:Nat}(hl:TimesIn w vl l)(hm:TimesIn w vm m)(ho:OnIn w vo on)(f:Fine n1 k1 d1 l)(g:Fine n2 k2 d2 m)
  (hn:n1≤1000000∧n2≤1000000∧n1*n2≤1000000∧k1≤4611686018427387904∧k2≤4611686018427387904∧k1*k2≤4611686018427387904∧d1+d2≤1000000) :
  GivesTimes Try.prog 13 #[vl,vm,vo] w (joinS l m on):=by
 obtain ⟨hn1,hn2,hn3,_,_,hk3,hd⟩:=hn
 obtain ⟨j0,hj,jz0,jz1,jz2⟩:=info_parts Try.infoP9
 obtain ⟨hb,hB⟩:=start w
 obtain ⟨tvl,Al,cl,rfl,_,hatl⟩:=times_at hl
 obtain ⟨tvm,Am,cm,rfl,_,hatm⟩:=times_at hm
 obtain ⟨Ao,co,rfl⟩:=ho.slice
 have HATL:=Lib.hid hatl
 have HATM:=Lib.hid hatm
 have HON:=Lib.hid ho
 have HLL:Hid (l.length≤1000000):=Nat.le_trans f.1 hn1
 have HML:Hid (m.length≤1000000):=Nat.le_trans g.1 hn2
 have HLM:Hid (l.length*m.length≤1000000):=Nat.le_trans (Nat.mul_le_mul f.1 g.1) hn3
 have HWM:Hid (wtW l*wtW m≤4611686018427387904):=Nat.le_trans (Nat.mul_le_mul f.2.1 g.2.1) hk3
 have HDL:Hid (∀ x∈l,∀ y∈m,x.1.length+y.1.length≤1000000):=fun x hx y hy=>by have:=f.2.2.1 x hx;have:=g.2.2.1 y hy;omega
 have HWL:Hid (∀ x∈l,∀ y∈m,-9223372036854775808≤x.2*y.2∧x.2*y.2≤9223372036854775807):=fun x hx y hy=>mul_fits (Nat.le_trans (wt_mem hx) f.2.1) (Nat.le_trans (wt_mem hy) g.2.1) hk3
 clear hl hm ho hatl hatm f g hn1 hn2 hn3 hk3 hd
 unfold GivesTimes joinS
 go_enter Try.func13,Try.ntmps13
 go_wp2
 go_loopw [7,8] (fun x i wr=>∃ k:Nat,k≤l.length∧i=.int .i64 k∧Hid (TimesIn wr x (ofW (pairsL (l.take k) m on)))∧Hid (Below w.heap.size w wr)) (fun _ i _=>l.length-(intOf i).toNat)
 case atStart=>exact ⟨0,Nat.zero_le _,rfl,Lib.hid (TimesIn.nil_ _ _ _),Lib.hid hb⟩
 case round =>
  clear hb hB
  obtain ⟨k,hk,rfl,HT,HB⟩:=hrel
  obtain ⟨A7,p7,e7⟩:=times_slice HT.out
  by_cases hlt:k < l.length
  ·obtain ⟨b1,off,rfl,hbl,hc⟩:=HATL.out k hlt
   obtain ⟨rv,hs,_,c1,c2⟩:=hc k hlt
   obtain ⟨Ar,pr,rfl⟩:∃ Ar pr,rv=.slice Ar l[k].1.length pr:=by obtain ⟨Ar,pr,e,_⟩:=one_at hs;exact ⟨Ar,pr,e⟩
   have HC1:=Lib.hid c1
   have HC2:=Lib.hid c2
   have HS:=Lib.hid hs
   have HTK:=Lib.hid (pairs_take l m on k hlt)
   have HPL:Hid (∀ q,(pairsL (l.take k) m on++withL l[k] (m.take q) on).length≤1000000):=fun q=>Nat.le_trans (part_length l m on k q hlt) HLM.out
   have HPW:Hid (∀ q (hq:q < m.length),wtW (pairsL (l.take k) m on++withL l[k] (m.take q) on)+(l[k].2*m[q].2).natAbs≤4611686018427387904):=fun q hq=>Nat.le_trans (wt_part l m on k q hlt hq) HWM.out
   have HDK:Hid (∀ y∈m,l[k].1.length+y.1.length≤1000000):=HDL.out _ (List.getElem_mem hlt)
   have HWK:Hid (∀ y∈m,-9223372036854775808≤l[k].2*y.2∧l[k].2*y.2≤9223372036854775807):=HWL.out _ (List.getElem_mem hlt)
   have HLK:Hid (k < l.length):=hlt
   have HBL:Hid (b1 < w.heap.size):=hbl
   have i1:(k:Int) < (l.length:Int):=by omega
   clear hc c1 c2 hs
   generalize l[k]=x at *
   clear hlt
   obtain ⟨row,c⟩:=x
   dsimp only at *
   have HSTART:Hid (TimesIn wr u7 (ofW (pairsL (l.take k) m on++withL (row,c) (m.take 0) on))):=by
    show TimesIn _ _ (ofW (_++[]))
    rw [List.append_nil]
    exact HT.out
   clear HT
   subst e7
   have HB0:=HB
   go_wp2
   go_loopw [7,9] (fun x i wr=>∃ q:Nat,q≤m.length∧i=.int .i64 q∧Hid (TimesIn wr x (ofW (pairsL (l.take k) m on++withL (row,c) (m.take q) on)))∧Hid (Below w.heap.size w wr)) (fun _ i _=>m.length-(intOf i).toNat)
   case atStart=>exact ⟨0,Nat.zero_le _,rfl,HSTART,HB0⟩
   case round =>
    clear HSTART HB0 HB
    obtain ⟨q,hq,rfl,HT,HB⟩:=hrel
    obtain ⟨A9,p9,e9⟩:=times_slice HT.out
    by_cases hql:q < m.length
    ·obtain ⟨b2,off2,rfl,hbl2,hc2⟩:=HATM.out q hql
     obtain ⟨ry,hsy,_,c3,c4⟩:=hc2 q hql
     obtain ⟨Ay,py,rfl⟩:∃ Ay py,ry=.slice Ay m[q].1.length py:=by obtain ⟨Ay,py,e,_⟩:=one_at hsy;exact ⟨Ay,py,e⟩
     have HX1:=Lib.hid ((HB.out.cell (p:=⟨b1,off+k*2,none⟩) HBL.out).trans HC1.out)
     have HX2:=Lib.hid ((HB.out.cell (p:=⟨b1,off+k*2+1,none⟩) HBL.out).trans HC2.out)
     have HY1:=Lib.hid ((HB.out.cell (p:=⟨b2,off2+q*2,none⟩) hbl2).trans c3)
     have HY2:=Lib.hid ((HB.out.cell (p:=⟨b2,off2+q*2+1,none⟩) hbl2).trans c4)
     have HTQ:=Lib.hid (with_take (row,c) m on q hql)
     have hmem:=List.getElem_mem hql
     have HLEN:Hid (row.length+m[q].1.length≤1000000):=HDK.out _ hmem
     have hwr:=HWK.out _ hmem
     have hpw:=HPW.out q hql
     have hpl:=HPL.out q
     have HSX:=Lib.hid (StrsIn.kept HS.out HB.out)
     have HSY:=Lib.hid (StrsIn.kept hsy HB.out)
     have HLQ:Hid (q < m.length):=hql
     have i2:(q:Int) < (m.length:Int):=by omega
     clear hc2 c3 c4 hsy hmem
     generalize m[q]=y at *
     clear hql
     obtain ⟨ry0,cy⟩:=y
     dsimp only at *
     obtain ⟨F,hF⟩:∃ F,pairsL (l.take k) m on++withL (row,c) (m.take q) on=F:=⟨_,rfl⟩
     have HTN:Hid (pairsL (l.take k) m on++withL (row,c) (m.take (q+1)) on=F++if meetsB row ry0 on=true then [(row++ry0,c*cy)] else []):=by
      show _=_
      rw [HTQ.out,←List.append_assoc,hF]
      rfl
     rw [hF] at HT e9 hpw hpl
     clear hF HTQ
     have HM:Hid (∀ W,Below wr.heap.size wr W→GivesAt Try.prog 10 #[.slice Ar row.length pr,.slice Ay ry0.length py,.slice Ao on.length co] W (.bool (meetsB row ry0 on))):=fun W hW=>ref_meets_calls (StrsIn.kept HSX.out hW) (StrsIn.kept HSY.out hW) (HON.out.kept (HB.out.trans (hW.mono HB.out.size)))
     cases hy:meetsB row ry0 on with
     | true =>
      rw [hy] at HM
      replace HTN:=Lib.hid (HTN.out.trans (by rw [if_pos hy]))
      have hwo:=wt_of F
      have hlo:=of_length F
      have HPUT:=Lib.hid (put_of F (row++ry0,c*cy))
      rw [←HTN.out] at HPUT
      generalize ofW F=F0 at *
      have HFF:Hid (F0.length≤1000000∧wtW F0+(c*cy).natAbs≤4611686018427387904):=by show _∧_;omega
      obtain ⟨cc,hcc⟩:∃ cc,c*cy=cc:=⟨_,rfl⟩
      have q1:IntKind.i64.wrap (c*cy)=cc:=by rw [IntWalk.i64_in _ hwr,hcc]
      rw [hcc] at HFF HPUT
      clear hcc
      clear hy hwo hlo hpw hpl hwr HTN
      generalize hm9:F0.length=m9 at e9
      subst e9
      clear hm9
      go_wp2_with fail
      refine wp_region_calm (offC wr) (fun _=>false) (fun _=>false) anyE false (by kernel_rfl) (by kernel_rfl) (by kernel_rfl) (by kernel_rfl) (by intro m hm;revert hm;simp;try omega) (offC_stable _) (offC_start _) ?_
      refine calm_fixA rfl rfl ?_
      apply Exists.intro
      refine ⟨fun a wz hc hk hf K hK=>?_,?_⟩
      ·have h0:=hk 0 (by kernel_rfl)
       clear hk hf hc
       go_simp
       exact hK _ _ (Below.refl _ _) rfl
      refine calm_fixA rfl rfl ?_
      apply Exists.intro
      refine ⟨fun a wz hc hk hf K hK=>?_,?_⟩
      ·have h8:=hk 8 (by kernel_rfl)
       clear hk hf hc
       go_simp
       exact hK _ _ (Below.refl _ _) rfl
      refine calm_fixA rfl rfl ?_
      apply Exists.intro
      refine ⟨fun a wz hc hk hf K hK=>?_,?_⟩
      ·have h23:=held_isV hf 1 rfl (by kernel_rfl)
       have h24:=held_isV hf 0 rfl (by kernel_rfl)
       clear hk hf hc
       go_simp
       exact hK _ _ (Below.refl _ _) rfl
      refine calm_fixA rfl rfl ?_
      apply Exists.intro
      refine ⟨fun a wz hc hk hf K hK=>?_,?_⟩
      ·have h25:=held_isV hf 0 rfl (by kernel_rfl)
       clear hk hf hc
       go_simp
       exact hK _ _ (Below.refl _ _) rfl
      refine calm_fixA rfl rfl ?_
      apply Exists.intro
      refine ⟨fun a wz hc hk hf K hK=>?_,?_⟩
      ·have hb:Below wr.heap.size wr wz:=hc rfl
       have h26:=held_isV hf 0 rfl (by kernel_rfl)
       clear hk hf hc
       have x1:=cell_kept HX1.out hb
       have y1:=cell_kept HY1.out hb
       go_simp
       exact hK _ _ (Below.refl _ _) rfl
      refine calm_fixA rfl rfl ?_
      apply Exists.intro
      refine ⟨fun a wz hc hk hf K hK=>?_,?_⟩
      ·have h1:=hk 1 (by kernel_rfl)
       clear hk hf hc
       go_simp
       exact hK _ _ (Below.refl _ _) rfl
      refine calm_fixA rfl rfl ?_
      apply Exists.intro
      refine ⟨fun a wz hc hk hf K hK=>?_,?_⟩
      ·have h9:=hk 9 (by kernel_rfl)
       clear hk hf hc
       go_simp
       exact hK _ _ (Below.refl _ _) rfl
      refine calm_fixA rfl rfl ?_
      apply Exists.intro
      refine ⟨fun a wz hc hk hf K hK=>?_,?_⟩
      ·have h28:=held_isV hf 1 rfl (by kernel_rfl)
       have h29:=held_isV hf 0 rfl (by kernel_rfl)
       clear hk hf hc
       go_simp
       exact hK _ _ (Below.refl _ _) rfl
      refine calm_fixA rfl rfl ?_
      apply Exists.intro
      refine ⟨fun a wz hc hk hf K hK=>?_,?_⟩
      ·have h30:=held_isV hf 0 rfl (by kernel_rfl)
       clear hk hf hc
       go_simp
       exact hK _ _ (Below.refl _ _) rfl
      refine calm_fixA rfl rfl ?_
      apply Exists.intro
      refine ⟨fun a wz hc hk hf K hK=>?_,?_⟩
      ·have hb:Below wr.heap.size wr wz:=hc rfl
       have h31:=held_isV hf 0 rfl (by kernel_rfl)
       clear hk hf hc
       have x1:=cell_kept HX1.out hb
       have y1:=cell_kept HY1.out hb
       go_simp
       exact hK _ _ (Below.refl _ _) rfl
      refine calm_fixA rfl rfl ?_
      apply Exists.intro
      refine ⟨fun a wz hc hk hf K hK=>?_,?_⟩
      ·have h2:=hk 2 (by kernel_rfl)
       clear hk hf hc
       go_simp
       exact hK _ _ (Below.refl _ _) rfl
      refine calm_fixA rfl rfl ?_
      apply Exists.intro
      refine ⟨fun a wz hc hk hf K hK=>?_,?_⟩
      ·have hb:Below wr.heap.size wr wz:=hc rfl
       have h27:=held_isV hf 6 rfl (by kernel_rfl)
       have h32:=held_isV hf 1 rfl (by kernel_rfl)
       have h33:=held_isV hf 0 rfl (by kernel_rfl)
       clear hk hf hc
       have x1:=cell_kept HX1.out hb
       have y1:=cell_kept HY1.out hb
       go_simp
       refine Calls.mono (HM.out wz hb) ?_
       rintro e w1 ⟨rfl,hq⟩
       exact hK _ _ hq rfl
      refine calm_nil ?_
      refine ⟨keeps_none,?_⟩
      intro w5 hc
      simp only [lexL,calmEnd]
      rintro _ rfl _ rfl _ rfl _ rfl _ rfl _ rfl _ rfl _ rfl _ rfl _ rfl _ rfl _ rfl
      have hq:Below wr.heap.size wr w5:=hc rfl
      clear hc
      simp only [Act.put,List.setIfInBounds_toArray,List.set_cons_zero,List.set_cons_succ]
      have HB5:=Lib.hid (HB.out.trans (hq.mono HB.out.size))
      replace HX1:=Lib.hid (cell_kept HX1.out hq)
      replace HY1:=Lib.hid (cell_kept HY1.out hq)
      replace HX2:=Lib.hid (cell_kept HX2.out hq)
      replace HY2:=Lib.hid (cell_kept HY2.out hq)
      replace HSX:=Lib.hid (StrsIn.kept HSX.out hq)
      replace HSY:=Lib.hid (StrsIn.kept HSY.out hq)
      replace HT:=Lib.hid (HT.out.kept hq)
      clear hq HM HB
      go_wp2_with fail
      refine wp_region_m (belowM w5) (fun k=>k==6||k==12) (fun k m=>(m==6&&[0,1,2,3,4,5].contains k)||(m==12&&[0,1,2,3,4,5,6,7,8,9,10,11].contains k)) (fun k m=>(m==6&&[12,13].contains k)||(m==12&&[13].contains k)) (fun _ _ _ _=>True) (by kernel_rfl) (by kernel_rfl) (by kernel_rfl) (by kernel_rfl) (by intro m hm;revert hm;simp;try omega) (belowM_stable _) (belowM_start _) ?_
      refine m_var (tillM 6 (OwR w5.heap.size [])) rfl (stable_tillM OwR.kept) (fun ph a wz hp hc hk hf K hK=>?_) ?_
      ·have hb:Below w5.heap.size w5 wz:=hc
       clear hk hf
       have x1:=cell_kept HX1.out hb
       have y1:=cell_kept HY1.out hb
       go_simp
       exact hK _ _ (Below.alloc (.refl _ _) (Nat.le_refl _) _) (fun _=>⟨_,_,rfl,own_empty 1 hb.size (by simp)⟩)
      refine m_fix rfl ?_
      apply Exists.intro
      refine ⟨fun ph a wz hp hc hk hf K hK=>?_,?_⟩
      ·have h0:=hk 0 (by kernel_rfl)
       clear hk hf hc
       go_simp
       exact hK _ _ (Below.refl _ _) rfl
      refine m_fix rfl ?_
      apply Exists.intro
      refine ⟨fun ph a wz hp hc hk hf K hK=>?_,?_⟩
      ·have h8:=hk 8 (by kernel_rfl)
       clear hk hf hc
       go_simp
       exact hK _ _ (Below.refl _ _) rfl
      refine m_fix rfl ?_
      apply Exists.intro
      refine ⟨fun ph a wz hp hc hk hf K hK=>?_,?_⟩
      ·have h36:=mheld_isV hf 1 rfl (by kernel_rfl)
       have h37:=mheld_isV hf 0 rfl (by kernel_rfl)
       clear hk hf hc
       go_simp
       exact hK _ _ (Below.refl _ _) rfl
      refine m_fix rfl ?_
      apply Exists.intro
      refine ⟨fun ph a wz hp hc hk hf K hK=>?_,?_⟩
      ·have h38:=mheld_isV hf 0 rfl (by kernel_rfl)
       clear hk hf hc
       go_simp
       exact hK _ _ (Below.refl _ _) rfl
      refine m_fix rfl ?_
      apply Exists.intro
      refine ⟨fun ph a wz hp hc hk hf K hK=>?_,?_⟩
      ·have hb:Below w5.heap.size w5 wz:=hc
       have h39:=mheld_isV hf 0 rfl (by kernel_rfl)
       clear hk hf hc
       have x1:=cell_kept HX1.out hb
       have y1:=cell_kept HY1.out hb
       go_simp
       exact hK _ _ (Below.refl _ _) rfl
      refine m_store (tillM 12 (OwR w5.heap.size row)) rfl (stable_tillM OwR.kept) (fun ph a wz hp hph hc hk hf K hK=>?_) ?_
      ·have hb:Below w5.heap.size w5 wz:=hc
       obtain ⟨v35,h35,S35⟩:=mheld_at hf 5 rfl (by kernel_rfl)
       replace S35:=S35 hph
       have h40:=mheld_isV hf 0 rfl (by kernel_rfl)
       clear hk hf
       obtain ⟨A8,p8,rfl,o8⟩:=S35
       refine step_append_srcS rfl (.tmp 35) (.tmp 40) 27 rfl 9 j0 (.string ⟨#[]⟩) 1 16 Try.underlying27 hj jz0 jz1 jz2 rfl (by decide) (B:=w5.heap.size) (.slice A8 0 p8) 0 [] ?_ o8 _ _ _ ?_ (StrsIn.kept HSX.out hb) (one_texts _) ?_ ?_ ?_ fun v' w' r1 r2 r3 r4=>?_
       ·simp [Act.eval,h35]
       ·simp [Act.eval,h40]
       ·have:=HLEN.out;unfold maxLen;omega
       ·have:=HLEN.out;omega
       ·exact hb.size
       have hb9:=hb.grown r2 hb.size (fun j hj=>(o8.lt j hj).1)
       exact hK _ _ trivial hb9 (fun _=>OwR.of (by simpa using r1))
      refine m_fix rfl ?_
      apply Exists.intro
      refine ⟨fun ph a wz hp hc hk hf K hK=>?_,?_⟩
      ·have h1:=hk 1 (by kernel_rfl)
       clear hk hf hc
       go_simp
       exact hK _ _ (Below.refl _ _) rfl
      refine m_fix rfl ?_
      apply Exists.intro
      refine ⟨fun ph a wz hp hc hk hf K hK=>?_,?_⟩
      ·have h9:=hk 9 (by kernel_rfl)
       clear hk hf hc
       go_simp
       exact hK _ _ (Below.refl _ _) rfl
      refine m_fix rfl ?_
      apply Exists.intro
      refine ⟨fun ph a wz hp hc hk hf K hK=>?_,?_⟩
      ·have h42:=mheld_isV hf 1 rfl (by kernel_rfl)
       have h43:=mheld_isV hf 0 rfl (by kernel_rfl)
       clear hk hf hc
       go_simp
       exact hK _ _ (Below.refl _ _) rfl
      refine m_fix rfl ?_
      apply Exists.intro
      refine ⟨fun ph a wz hp hc hk hf K hK=>?_,?_⟩
      ·have h44:=mheld_isV hf 0 rfl (by kernel_rfl)
       clear hk hf hc
       go_simp
       exact hK _ _ (Below.refl _ _) rfl
      refine m_fix rfl ?_
      apply Exists.intro
      refine ⟨fun ph a wz hp hc hk hf K hK=>?_,?_⟩
      ·have hb:Below w5.heap.size w5 wz:=hc
       have h45:=mheld_isV hf 0 rfl (by kernel_rfl)
       clear hk hf hc
       have x1:=cell_kept HX1.out hb
       have y1:=cell_kept HY1.out hb
       go_simp
       exact hK _ _ (Below.refl _ _) rfl
      refine m_store (fun _ v wx=>OwR w5.heap.size (row++ry0) v wx) rfl (fun _ v w w' hb h=>OwR.kept v w w' hb h) (fun ph a wz hp hph hc hk hf K hK=>?_) ?_
      ·have hb:Below w5.heap.size w5 wz:=hc
       obtain ⟨v41,h41,S41⟩:=mheld_at hf 5 rfl (by kernel_rfl)
       replace S41:=S41 hph
       have h46:=mheld_isV hf 0 rfl (by kernel_rfl)
       clear hk hf
       obtain ⟨A8,p8,rfl,o8⟩:=S41
       refine step_append_srcS rfl (.tmp 41) (.tmp 46) 27 rfl 9 j0 (.string ⟨#[]⟩) 1 16 Try.underlying27 hj jz0 jz1 jz2 rfl (by decide) (B:=w5.heap.size) (.slice A8 row.length p8) row.length (row.map Value.string) ?_ o8 _ _ _ ?_ (StrsIn.kept HSY.out hb) (one_texts _) ?_ ?_ ?_ fun v' w' r1 r2 r3 r4=>?_
       ·simp [Act.eval,h41]
       ·simp [Act.eval,h46]
       ·have:=HLEN.out;unfold maxLen;omega
       ·have:=HLEN.out;omega
       ·exact hb.size
       have hb9:=hb.grown r2 hb.size (fun j hj=>(o8.lt j hj).1)
       exact hK _ _ trivial hb9 (OwR.of (by rw [List.map_append,List.length_append];exact r1))
      refine m_var (fun _ v wx=>OwR w5.heap.size (row++ry0) v wx) rfl (fun _ v w w' hb h=>OwR.kept v w w' hb h) (fun ph a wz hp hc hk hf K hK=>?_) ?_
      ·obtain ⟨v47,h47,S47⟩:=mheld_at hf 0 rfl (by kernel_rfl)
       clear hk hf
       go_simp
       exact hK _ _ (Below.refl _ _) S47
      refine m_nil ?_
      refine ⟨keeps_m (fun m hm=>?_),?_⟩
      ·have hm2:m=6∨m=12:=by simpa [or_assoc] using hm
       rcases hm2 with rfl|rfl
       ·exact ⟨.inr (.inr keep_till_self),.inr (.inr (keep_isV _)),.inr (.inr (keep_isV _)),.inr (.inr (keep_isV _)),.inr (.inr (keep_isV _)),.inr (.inr (keep_isV _)),.inl rfl,.inr (.inr (keep_isV _)),.inr (.inr (keep_isV _)),.inr (.inr (keep_isV _)),.inr (.inr (keep_isV _)),.inr (.inr (keep_isV _)),.inr (.inl rfl),.inr (.inl rfl),trivial⟩
       ·exact ⟨.inr (.inr (keep_till_past rfl rfl (by decide))),.inr (.inr (keep_isV _)),.inr (.inr (keep_isV _)),.inr (.inr (keep_isV _)),.inr (.inr (keep_isV _)),.inr (.inr (keep_isV _)),.inr (.inr keep_till_self),.inr (.inr (keep_isV _)),.inr (.inr (keep_isV _)),.inr (.inr (keep_isV _)),.inr (.inr (keep_isV _)),.inr (.inr (keep_isV _)),.inl rfl,.inr (.inl rfl),trivial⟩
      intro ph w6 hps hc
      simp only [mlexL,mEnd]
      rintro v35 S35 _ rfl _ rfl _ rfl _ rfl _ rfl v41 S41 _ rfl _ rfl _ rfl _ rfl _ rfl v47 S47 v10 S10
      obtain ⟨A7,p7,e7,o7⟩:=(show OwR w5.heap.size (row++ry0) v10 w6 from S10)
      have hq6:Below w5.heap.size w5 w6:=hc
      clear hc hps S35 S41 S47 S10
      simp only [Act.put,List.setIfInBounds_toArray,List.set_cons_zero,List.set_cons_succ]
      subst e7
      have HB6:=Lib.hid (HB5.out.trans (hq6.mono HB5.out.size))
      replace HX2:=Lib.hid (cell_kept HX2.out hq6)
      replace HY2:=Lib.hid (cell_kept HY2.out hq6)
      replace HT:=Lib.hid (HT.out.kept hq6)
      have HR:=Lib.hid (strs_of o7 rfl)
      clear hq6 o7 HB5 HX1 HY1 HSX HSY
      generalize row++ry0=rr at *
      have HP:Hid (∀ W,Below w6.heap.size w6 W→GivesTimes Try.prog 25 #[.slice A9 m9 p9,.agg #[.slice A7 rr.length p7,.int .i64 cc]] W (putW F0 (rr,cc))):=fun W hW=>ref_weigh_put_calls (HT.out.kept hW) (StrsIn.kept HR.out hW) HFF.out.1 HFF.out.2
      unfold GivesTimes at HP
      go_wp2_with fail
      refine wp_region_calm (offC w6) (fun _=>false) (fun _=>false) anyE false (by kernel_rfl) (by kernel_rfl) (by kernel_rfl) (by kernel_rfl) (by intro m hm;revert hm;simp;try omega) (offC_stable _) (offC_start _) ?_
      refine calm_fixA rfl rfl ?_
      apply Exists.intro
      refine ⟨fun a wz hc hk hf K hK=>?_,?_⟩
      ·have h7:=hk 7 (by kernel_rfl)
       clear hk hf hc
       go_simp
       exact hK _ _ (Below.refl _ _) rfl
      refine calm_fixA rfl rfl ?_
      apply Exists.intro
      refine ⟨fun a wz hc hk hf K hK=>?_,?_⟩
      ·have h10:=hk 10 (by kernel_rfl)
       clear hk hf hc
       go_simp
       exact hK _ _ (Below.refl _ _) rfl
      refine calm_fixA rfl rfl ?_
      apply Exists.intro
      refine ⟨fun a wz hc hk hf K hK=>?_,?_⟩
      ·have h0:=hk 0 (by kernel_rfl)
       clear hk hf hc
       go_simp
       exact hK _ _ (Below.refl _ _) rfl
      refine calm_fixA rfl rfl ?_
      apply Exists.intro
      refine ⟨fun a wz hc hk hf K hK=>?_,?_⟩
      ·have h8:=hk 8 (by kernel_rfl)
       clear hk hf hc
       go_simp
       exact hK _ _ (Below.refl _ _) rfl
      refine calm_fixA rfl rfl ?_
      apply Exists.intro
      refine ⟨fun a wz hc hk hf K hK=>?_,?_⟩
      ·have h50:=held_isV hf 1 rfl (by kernel_rfl)
       have h51:=held_isV hf 0 rfl (by kernel_rfl)
       clear hk hf hc
       go_simp
       exact hK _ _ (Below.refl _ _) rfl
      refine calm_fixA rfl rfl ?_
      apply Exists.intro
      refine ⟨fun a wz hc hk hf K hK=>?_,?_⟩
      ·have h52:=held_isV hf 0 rfl (by kernel_rfl)
       clear hk hf hc
       go_simp
       exact hK _ _ (Below.refl _ _) rfl
      refine calm_fixA rfl rfl ?_
      apply Exists.intro
      refine ⟨fun a wz hc hk hf K hK=>?_,?_⟩
      ·have hb:Below w6.heap.size w6 wz:=hc rfl
       have h53:=held_isV hf 0 rfl (by kernel_rfl)
       clear hk hf hc
       have x1:=cell_kept HX2.out hb
       have y1:=cell_kept HY2.out hb
       go_simp
       exact hK _ _ (Below.refl _ _) rfl
      refine calm_fixA rfl rfl ?_
      apply Exists.intro
      refine ⟨fun a wz hc hk hf K hK=>?_,?_⟩
      ·have h1:=hk 1 (by kernel_rfl)
       clear hk hf hc
       go_simp
       exact hK _ _ (Below.refl _ _) rfl
      refine calm_fixA rfl rfl ?_
      apply Exists.intro
      refine ⟨fun a wz hc hk hf K hK=>?_,?_⟩
      ·have h9:=hk 9 (by kernel_rfl)
       clear hk hf hc
       go_simp
       exact hK _ _ (Below.refl _ _) rfl
      refine calm_fixA rfl rfl ?_
      apply Exists.intro
      refine ⟨fun a wz hc hk hf K hK=>?_,?_⟩
      ·have h55:=held_isV hf 1 rfl (by kernel_rfl)
       have h56:=held_isV hf 0 rfl (by kernel_rfl)
       clear hk hf hc
       go_simp
       exact hK _ _ (Below.refl _ _) rfl
      refine calm_fixA rfl rfl ?_
      apply Exists.intro
      refine ⟨fun a wz hc hk hf K hK=>?_,?_⟩
      ·have h57:=held_isV hf 0 rfl (by kernel_rfl)
       clear hk hf hc
       go_simp
       exact hK _ _ (Below.refl _ _) rfl
      refine calm_fixA rfl rfl ?_
      apply Exists.intro
      refine ⟨fun a wz hc hk hf K hK=>?_,?_⟩
      ·have hb:Below w6.heap.size w6 wz:=hc rfl
       have h58:=held_isV hf 0 rfl (by kernel_rfl)
       clear hk hf hc
       have x1:=cell_kept HX2.out hb
       have y1:=cell_kept HY2.out hb
       go_simp
       exact hK _ _ (Below.refl _ _) rfl
      refine calm_fixA rfl rfl ?_
      apply Exists.intro
      refine ⟨fun a wz hc hk hf K hK=>?_,?_⟩
      ·have h54:=held_isV hf 5 rfl (by kernel_rfl)
       have h59:=held_isV hf 0 rfl (by kernel_rfl)
       clear hk hf hc
       go_simp
       exact hK _ _ (Below.refl _ _) rfl
      refine calm_fixA rfl rfl ?_
      apply Exists.intro
      refine ⟨fun a wz hc hk hf K hK=>?_,?_⟩
      ·have h49:=held_isV hf 11 rfl (by kernel_rfl)
       have h60:=held_isV hf 0 rfl (by kernel_rfl)
       clear hk hf hc
       go_simp
       exact hK _ _ (Below.refl _ _) rfl
      refine calm_varA (fun v wx=>∃ A p,v=.slice A (putW F0 (rr,cc)).length p∧TimesIn wx (.slice A (putW F0 (rr,cc)).length p) (putW F0 (rr,cc))) rfl rfl (fun v wa wb hq h=>by obtain ⟨A,p,e,h1⟩:=h;exact ⟨A,p,e,TimesIn.kept h1 hq⟩) (fun a wz hc hk hf K hK=>?_) ?_
      ·have hb:Below w6.heap.size w6 wz:=hc rfl
       have h48:=held_isV hf 13 rfl (by kernel_rfl)
       have h61:=held_isV hf 0 rfl (by kernel_rfl)
       clear hk hf hc
       have x1:=cell_kept HX2.out hb
       have y1:=cell_kept HY2.out hb
       go_simp
       refine Calls.mono (HP.out wz hb) ?_
       rintro e w1 ⟨v1,rfl,h1,hq⟩
       obtain ⟨A,p,rfl⟩:=times_slice h1
       exact hK _ _ hq (fun _=>⟨A,p,rfl,h1⟩)
      refine calm_varA (fun v wx=>∃ A p,v=.slice A (putW F0 (rr,cc)).length p∧TimesIn wx (.slice A (putW F0 (rr,cc)).length p) (putW F0 (rr,cc))) rfl rfl (fun v wa wb hq h=>by obtain ⟨A,p,e,h1⟩:=h;exact ⟨A,p,e,TimesIn.kept h1 hq⟩) (fun a wz hc hk hf K hK=>?_) ?_
      ·have hb:Below w6.heap.size w6 wz:=hc rfl
       obtain ⟨v62,h62,S62⟩:=held_at hf 0 rfl (by kernel_rfl)
       clear hk hf hc
       obtain ⟨A8,p8,rfl,s8⟩:=S62 rfl
       go_simp
       exact hK _ _ (Below.refl _ _) (fun _=>⟨A8,p8,rfl,s8⟩)
      refine calm_nil ?_
      refine ⟨keeps_none,?_⟩
      intro w7 hc
      simp only [lexL,calmEnd]
      rintro _ rfl _ rfl _ rfl _ rfl _ rfl _ rfl _ rfl _ rfl _ rfl _ rfl _ rfl _ rfl _ rfl _ rfl v62 S62 v7 S7
      obtain ⟨A7,p7,rfl,hT7⟩:=S7 rfl
      have hq7:Below w6.heap.size w6 w7:=hc rfl
      clear hc S62 S7
      simp only [Act.put,List.setIfInBounds_toArray,List.set_cons_zero,List.set_cons_succ]
      have HB7:=Lib.hid (HB6.out.trans (hq7.mono HB6.out.size))
      have HT7:Hid (TimesIn w7 (.slice A7 (putW F0 (rr,cc)).length p7) (ofW (pairsL (l.take k) m on++withL (row,c) (m.take (q+1)) on))):=by rw [←HPUT.out];exact hT7
      clear hq7 hT7 HX2 HY2 HT HP
      have hml:=HML.out
      go_wp2
      go_roundw
      case rel=>exact ⟨q+1,HLQ.out,by go_num,HT7,HB7⟩
      case measure=>have:=HLQ.out;simp [intOf];omega
     | false =>
      rw [hy] at HM
      replace HTN:=Lib.hid (HTN.out.trans (by rw [if_neg (by rw [hy];decide),List.append_nil]))
      clear hy hpw hpl hwr
      rw [←HTN.out] at HT
      generalize hm9:(ofW F).length=m9 at e9
      subst e9
      clear hm9
      go_wp2_with fail
      refine wp_region_calm (offC wr) (fun _=>false) (fun _=>false) anyE false (by kernel_rfl) (by kernel_rfl) (by kernel_rfl) (by kernel_rfl) (by intro m hm;revert hm;simp;try omega) (offC_stable _) (offC_start _) ?_
      refine calm_fixA rfl rfl ?_
      apply Exists.intro
      refine ⟨fun a wz hc hk hf K hK=>?_,?_⟩
      ·have h0:=hk 0 (by kernel_rfl)
       clear hk hf hc
       go_simp
       exact hK _ _ (Below.refl _ _) rfl
      refine calm_fixA rfl rfl ?_
      apply Exists.intro
      refine ⟨fun a wz hc hk hf K hK=>?_,?_⟩
      ·have h8:=hk 8 (by kernel_rfl)
       clear hk hf hc
       go_simp
       exact hK _ _ (Below.refl _ _) rfl
      refine calm_fixA rfl rfl ?_
      apply Exists.intro
      refine ⟨fun a wz hc hk hf K hK=>?_,?_⟩
      ·have h23:=held_isV hf 1 rfl (by kernel_rfl)
       have h24:=held_isV hf 0 rfl (by kernel_rfl)
       clear hk hf hc
       go_simp
       exact hK _ _ (Below.refl _ _) rfl
      refine calm_fixA rfl rfl ?_
      apply Exists.intro
      refine ⟨fun a wz hc hk hf K hK=>?_,?_⟩
      ·have h25:=held_isV hf 0 rfl (by kernel_rfl)
       clear hk hf hc
       go_simp
       exact hK _ _ (Below.refl _ _) rfl
      refine calm_fixA rfl rfl ?_
      apply Exists.intro
      refine ⟨fun a wz hc hk hf K hK=>?_,?_⟩
      ·have hb:Below wr.heap.size wr wz:=hc rfl
       have h26:=held_isV hf 0 rfl (by kernel_rfl)
       clear hk hf hc
       have x1:=cell_kept HX1.out hb
       have y1:=cell_kept HY1.out hb
       go_simp
       exact hK _ _ (Below.refl _ _) rfl
      refine calm_fixA rfl rfl ?_
      apply Exists.intro
      refine ⟨fun a wz hc hk hf K hK=>?_,?_⟩
      ·have h1:=hk 1 (by kernel_rfl)
       clear hk hf hc
       go_simp
       exact hK _ _ (Below.refl _ _) rfl
      refine calm_fixA rfl rfl ?_
      apply Exists.intro
      refine ⟨fun a wz hc hk hf K hK=>?_,?_⟩
      ·have h9:=hk 9 (by kernel_rfl)
       clear hk hf hc
       go_simp
       exact hK _ _ (Below.refl _ _) rfl
      refine calm_fixA rfl rfl ?_
      apply Exists.intro
      refine ⟨fun a wz hc hk hf K hK=>?_,?_⟩
      ·have h28:=held_isV hf 1 rfl (by kernel_rfl)
       have h29:=held_isV hf 0 rfl (by kernel_rfl)
       clear hk hf hc
       go_simp
       exact hK _ _ (Below.refl _ _) rfl
      refine calm_fixA rfl rfl ?_
      apply Exists.intro
      refine ⟨fun a wz hc hk hf K hK=>?_,?_⟩
      ·have h30:=held_isV hf 0 rfl (by kernel_rfl)
       clear hk hf hc
       go_simp
       exact hK _ _ (Below.refl _ _) rfl
      refine calm_fixA rfl rfl ?_
      apply Exists.intro
      refine ⟨fun a wz hc hk hf K hK=>?_,?_⟩
      ·have hb:Below wr.heap.size wr wz:=hc rfl
       have h31:=held_isV hf 0 rfl (by kernel_rfl)
       clear hk hf hc
       have x1:=cell_kept HX1.out hb
       have y1:=cell_kept HY1.out hb
       go_simp
       exact hK _ _ (Below.refl _ _) rfl
      refine calm_fixA rfl rfl ?_
      apply Exists.intro
      refine ⟨fun a wz hc hk hf K hK=>?_,?_⟩
      ·have h2:=hk 2 (by kernel_rfl)
       clear hk hf hc
       go_simp
       exact hK _ _ (Below.refl _ _) rfl
      refine calm_fixA rfl rfl ?_
      apply Exists.intro
      refine ⟨fun a wz hc hk hf K hK=>?_,?_⟩
      ·have hb:Below wr.heap.size wr wz:=hc rfl
       have h27:=held_isV hf 6 rfl (by kernel_rfl)
       have h32:=held_isV hf 1 rfl (by kernel_rfl)
       have h33:=held_isV hf 0 rfl (by kernel_rfl)
       clear hk hf hc
       have x1:=cell_kept HX1.out hb
       have y1:=cell_kept HY1.out hb
       go_simp
       refine Calls.mono (HM.out wz hb) ?_
       rintro e w1 ⟨rfl,hq⟩
       exact hK _ _ hq rfl
      refine calm_nil ?_
      refine ⟨keeps_none,?_⟩
      intro w5 hc
      simp only [lexL,calmEnd]
      rintro _ rfl _ rfl _ rfl _ rfl _ rfl _ rfl _ rfl _ rfl _ rfl _ rfl _ rfl _ rfl
      have hq:Below wr.heap.size wr w5:=hc rfl
      clear hc
      simp only [Act.put,List.setIfInBounds_toArray,List.set_cons_zero,List.set_cons_succ]
      have HB5:=Lib.hid (HB.out.trans (hq.mono HB.out.size))
      replace HT:=Lib.hid (HT.out.kept hq)
      clear hq HM HB HX1 HX2 HY1 HY2
      have hml:=HML.out
      go_wp2
      go_roundw
      case rel=>exact ⟨q+1,HLQ.out,by go_num,HT,HB5⟩
      case measure=>have:=HLQ.out;simp [intOf];omega
    ·obtain rfl:q=m.length:=by omega
     rw [List.take_length,←HTK.out] at HT e9
     have hml:=HLL.out
     generalize (ofW (pairsL (l.take (k+1)) m on)).length=m9 at e9
     subst e9
     clear HPL HPW HDK HWK
     go_wp2
     go_roundw
     case rel=>exact ⟨k+1,HLK.out,by go_num,HT,HB⟩
     case measure=>have:=HLK.out;simp [intOf];omega
  ·obtain rfl:k=l.length:=by omega
   rw [List.take_length] at HT e7
   generalize (ofW (pairsL l m on)).length=m9 at e7
   subst e7
   go_wp2
   go_ret
   exact ⟨_,rfl,HT.out,HB.out⟩
end Go.Proofs.Ytaoeikeobfllkaa
