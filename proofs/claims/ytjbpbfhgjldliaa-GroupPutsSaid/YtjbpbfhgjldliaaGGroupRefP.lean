/- The contract of the answer's Put of layer 21. -/
import Derived.Test.YtjbpbfhgjldliaaGWeighRef
import Derived.Test.YtjbpbfhgjldliaaGWideB
import Derived.Test.YtjbpbfhgjldliaaGGroupKin
import Derived.Test.YtjbpbfhgjldliaaGPairOn
import Derived.Test.YtjbpbfhgjldliaaGGroupOwn
namespace Go.Proofs.Ytjbpbfhgjldliaa
open Go Go.RowKit
def refPart (p:PartP)(way:Int)(c:ByteArray)(n:Int):PartP :=
 if c=eB then p else if way=2 then ⟨p.n+n,p.s+numC c*n,p.cells⟩ else if way=3∨way=4 then ⟨p.n+n,p.s,putW p.cells ([c],n)⟩ else ⟨p.n+n,p.s,p.cells⟩
def RPartEnd (Q:Value→Prop)(w:World)(p:PartP)(e:Ending)(w':World):Prop:=∃ cv,e=.returned (partA cv p)∧timesK.In (fun u=>Q u∨Fresh w.heap.size u) w' cv p.cells∧Below w.heap.size w w'
theorem rpartEnd_of {Q:Value→Prop}{w w':World}{p:PartP}{n a b:Int}{cv:Value}{q:PartP}(he:q=p)(h1:p.n=n)(h2:toW p.s=(a,b))(hc:timesK.In (fun u=>Q u∨Fresh w.heap.size u) w' cv p.cells)(hb:Below w.heap.size w w'):RPartEnd Q w q (.returned (.agg #[.int .i64 n,.int .i64 a,.int .u64 b,cv])) w':=by
 subst he
 exact ⟨cv,by unfold partA;rw [h1,h2],hc,hb⟩
theorem rnum_calls (s:ByteArray):Gives Try.prog 38 #[.string s] (.tuple #[.int .i64 (numC s),.bool (isInt s)]):=by
 unfold numC
 cases h:isInt s with
 | true=>exact ref_num_yes s h
 | false=>exact ref_num_no s h
def EBox (w:World)(b:Nat)(vs:List Value):Prop:=CBox w b vs∧∀ i,vs.length≤i→w.cell? ⟨b,i,none⟩=none
theorem ebox_lit (w:World)(T:TypeId)(vs:Array Value):EBox (w.alloc (.cells vs T)) w.heap.size vs.toList:=by
 refine ⟨cbox_lit w T vs,fun i hi=>?_⟩
 have hi2:vs.size≤i:=by simpa using hi
 unfold World.cell?
 rw [(MapKept.heap_alloc w _).1]
 exact Array.getElem?_eq_none hi2
theorem EBox.kept {w w':World}{b:Nat}{vs:List Value}(h:EBox w b vs)(hb:Below w.heap.size w w'):EBox w' b vs:=⟨h.1.kept hb,fun i hi=>(hb.cell (p:=⟨b,i,none⟩) h.1.lt).trans (h.2 i hi)⟩
theorem ebox_row {w:World}{b:Nat}{x y z:Int}{A:Option Addr}{n c:Nat}{u:Value}{row:List ByteArray}(h:EBox w b [.int .i64 x,.int .i64 y,.int .u64 z,.slice A n c])(hs:StrsIn w u row):RowOff (cboxV b) u:=fun A' m p k e h0 hk e2=>by
 have c0:=h.1.cell 0 rfl
 have c1:=h.1.cell 1 rfl
 have c2:=h.1.cell 2 rfl
 have c3:=h.1.cell 3 rfl
 have ck:=h.2
 obtain ⟨A2,p2,e3,hat⟩:=one_at hs
 rw [e] at e3
 injection e3 with e4 e5
 obtain ⟨b2,off,ea,_,hc⟩:=hat 0 (by omega)
 have hx:=hc 0 (by omega)
 rw [e,e4,ea] at hk
 simp only [Value.ownBlock,Option.some.injEq] at hk e2
 subst hk e2
 rw [Nat.add_zero] at hx
 by_cases ho:off < 4
 ·rcases (by omega:off=0∨off=1∨off=2∨off=3) with rfl|rfl|rfl|rfl
  ·rw [c0] at hx;cases hx
  ·rw [c1] at hx;cases hx
  ·rw [c2] at hx;cases hx
  ·rw [c3] at hx;cases hx
 ·rw [ck off (by simp only [List.length_cons,List.length_nil];omega)] at hx;cases hx
theorem ebox_v {w:World}{b:Nat}{x y z:Int}{A:Option Addr}{n c:Nat}{v:Value}{l:List Tm}(h:EBox w b [.int .i64 x,.int .i64 y,.int .u64 z,.slice A n c])(ht:TimesIn w v l):RowOff (cboxV b) v:=fun A' m p k e h0 hk e2=>by
 have c0:=h.1.cell 0 rfl
 have c1:=h.1.cell 1 rfl
 have c2:=h.1.cell 2 rfl
 have c4:=h.2 4 (Nat.le_refl _)
 have ck:=h.2
 obtain ⟨tv,A2,p2,e3,_,hat⟩:=times_at ht
 rw [e] at e3
 injection e3 with e4 e5
 obtain ⟨b2,off,ea,_,hc⟩:=hat 0 (by omega)
 obtain ⟨rv,hs,_,h1,h2⟩:=hc 0 (by omega)
 obtain ⟨A5,c5,e7,_⟩:=one_at hs
 rw [e,e4,ea] at hk
 simp only [Value.ownBlock,Option.some.injEq] at hk e2
 subst hk e2
 rw [Nat.zero_mul,Nat.add_zero] at h1 h2
 rw [e7] at h1
 by_cases ho:off < 4
 ·rcases (by omega:off=0∨off=1∨off=2∨off=3) with rfl|rfl|rfl|rfl
  ·rw [c0] at h1;cases h1
  ·rw [c1] at h1;cases h1
  ·rw [c2] at h1;cases h1
  ·rw [c4] at h2;cases h2
 ·rw [ck off (by simp only [List.length_cons,List.length_nil];omega)] at h1;cases h1
theorem ebox_both {Q:Value→Prop}{w:World}{b b':Nat}{x y z x' y' z':Int}{A A':Option Addr}{n c n' c':Nat}{v:Value}{l:List Tm}(h:EBox w b [.int .i64 x,.int .i64 y,.int .u64 z,.slice A n c])(h':EBox w b' [.int .i64 x',.int .i64 y',.int .u64 z',.slice A' n' c'])(hk:timesK.In Q w v l) :
  timesK.In (fun u=>(RowOff (cboxV b) u∧RowOff (cboxV b') u)∧Q u) w v l:=by
 have ht:=timesK_times hk
 obtain ⟨us,hu,hsl,hr,hv⟩:=hk
 exact ⟨us,hu,hsl,fun t htm=>⟨(hr t htm).1,⟨ebox_row h (hr t htm).1,ebox_row h' (hr t htm).1⟩,(hr t htm).2⟩,⟨ebox_v h ht,ebox_v h' ht⟩,hv⟩
theorem refPart_e (p:PartP)(way n:Int):refPart p way ⟨#[]⟩ n=p:=if_pos rfl
theorem refPart_2 (p:PartP)(c:ByteArray)(n:Int)(h:c≠⟨#[]⟩):refPart p 2 c n=⟨p.n+n,p.s+numC c*n,p.cells⟩:=by unfold refPart;rw [if_neg (show ¬c=eB from h),if_pos rfl]
theorem refPart_34 (p:PartP)(way:Int)(c:ByteArray)(n:Int)(h:c≠⟨#[]⟩)(h2:way≠2)(h3:way=3∨way=4):refPart p way c n=⟨p.n+n,p.s,putW p.cells ([c],n)⟩:=by unfold refPart;rw [if_neg (show ¬c=eB from h),if_neg h2,if_pos h3]
theorem refPart_o (p:PartP)(way:Int)(c:ByteArray)(n:Int)(h:c≠⟨#[]⟩)(h2:way≠2)(h3:¬(way=3∨way=4)):refPart p way c n=⟨p.n+n,p.s,p.cells⟩:=by unfold refPart;rw [if_neg (show ¬c=eB from h),if_neg h2,if_neg h3]
theorem text_neq {s:ByteArray}(h:s≠⟨#[]⟩):s.toList.isEmpty=false:=text_some h
set_option maxHeartbeats 4000000 in
set_option maxRecDepth 100000 in
theorem rpart_calls (Q:Value→Prop){w:World}{pv:Value}{p:PartP}(a:Int×Int)(c:ByteArray)(n:Int)(hp:PartIn Q w pv p)(hf:FitP p)(hn:n.natAbs≤1152921504606846976) :
  Calls Try.prog 23 #[pv,.agg #[.int .i64 a.1,.int .i64 a.2],.string c,.int .i64 n] w (RPartEnd Q w (refPart p a.1 c n)):=by
 obtain ⟨way,col⟩:=a
 obtain ⟨cv,rfl,hcv⟩:=hp
 obtain ⟨f1,f2,f3,f4⟩:=hf
 have HCV0:=Lib.hid hcv
 have HCL:=Lib.hid hcv.lain
 obtain ⟨Ac,pc,rfl⟩:=hcv.slice
 have E0:=refPart_e p way n
 have E2:=refPart_2 p c n
 have E3:=refPart_34 p way c n
 have E4:=refPart_o p way c n
 obtain ⟨pn,ps,pcl⟩:=p
 dsimp only at *
 obtain ⟨⟨s1,s2⟩,hss⟩:∃ s,toW ps=s:=⟨_,rfl⟩
 have HSS:=Lib.hid hss
 obtain ⟨nn,hnn⟩:∃ nn,pn+n=nn:=⟨_,rfl⟩
 have q1:IntKind.i64.wrap (pn+n)=nn:=(IntWalk.i64_in _ (by omega)).trans hnn
 rw [hnn] at E2 E3 E4
 have hst:=(((Bxs.start w).lay 60 #[.int .i64 nn,.int .i64 s1,.int .u64 s2,.slice Ac pcl.length pc]).lay 49 #[.int .i64 way,.int .i64 col]).lay 60 #[.int .i64 0,.int .i64 0,.int .u64 0,.slice none 0 0]
 rw [show (w.alloc (.cells #[.int .i64 nn,.int .i64 s1,.int .u64 s2,.slice Ac pcl.length pc] 60)).heap.size=w.heap.size+1 by simp,show ((w.alloc (.cells #[.int .i64 nn,.int .i64 s1,.int .u64 s2,.slice Ac pcl.length pc] 60)).alloc (.cells #[.int .i64 way,.int .i64 col] 49)).heap.size=w.heap.size+2 by simp] at hst
 have HST:Hid (Bxs w (((w.alloc (.cells #[.int .i64 nn,.int .i64 s1,.int .u64 s2,.slice Ac pcl.length pc] 60)).alloc (.cells #[.int .i64 way,.int .i64 col] 49)).alloc (.cells #[.int .i64 0,.int .i64 0,.int .u64 0,.slice none 0 0] 60)) [(w.heap.size,[.int .i64 nn,.int .i64 s1,.int .u64 s2,.slice Ac pcl.length pc]),(w.heap.size+1,[.int .i64 way,.int .i64 col]),(w.heap.size+2,[.int .i64 0,.int .i64 0,.int .u64 0,.slice none 0 0])]):=hst
 unfold partA
 dsimp only
 rw [hss]
 clear hst hcv hss hnn
 by_cases hc0:c=⟨#[]⟩
 ·subst hc0
  rw [E0]
  clear E0 E2 E3 E4
  go_enter Try.func23,Try.ntmps23
  go_wp2
  refine ⟨rfl,.agg #[.int .i64 pn,.int .i64 s1,.int .u64 s2,.slice Ac pcl.length pc],?_,rpartEnd_of rfl rfl HSS.out ((HCV0.out.kept ?_).mono fun _ hu=>.inl hu) ?_⟩
  ·simp [results,Try.results23,go_sem]
  ·exact (((Below.refl _ w).alloc (Nat.le_refl _) _).alloc (by simp) _).alloc (by simp;omega) _
  ·exact (((Below.refl _ w).alloc (Nat.le_refl _) _).alloc (by simp) _).alloc (by simp;omega) _
 ·have ec:=text_neq hc0
  replace E2:=E2 hc0
  replace E3:=fun h2 h3=>E3 hc0 h2 h3
  replace E4:=fun h2 h3=>E4 hc0 h2 h3
  clear E0
  go_enter Try.func23,Try.ntmps23
  by_cases hw2:way=2
  ·subst hw2
   have HPR:=Lib.hid (ref_wide_product_calls (gnumC_range c).1 (gnumC_range c).2 (show -9223372036854775808≤n by omega) (show n≤9223372036854775807 by omega))
   have HSU:=Lib.hid (ref_wide_sum_calls (toW_in ps) (toW_in (numC c*n)))
   rw [gsum_toW,HSS.out] at HSU
   have HPE:Hid (wV (prodD (numC c) n)=wV (toW (numC c*n))):=Lib.hid rfl
   rw [HPE.out] at HPR
   have HNUM:=Lib.hid (fun W=>rnum_calls c W)
   obtain ⟨⟨q1',q2'⟩,hqq⟩:∃ q,toW (ps+numC c*n)=q:=⟨_,rfl⟩
   rw [hqq] at HSU
   have HQQ:=Lib.hid hqq
   have HE2:=Lib.hid E2
   clear E2 E3 E4 HPE hqq
   unfold wV at HPR HSU
   generalize toW (numC c*n)=dd at *
   obtain ⟨d1,d2⟩:=dd
   dsimp only at HPR HSU
   generalize isInt c=bd at *
   obtain ⟨nd,hnd⟩:∃ nd,numC c=nd:=⟨_,rfl⟩
   rw [hnd] at HPR HNUM
   clear hnd
   go_wp2_with fail
   refine Calls.mono (HNUM.out _) ?_
   rintro e w5 ⟨rfl,hq5⟩
   have HG:=Lib.hid (HST.out.kept hq5)
   clear HNUM hq5 HST
   go_wp2_with fail
   refine wp_region_calm (offC w5) (fun k=>k==7) (fun _=>false) anyE true (by kernel_rfl) (by kernel_rfl) (by kernel_rfl) (by kernel_rfl) (by intro m hm;revert hm;simp;try omega) (offC_stable _) (offC_start _) ?_
   refine calm_fixA rfl rfl ?_
   apply Exists.intro
   refine ⟨fun a wz hc hk hf K hK=>?_,?_⟩
   ·have h4:=hk 4 (by kernel_rfl)
    clear hk hf hc
    go_simp
    exact hK _ _ (Below.refl _ _) rfl
   refine calm_fixA rfl rfl ?_
   apply Exists.intro
   refine ⟨fun a wz hc hk hf K hK=>?_,?_⟩
   ·have hb:Below w5.heap.size w5 wz:=hc rfl
    have h28:=held_isV hf 0 rfl (by kernel_rfl)
    clear hk hf hc
    obtain ⟨⟨c0,c1,c2,c3⟩,_⟩:=((HG.out.kept hb).box 0 rfl).four
    go_simp
    exact hK _ _ (Below.refl _ _) rfl
   refine calm_fixA rfl rfl ?_
   apply Exists.intro
   refine ⟨fun a wz hc hk hf K hK=>?_,?_⟩
   ·have h9:=hk 9 (by kernel_rfl)
    clear hk hf hc
    go_simp
    exact hK _ _ (Below.refl _ _) rfl
   refine calm_fixA rfl rfl ?_
   apply Exists.intro
   refine ⟨fun a wz hc hk hf K hK=>?_,?_⟩
   ·have h3:=hk 3 (by kernel_rfl)
    clear hk hf hc
    go_simp
    exact hK _ _ (Below.refl _ _) rfl
   refine calm_fixA rfl rfl ?_
   apply Exists.intro
   refine ⟨fun a wz hc hk hf K hK=>?_,?_⟩
   ·have hb:Below w5.heap.size w5 wz:=hc rfl
    have h30:=held_isV hf 1 rfl (by kernel_rfl)
    have h31:=held_isV hf 0 rfl (by kernel_rfl)
    clear hk hf hc
    go_simp
    refine Calls.mono (HPR.out wz) ?_
    rintro e w1 ⟨rfl,hq⟩
    exact hK _ _ hq rfl
   refine calm_fixA rfl rfl ?_
   apply Exists.intro
   refine ⟨fun a wz hc hk hf K hK=>?_,?_⟩
   ·have hb:Below w5.heap.size w5 wz:=hc rfl
    have h29:=held_isV hf 3 rfl (by kernel_rfl)
    have h32:=held_isV hf 0 rfl (by kernel_rfl)
    clear hk hf hc
    go_simp
    refine Calls.mono (HSU.out wz) ?_
    rintro e w1 ⟨rfl,hq⟩
    exact hK _ _ hq rfl
   refine calm_fixA rfl rfl ?_
   apply Exists.intro
   refine ⟨fun a wz hc hk hf K hK=>?_,?_⟩
   ·have h4:=hk 4 (by kernel_rfl)
    clear hk hf hc
    go_simp
    exact hK _ _ (Below.refl _ _) rfl
   refine calm_storeA (fun w0=>Bxs w w0 [(w.heap.size,[.int .i64 nn,.int .i64 q1',.int .u64 q2',.slice Ac pcl.length pc]),(w.heap.size+1,[.int .i64 2,.int .i64 col]),(w.heap.size+2,[.int .i64 0,.int .i64 0,.int .u64 0,.slice none 0 0])]) rfl (fun m h=>by simpa using h) (fun a wz hb hk hf K hK=>?_) ?_
   ·have h34:=held_isV hf 0 rfl (by kernel_rfl)
    have h33:=held_isV hf 1 rfl (by kernel_rfl)
    clear hk hf
    obtain ⟨⟨c0,c1,c2,c3⟩,f0,f1,f2,f3⟩:=((HG.out.kept hb).box 0 rfl).four
    have HP:=Lib.hid (((HG.out.kept hb).put 0 rfl 1 (by simp) (.int .i64 q1')).put 0 rfl 2 (by simp) (.int .u64 q2'))
    go_simp
    exact hK undef _ HP.out
   refine calm_nil ?_
   refine ⟨keeps_one (m:=7) (fun k h=>by simpa using h) ⟨.inr (loose_isV _),.inr (loose_isV _),.inr (loose_isV _),.inr (loose_isV _),.inr (loose_isV _),.inr (loose_isV _),.inr (loose_isV _),.inl rfl,trivial⟩,?_⟩
   intro w6 hc
   simp only [lexL,calmEnd]
   rintro _ rfl _ rfl _ rfl _ rfl _ rfl _ rfl _ rfl _ hst7
   obtain ⟨wx,hx,hq⟩:=hst7 rfl
   have HG6:=Lib.hid (hx.kept hq)
   clear hst7 hx hq hc
   simp only [Act.put,List.setIfInBounds_toArray,List.set_cons_zero,List.set_cons_succ]
   have HCV6:=Lib.hid (HCV0.out.kept HG6.out.below)
   have hcz:timesK.In (fun u=>Q u∧Lain w u) w6 (.slice Ac pcl.length pc) pcl:=HCL.out.kept HG6.out.below
   have hgz:=four_grown w6 (w.heap.size+2) (.int .i64 nn) (.int .i64 q1') (.int .u64 q2') (.slice Ac pcl.length pc)
   have HCZ:=Lib.hid ((hcz.off (v0:=cboxV (w.heap.size+2)) (fun u hu=>hu.2.apart fun k hk=>by
    simp only [Value.ownBlock,Option.some.injEq] at hk
    omega) hgz).mono (Q':=fun u=>Q u∨Fresh w.heap.size u) fun _ hu=>.inl hu.1)
   clear hcz hgz
   have HPZ:=Lib.hid (HG6.out.put4 2 rfl (.int .i64 nn) (.int .i64 q1') (.int .u64 q2') (.slice Ac pcl.length pc))
   obtain ⟨⟨c0,c1,c2,c3⟩,_⟩:=(HG6.out.box 0 rfl).four
   obtain ⟨⟨d0,d1,d2,d3⟩,f0,f1,f2,f3⟩:=(HG6.out.box 2 rfl).four
   go_wp2
   obtain ⟨⟨e0,e1,e2,e3⟩,_⟩:=(HPZ.out.box 2 rfl).four
   refine ⟨rfl,.agg #[.int .i64 nn,.int .i64 q1',.int .u64 q2',.slice Ac pcl.length pc],?_,rpartEnd_of HE2.out rfl HQQ.out HCZ.out HPZ.out.below⟩
   simp [results,Try.results23,go_sem,e0,e1,e2,e3]
  ·have g2:(way==2)=false:=by simpa using hw2
   by_cases hw3:way=3∨way=4
   ·have HE:=Lib.hid (E3 hw2 hw3)
    have CASES:(way=3)∨((way==3)=false∧way=4):=by
     rcases hw3 with h|h
     ·exact .inl h
     ·exact .inr ⟨by subst h;decide,h⟩
    clear E2 E3 E4 hw3
    have hq4:=HST.out.below
    have hlt:=lit_ones Value.string (((w.alloc (.cells #[.int .i64 nn,.int .i64 s1,.int .u64 s2,.slice Ac pcl.length pc] 60)).alloc (.cells #[.int .i64 way,.int .i64 col] 49)).alloc (.cells #[.int .i64 0,.int .i64 0,.int .u64 0,.slice none 0 0] 60)) 9 [c] (by simp)
    have hsz4:(((w.alloc (.cells #[.int .i64 nn,.int .i64 s1,.int .u64 s2,.slice Ac pcl.length pc] 60)).alloc (.cells #[.int .i64 way,.int .i64 col] 49)).alloc (.cells #[.int .i64 0,.int .i64 0,.int .u64 0,.slice none 0 0] 60)).heap.size=w.heap.size+1+1+1:=by simp
    have hlit:StrsIn ((((w.alloc (.cells #[.int .i64 nn,.int .i64 s1,.int .u64 s2,.slice Ac pcl.length pc] 60)).alloc (.cells #[.int .i64 way,.int .i64 col] 49)).alloc (.cells #[.int .i64 0,.int .i64 0,.int .u64 0,.slice none 0 0] 60)).alloc (.cells #[.string c] 9)) (.slice (some ⟨w.heap.size+1+1+1,0,none⟩) 1 1) [c]:=by
     rw [←hsz4];exact hlt
    have hq5:=Below.alloc (.refl _ _) (Nat.le_refl _) (.cells #[.string c] 9) (w:=((w.alloc (.cells #[.int .i64 nn,.int .i64 s1,.int .u64 s2,.slice Ac pcl.length pc] 60)).alloc (.cells #[.int .i64 way,.int .i64 col] 49)).alloc (.cells #[.int .i64 0,.int .i64 0,.int .u64 0,.slice none 0 0] 60))
    have HST5:=Lib.hid (HST.out.kept hq5)
    have HPT:=Lib.hid (ref_weigh_put_n (fun u=>Q u∨Fresh w.heap.size u) (n:=n) (timesK_q ((HCV0.out.kept HST5.out.below).mono fun _ hu=>.inl hu)) hlit (.inr fun k hk=>by
     simp only [Value.ownBlock,Option.some.injEq] at hk
     omega) (by omega) (by omega))
    unfold timesA at HPT
    have HEB2:=Lib.hid ((ebox_lit ((w.alloc (.cells #[.int .i64 nn,.int .i64 s1,.int .u64 s2,.slice Ac pcl.length pc] 60)).alloc (.cells #[.int .i64 way,.int .i64 col] 49)) 60 #[.int .i64 0,.int .i64 0,.int .u64 0,.slice none 0 0]).kept hq5)
    have hsz2:((w.alloc (.cells #[.int .i64 nn,.int .i64 s1,.int .u64 s2,.slice Ac pcl.length pc] 60)).alloc (.cells #[.int .i64 way,.int .i64 col] 49)).heap.size=w.heap.size+2:=by simp
    rw [hsz2] at HEB2
    have HEB0:=Lib.hid ((ebox_lit w 60 #[.int .i64 nn,.int .i64 s1,.int .u64 s2,.slice Ac pcl.length pc]).kept (((Below.refl _ _).alloc (Nat.le_refl _) (.cells #[.int .i64 way,.int .i64 col] 49)).alloc (by simp) (.cells #[.int .i64 0,.int .i64 0,.int .u64 0,.slice none 0 0] 60) |>.trans (hq5.mono (by simp))))
    clear hq4 hlt hsz4 hlit hq5 HST hsz2
    rcases CASES with rfl | ⟨g3,rfl⟩
    ·
     go_wp2_with fail
     refine Calls.mono HPT.out ?_
     rintro e w6 ⟨v6,rfl,hT6,hq6,hF6⟩
     obtain ⟨A6,p6,rfl⟩:=times_slice hT6.times
     have HG6:=Lib.hid (HST5.out.kept hq6)
     have hlt6:=(HST5.out.box 2 rfl).lt
     have hg7:=cell_grown w6 w.heap.size 3 (.slice A6 (putW pcl ([c],n)).length p6)
     have HG7:Hid (Bxs w (w6.setCell ⟨w.heap.size,3,none⟩ (.slice A6 (putW pcl ([c],n)).length p6)) [(w.heap.size,[.int .i64 nn,.int .i64 s1,.int .u64 s2,.slice A6 (putW pcl ([c],n)).length p6]),(w.heap.size+1,[.int .i64 3,.int .i64 col]),(w.heap.size+2,[.int .i64 0,.int .i64 0,.int .u64 0,.slice none 0 0])]):=HG6.out.put 0 rfl 3 (by simp) (.slice A6 (putW pcl ([c],n)).length p6)
     have hboth:timesK.In (fun u=>(RowOff (cboxV w.heap.size) u∧RowOff (cboxV (w.heap.size+2)) u)∧(Q u∨Fresh w.heap.size u)) w6 (.slice A6 (putW pcl ([c],n)).length p6) (putW pcl ([c],n)):=ebox_both (HEB0.out.kept hq6) (HEB2.out.kept hq6) (timesK_of hT6 (.inr (hF6.mono HST5.out.below.size)))
     have hc7:=hboth.off (v0:=cboxV w.heap.size) (fun u hu=>hu.1.1) hg7
     have hg8:=four_grown (w6.setCell ⟨w.heap.size,3,none⟩ (.slice A6 (putW pcl ([c],n)).length p6)) (w.heap.size+2) (.int .i64 nn) (.int .i64 s1) (.int .u64 s2) (.slice A6 (putW pcl ([c],n)).length p6)
     have HCZ:=Lib.hid ((hc7.off (v0:=cboxV (w.heap.size+2)) (fun u hu=>hu.1.2) hg8).mono fun _ hu=>hu.2)
     obtain ⟨⟨c0,c1,c2,c3⟩,f0,f1,f2,f3⟩:=(HG6.out.box 0 rfl).four
     clear hT6 hF6 hq6 HST5 HPT hg7 hboth hc7 hg8 HEB0 HEB2 HG6
     have HPZ:=Lib.hid (HG7.out.put4 2 rfl (.int .i64 nn) (.int .i64 s1) (.int .u64 s2) (.slice A6 (putW pcl ([c],n)).length p6))
     obtain ⟨⟨c0,c1,c2,c3⟩,_⟩:=(HG7.out.box 0 rfl).four
     obtain ⟨⟨d0,d1,d2,d3⟩,f0,f1,f2,f3⟩:=(HG7.out.box 2 rfl).four
     go_wp2
     obtain ⟨⟨e0,e1,e2,e3⟩,_⟩:=(HPZ.out.box 2 rfl).four
     refine ⟨rfl,.agg #[.int .i64 nn,.int .i64 s1,.int .u64 s2,.slice A6 (putW pcl ([c],n)).length p6],?_,rpartEnd_of HE.out rfl HSS.out HCZ.out HPZ.out.below⟩
     simp [results,Try.results23,go_sem,e0,e1,e2,e3]
    ·
     go_wp2_with fail
     refine Calls.mono HPT.out ?_
     rintro e w6 ⟨v6,rfl,hT6,hq6,hF6⟩
     obtain ⟨A6,p6,rfl⟩:=times_slice hT6.times
     have HG6:=Lib.hid (HST5.out.kept hq6)
     have hlt6:=(HST5.out.box 2 rfl).lt
     have hg7:=cell_grown w6 w.heap.size 3 (.slice A6 (putW pcl ([c],n)).length p6)
     have HG7:Hid (Bxs w (w6.setCell ⟨w.heap.size,3,none⟩ (.slice A6 (putW pcl ([c],n)).length p6)) [(w.heap.size,[.int .i64 nn,.int .i64 s1,.int .u64 s2,.slice A6 (putW pcl ([c],n)).length p6]),(w.heap.size+1,[.int .i64 4,.int .i64 col]),(w.heap.size+2,[.int .i64 0,.int .i64 0,.int .u64 0,.slice none 0 0])]):=HG6.out.put 0 rfl 3 (by simp) (.slice A6 (putW pcl ([c],n)).length p6)
     have hboth:timesK.In (fun u=>(RowOff (cboxV w.heap.size) u∧RowOff (cboxV (w.heap.size+2)) u)∧(Q u∨Fresh w.heap.size u)) w6 (.slice A6 (putW pcl ([c],n)).length p6) (putW pcl ([c],n)):=ebox_both (HEB0.out.kept hq6) (HEB2.out.kept hq6) (timesK_of hT6 (.inr (hF6.mono HST5.out.below.size)))
     have hc7:=hboth.off (v0:=cboxV w.heap.size) (fun u hu=>hu.1.1) hg7
     have hg8:=four_grown (w6.setCell ⟨w.heap.size,3,none⟩ (.slice A6 (putW pcl ([c],n)).length p6)) (w.heap.size+2) (.int .i64 nn) (.int .i64 s1) (.int .u64 s2) (.slice A6 (putW pcl ([c],n)).length p6)
     have HCZ:=Lib.hid ((hc7.off (v0:=cboxV (w.heap.size+2)) (fun u hu=>hu.1.2) hg8).mono fun _ hu=>hu.2)
     obtain ⟨⟨c0,c1,c2,c3⟩,f0,f1,f2,f3⟩:=(HG6.out.box 0 rfl).four
     clear hT6 hF6 hq6 HST5 HPT hg7 hboth hc7 hg8 HEB0 HEB2 HG6
     have HPZ:=Lib.hid (HG7.out.put4 2 rfl (.int .i64 nn) (.int .i64 s1) (.int .u64 s2) (.slice A6 (putW pcl ([c],n)).length p6))
     obtain ⟨⟨c0,c1,c2,c3⟩,_⟩:=(HG7.out.box 0 rfl).four
     obtain ⟨⟨d0,d1,d2,d3⟩,f0,f1,f2,f3⟩:=(HG7.out.box 2 rfl).four
     go_wp2
     obtain ⟨⟨e0,e1,e2,e3⟩,_⟩:=(HPZ.out.box 2 rfl).four
     refine ⟨rfl,.agg #[.int .i64 nn,.int .i64 s1,.int .u64 s2,.slice A6 (putW pcl ([c],n)).length p6],?_,rpartEnd_of HE.out rfl HSS.out HCZ.out HPZ.out.below⟩
     simp [results,Try.results23,go_sem,e0,e1,e2,e3]
   ·have HE:=Lib.hid (E4 hw2 hw3)
    have g3:(way==3)=false:=by simpa using fun e=>hw3 (.inl e)
    have g4:(way==4)=false:=by simpa using fun e=>hw3 (.inr e)
    clear E2 E3 E4 hw3
    go_wp2
    refine ⟨rfl,.agg #[.int .i64 nn,.int .i64 s1,.int .u64 s2,.slice Ac pcl.length pc],?_,rpartEnd_of HE.out rfl HSS.out ((HCV0.out.kept ?_).mono fun _ hu=>.inl hu) ?_⟩
    ·simp [results,Try.results23,go_sem]
    ·exact (((Below.refl _ w).alloc (Nat.le_refl _) _).alloc (by simp) _).alloc (by simp;omega) _
    ·exact (((Below.refl _ w).alloc (Nat.le_refl _) _).alloc (by simp) _).alloc (by simp;omega) _
def PickV (row:List ByteArray)(col:Int):Value→World→Prop:=fun v w=>∃ u,v=.tuple #[u,.bool (pickOk row [col])]∧StrsIn w u (pickL row [col])
theorem PickV.kept {row:List ByteArray}{col:Int}:∀ (v:Value)(w w':World),Below w.heap.size w w'→PickV row col v w→PickV row col v w':=fun v w w' hb h=>by
 obtain ⟨u,e,h1⟩:=h
 exact ⟨u,e,StrsIn.kept h1 hb⟩
def refStep (p:PartP)(a:Int×Int)(x:Tm):PartP:=if pickOk x.1 [a.2]=true∧a.1≠1 then refPart p a.1 (cellD x.1 a.2) x.2 else p
def refParts:List PartP→List (Int×Int)→Tm→List PartP
 | _,[],_=>[]
 | ps,a::gs,x=>refStep (ps.headD part0) a x::refParts ps.tail gs x
def refPutG (g:GroupP)(gs:List (Int×Int))(x:Tm):GroupP:=⟨g.key,g.n+x.2,refParts g.parts gs x⟩
theorem refs_length:∀ (gs:List (Int×Int))(ps:List PartP)(x:Tm),(refParts ps gs x).length=gs.length
 | [],_,_=>rfl
 | _::gs,ps,x=>by
  show (refParts ps.tail gs x).length+1=_
  rw [refs_length gs];rfl
theorem refs_get:∀ (gs:List (Int×Int))(ps:List PartP)(x:Tm)(k:Nat)(h:k < gs.length),(refParts ps gs x)[k]? = some (refStep (ps.getD k part0) gs[k] x)
 | [],_,_,k,h=>absurd h (by simp)
 | a::gs,ps,x,0,_=>by
  show some (refStep (ps.headD part0) a x)=_
  cases ps <;> rfl
 | a::gs,ps,x,k+1,h=>by
  show (refParts ps.tail gs x)[k]? = _
  rw [refs_get gs ps.tail x k (by simpa using h)]
  cases ps <;> rfl
theorem refs_take (gs:List (Int×Int))(ps:List PartP)(x:Tm)(k:Nat)(h:k < gs.length):(refParts ps gs x).take (k+1)=(refParts ps gs x).take k++[refStep (ps.getD k part0) gs[k] x]:=by
 rw [List.take_add_one,refs_get gs ps x k h];rfl
def WayOk (a:Int×Int):Prop:=a.1=1∨a.1=2∨a.1=3∨a.1=4
theorem step_is {a:Int×Int}(ha:WayOk a)(l:List Tm)(x:Tm):refStep (partW part0 a l) a x=partW part0 a (l++[x]):=by
 obtain ⟨way,col⟩:=a
 have hca:cellsL col (l++[x])=cellsL col l++cellF col x:=by rw [gcells_append];simp [cellsL]
 have h1:∀ way,way≠1→cellD x.1 col=eB→refStep (partW part0 (way,col) l) (way,col) x=partW part0 (way,col) (l++[x]):=fun way _ hc=>by
  have hf:cellF col x=[]:=if_pos hc
  have h2:partW part0 (way,col) (l++[x])=partW part0 (way,col) l:=by
   unfold partW
   dsimp only
   rw [hca,hf,List.append_nil]
  rw [h2]
  unfold refStep
  dsimp only
  rw [hc]
  split
  ·exact refPart_e _ _ _
  ·rfl
 have h0:∀ way:Int,way≠1→¬cellD x.1 col=eB→refStep (partW part0 (way,col) l) (way,col) x=refPart (partW part0 (way,col) l) way (cellD x.1 col) x.2:=fun way hw hc=>by
  unfold refStep
  dsimp only
  refine if_pos ⟨?_,hw⟩
  cases hp:pickOk x.1 [col] with
  | true=>rfl
  | false=>exact absurd (gpick_no hp) hc
 have hf:¬cellD x.1 col=eB→cellF col x=[([cellD x.1 col],x.2)]:=fun hc=>if_neg hc
 have hcd:cellD [cellD x.1 col] 0=cellD x.1 col:=rfl
 have h34:∀ way:Int,way=3∨way=4→refStep (partW part0 (way,col) l) (way,col) x=partW part0 (way,col) (l++[x]):=fun way hw=>by
  have hw1:way≠1:=by omega
  by_cases hc:cellD x.1 col=eB
  ·exact h1 way hw1 hc
  ·rw [h0 way hw1 hc,refPart_34 _ _ _ _ (show ¬_=eB from hc) (by omega) hw]
   unfold partW
   dsimp only
   rw [if_neg hw1,if_pos hw,if_neg hw1,if_pos hw,hca,hf hc,gmany_append]
   have hs:sumW [] (cellsL col l++[([cellD x.1 col],x.2)])=putW (sumW [] (cellsL col l)) ([cellD x.1 col],x.2):=by unfold sumW;rw [List.foldl_append];rfl
   have hm:manyL [([cellD x.1 col],x.2)]=x.2:=by simp [manyL,linI]
   show _=PartP.mk _ _ (sumW [] _)
   rw [hs,hm]
   congr 1
   show (0+_:Int)+_=0+(_+_)
   omega
 rcases ha with h|h|h|h <;> dsimp only at h <;> subst h
 ·unfold refStep
  rw [if_neg (by simp)];rfl
 ·by_cases hc:cellD x.1 col=eB
  ·exact h1 2 (by decide) hc
  ·rw [h0 2 (by decide) hc,refPart_2 _ _ _ (show ¬_=eB from hc)]
   unfold partW
   dsimp only
   rw [if_neg (by decide),if_neg (by decide),if_neg (by decide),if_neg (by decide),hca,hf hc,gmany_append]
   have hm:manyL [([cellD x.1 col],x.2)]=x.2:=by simp [manyL,linI]
   have hs:sumL (cellsL col l++[([cellD x.1 col],x.2)])=sumL (cellsL col l)+numC (cellD x.1 col)*x.2:=by unfold sumL;rw [linI_append];simp [linI,hcd,Int.mul_comm]
   rw [hs,hm]
   congr 1
   ·show (0+_:Int)+_=0+(_+_)
    omega
   ·show (0+_:Int)+_=0+(_+_)
    omega
 ·exact h34 3 (.inl rfl)
 ·exact h34 4 (.inr rfl)
theorem refs_is {gs:List (Int×Int)}(hw:∀ a∈gs,WayOk a)(L:List Tm)(x:Tm):refParts (gs.map fun a=>partW part0 a L) gs x=partsW (gs.map fun a=>partW part0 a L) gs [x]:=by
 induction gs with
 | nil=>rfl
 | cons a gs ih =>
  show refStep (partW part0 a L) a x::refParts (gs.map _) gs x=partW (partW part0 a L) a [x]::partsW (gs.map _) gs [x]
  rw [step_is (hw a (List.mem_cons_self ..)) L x,part_more,ih fun b hb=>hw b (List.mem_cons_of_mem _ hb)]
theorem refs_bare {gs:List (Int×Int)}(hw:∀ a∈gs,WayOk a)(x:Tm):refParts [] gs x=partsW [] gs [x]:=by
 induction gs with
 | nil=>rfl
 | cons a gs ih =>
  show refStep part0 a x::refParts [] gs x=partW part0 a [x]::partsW [] gs [x]
  have h:=step_is (hw a (List.mem_cons_self ..)) [] x
  rw [part_zero] at h
  rw [h,ih fun b hb=>hw b (List.mem_cons_of_mem _ hb)];rfl
theorem refPut_is {g:GroupP}{gs:List (Int×Int)}{L:List Tm}(hw:∀ a∈gs,WayOk a)(h:IsG gs L g)(x:Tm):refPutG g gs x=withG g gs [x]:=by
 have hm:manyL [x]=x.2:=by simp [manyL,linI]
 unfold refPutG withG
 rw [hm]
 rcases h with h | ⟨rfl,_,h⟩
 ·rw [h]
  unfold grpL
  dsimp only
  rw [refs_is hw]
 ·rw [h,refs_bare hw]
def LainQ (Q:Value→Prop)(w:World)(u:Value):Prop:=Q u∧Lain w u
theorem LainQ.apart {Q:Value→Prop}{w:World}{u v:Value}(h:LainQ Q w u)(hv:∀ k,v.ownBlock=some k→w.heap.size≤k):RowOff v u:=Lain.apart h.2 hv
def OldNew (Q:Value→Prop)(w:World)(u:Value):Prop:=LainQ Q w u∨Fresh (w.heap.size+3) u
theorem OldNew.off {Q:Value→Prop}{w:World}{b:Nat}{u:Value}(h:OldNew Q w u)(h1:w.heap.size≤b)(h2:b < w.heap.size+3):RowOff (cboxV b) u:=by
 rcases h with h|h
 ·exact h.apart fun k hk=>by
   simp only [Value.ownBlock,Option.some.injEq] at hk
   omega
 ·exact RowOff.of_fresh h fun k hk=>by
   simp only [Value.ownBlock,Option.some.injEq] at hk
   omega
def RefPutEnd (Q:Value→Prop)(w:World)(g:GroupP)(e:Ending)(w':World):Prop:=∃ gv,e=.returned gv∧GroupIn (fun u=>Q u∨Fresh w.heap.size u) w' gv g∧Below w.heap.size w w'
theorem Try.infoR60:(Try.prog.info? 60).map (fun i=>(i.zero,i.size,i.bytes))=some (some (.agg #[.int .i64 0,.int .i64 0,.int .u64 0,.slice none 0 0]),4,48):=by kernel_rfl
set_option maxHeartbeats 4000000 in
set_option maxRecDepth 100000 in
theorem rput_calls (Q:Value→Prop)(hQ0:Q (.slice none 0 0)){w:World}{gv av rv:Value}{G:GroupP}{gs:List (Int×Int)}{row:List ByteArray}{n:Int}(hg:GroupIn Q w gv G)(ha:OnIn w av gs)(hr:StrsIn w rv row)(hf:FitG G)(hn:n.natAbs≤1152921504606846976)(hgs:gs.length≤1000000) :
  Calls Try.prog 10 #[gv,av,.agg #[rv,.int .i64 n]] w (RefPutEnd Q w (refPutG G gs (row,n))):=by
 obtain ⟨i0,hi,hz0,hz1,hz2⟩:=info_parts Try.infoR60
 obtain ⟨kv,pv,rfl,⟨hkey,hqk⟩,hparts⟩:=hg
 change Q kv at hqk
 change StrsIn w kv G.key at hkey
 obtain ⟨Ak,pk,rfl,-⟩:=one_at hkey
 change partK.In _ w pv G.parts at hparts
 obtain ⟨ptv,Ap,pp,hpe,rfl,_,_,hpat⟩:=hparts.at_
 obtain ⟨Aa,ca,rfl,-,haat⟩:=on_at ha
 obtain ⟨Ar,pr,rfl,-⟩:=one_at hr
 have HPAT:=Lib.hid hpat
 have HAAT:=Lib.hid haat
 have HKY:=Lib.hid hkey
 have HQK:=Lib.hid hqk
 have HQ0:Hid (Q (.slice none 0 0)):=hQ0
 clear hQ0 hqk
 have HRW0:=Lib.hid hr
 have HFT:=Lib.hid (fun k=>fit_at hf k)
 have hgn:=hf.1
 have HN:=Lib.hid hn
 obtain ⟨nn,hnn⟩:∃ nn,G.n+n=nn:=⟨_,rfl⟩
 have q1:IntKind.i64.wrap (G.n+n)=nn:=(IntWalk.i64_in _ (by omega)).trans hnn
 have HNK:Hid (refPutG G gs (row,n)=⟨G.key,nn,refParts G.parts gs (row,n)⟩):=by
  show _=_
  unfold refPutG
  rw [hnn]
 have hst:=(((Bxs.start w).lay 30 #[.slice Ak G.key.length pk,.int .i64 nn,.slice Ap G.parts.length pp]).lay 33 #[.slice Ar row.length pr,.int .i64 n]).lay 30 #[.slice none 0 0,.int .i64 0,.slice none 0 0]
 rw [show (w.alloc (.cells #[.slice Ak G.key.length pk,.int .i64 nn,.slice Ap G.parts.length pp] 30)).heap.size=w.heap.size+1 by simp,show ((w.alloc (.cells #[.slice Ak G.key.length pk,.int .i64 nn,.slice Ap G.parts.length pp] 30)).alloc (.cells #[.slice Ar row.length pr,.int .i64 n] 33)).heap.size=w.heap.size+2 by simp] at hst
 have HSZ2:Hid (w.heap.size+3≤((((w.alloc (.cells #[.slice Ak G.key.length pk,.int .i64 nn,.slice Ap G.parts.length pp] 30)).alloc (.cells #[.slice Ar row.length pr,.int .i64 n] 33)).alloc (.cells #[.slice none 0 0,.int .i64 0,.slice none 0 0] 30)).heap.size)):=by show _≤_;simp
 have HST:Hid (Bxs w (((w.alloc (.cells #[.slice Ak G.key.length pk,.int .i64 nn,.slice Ap G.parts.length pp] 30)).alloc (.cells #[.slice Ar row.length pr,.int .i64 n] 33)).alloc (.cells #[.slice none 0 0,.int .i64 0,.slice none 0 0] 30)) [(w.heap.size,[.slice Ak G.key.length pk,.int .i64 nn,.slice Ap G.parts.length pp]),(w.heap.size+1,[.slice Ar row.length pr,.int .i64 n]),(w.heap.size+2,[.slice none 0 0,.int .i64 0,.slice none 0 0])]):=hst
 clear hst hkey hparts ha hr hf hgn hn hnn hpat haat hpe
 unfold groupA
 go_enter Try.func10,Try.ntmps10
 go_wp2_with fail
 generalize ((w.alloc (.cells #[.slice Ak G.key.length pk,.int .i64 nn,.slice Ap G.parts.length pp] 30)).alloc (.cells #[.slice Ar row.length pr,.int .i64 n] 33)).alloc (.cells #[.slice none 0 0,.int .i64 0,.slice none 0 0] 30)=w2 at *
 go_loopw [7,8] (fun v i wr=>∃ k:Nat,k≤gs.length∧i=.int .i64 k∧Hid (∃ tv,tv.map Prod.snd=(refParts G.parts gs (row,n)).take k∧Bxs w wr [(w.heap.size,[.slice Ak G.key.length pk,.int .i64 nn,.slice Ap G.parts.length pp]),(w.heap.size+1,[.slice Ar row.length pr,.int .i64 n]),(w.heap.size+2,[.slice none 0 0,.int .i64 0,.slice none 0 0])]∧partK.Mine (OldNew Q w) wr (w.heap.size+3) v tv)) (fun _ i _=>gs.length-(intOf i).toNat)
 case atStart=>exact ⟨0,Nat.zero_le _,rfl,Lib.hid ⟨[],rfl,HST.out,Kin.Mine.nil_ _ _ _⟩⟩
 case round =>
  obtain ⟨k,hk,rfl,HZ⟩:=hrel
  obtain ⟨tv,htv,hbx,hm⟩:=HZ.out
  obtain ⟨A9,p9,rfl⟩:=hm.slice
  have hbw:=hbx.below
  have HTV:=Lib.hid htv
  by_cases hlt:k < gs.length
  ·obtain ⟨ba,oa,rfl,hal,hac⟩:=HAAT.out k hlt
   obtain ⟨a0,a1⟩:=hac k hlt
   have HA0:=Lib.hid (fun W (hW:Below w.heap.size w W)=>(hW.cell (p:=⟨ba,oa+k*2,none⟩) hal).trans a0)
   have HA1W:=Lib.hid (fun W (hW:Below w.heap.size w W)=>(hW.cell (p:=⟨ba,oa+k*2+1,none⟩) hal).trans a1)
   have HTK:=Lib.hid (refs_take gs G.parts (row,n) k hlt)
   have htl:tv.length≤k:=by
    have:=congrArg List.length htv
    rw [List.length_map,List.length_take] at this
    omega
   have HTL:Hid (tv.length≤1000000):=by show _≤_;omega
   have HFK:=Lib.hid (HFT.out k)
   have HLK:Hid (k < gs.length):=hlt
   have i1:(k:Int) < (gs.length:Int):=by omega
   clear hac htv HZ a0 a1
   generalize gs[k]=a at *
   obtain ⟨way,col⟩:=a
   dsimp only at *
   have HBXR:=Lib.hid hbx
   have HMR:=Lib.hid hm
   have HBW:Hid (Below w.heap.size w wr):=hbw
   obtain ⟨⟨y0,y1,y2⟩,-⟩:=((hbx.kept (Below.alloc (.refl wr.heap.size wr) (Nat.le_refl _) (.cells #[.int .i64 0,.int .i64 0,.int .u64 0,.slice none 0 0] 60))).box 0 rfl).three
   clear hbx hm
   by_cases hkp:k < G.parts.length
   ·obtain ⟨bp,op,rfl,hpl,hpc⟩:=HPAT.out k hkp
    obtain ⟨⟨cv,q0⟩,-,-,hq0,hr0,hc0⟩:=hpc k hkp
    change q0=_ at hq0
    change timesK.In _ w cv q0.cells at hr0
    have x0:=(hbw.cell (p:=⟨bp,op+k*4+0,none⟩) hpl).trans (hc0 0 _ rfl)
    have x1:=(hbw.cell (p:=⟨bp,op+k*4+1,none⟩) hpl).trans (hc0 1 _ rfl)
    have x2:=(hbw.cell (p:=⟨bp,op+k*4+2,none⟩) hpl).trans (hc0 2 _ rfl)
    have x3:=(hbw.cell (p:=⟨bp,op+k*4+3,none⟩) hpl).trans (hc0 3 _ rfl)
    rw [Nat.add_zero] at x0
    have HGD:Hid (G.parts.getD k part0=q0):=by
     show _=_
     rw [List.getD_eq_getElem?_getD,List.getElem?_eq_getElem hkp,hq0];rfl
    rw [HGD.out] at HTK HFK
    obtain ⟨Ac,pc,rfl⟩:=hr0.slice
    have HR4:Hid (timesK.In (LainQ Q w) w (.slice Ac q0.cells.length pc) q0.cells):=Lib.hid (hr0.lain.mono fun _ hu=>hu)
    have i2:(k:Int) < (G.parts.length:Int):=by omega
    dsimp only at x0 x1 x2 x3
    clear hpc hr0 hc0 hq0
    have hqa:=Below.alloc (.refl wr.heap.size wr) (Nat.le_refl _) (.cells #[.int .i64 0,.int .i64 0,.int .u64 0,.slice none 0 0] 60)
    have x0:=cell_kept x0 hqa
    have x1:=cell_kept x1 hqa
    have x2:=cell_kept x2 hqa
    have x3:=cell_kept x3 hqa
    clear hqa hbw
    have hb5:=HBXR.out.lay 60 #[.int .i64 q0.n,.int .i64 (toW q0.s).1,.int .u64 (toW q0.s).2,.slice Ac q0.cells.length pc]
    have hqa:=Below.alloc (.refl wr.heap.size wr) (Nat.le_refl _) (.cells #[.int .i64 q0.n,.int .i64 (toW q0.s).1,.int .u64 (toW q0.s).2,.slice Ac q0.cells.length pc] 60)
    have HOW:=Lib.hid ((HMR.out.lain.mono (Q':=fun u=>OldNew Q w u∧RowOff (cboxV wr.heap.size) u) fun u hu=>⟨hu.1,hu.2.apart fun j hj=>by
     simp only [Value.ownBlock,Option.some.injEq] at hj
     omega⟩).later hqa)
    have hlt2:=(HBXR.out.box 2 rfl).lt
    have HGB:Hid (w.heap.size+2 < wr.heap.size):=hlt2
    have HLO:Hid (∀ j,(Value.slice A9 tv.length p9).ownBlock=some j→w.heap.size+3≤j∧j < wr.heap.size):=Lib.hid HMR.out.lt
    have HX:Hid (∃ cv,Bxs w (wr.alloc (.cells #[.int .i64 q0.n,.int .i64 (toW q0.s).1,.int .u64 (toW q0.s).2,.slice Ac q0.cells.length pc] 60)) ([(w.heap.size,[.slice Ak G.key.length pk,.int .i64 nn,.slice (some ⟨bp,op,none⟩) G.parts.length pp]),(w.heap.size+1,[.slice Ar row.length pr,.int .i64 n]),(w.heap.size+2,[.slice none 0 0,.int .i64 0,.slice none 0 0]),(wr.heap.size,[.int .i64 q0.n,.int .i64 (toW q0.s).1,.int .u64 (toW q0.s).2,cv])])∧timesK.In (LainQ Q w) (wr.alloc (.cells #[.int .i64 q0.n,.int .i64 (toW q0.s).1,.int .u64 (toW q0.s).2,.slice Ac q0.cells.length pc] 60)) cv q0.cells):=Lib.hid ⟨_,hb5,HR4.out.kept hb5.below⟩
    clear hqa hb5 HBXR HMR HR4 hlt2
    go_wp2_with fail
    generalize wr.alloc (.cells #[.int .i64 q0.n,.int .i64 (toW q0.s).1,.int .u64 (toW q0.s).2,.slice Ac q0.cells.length pc] 60)=w4 at *
    generalize wr.heap.size=gb at *
    clear x0 x1 x2 x3 y0 y1 y2
    obtain ⟨cv,hbx4,hc4⟩:=HX.out
    obtain ⟨Ac,pc,rfl⟩:=hc4.slice
    have HB4:=Lib.hid hbx4
    have HC4:=Lib.hid hc4
    obtain ⟨⟨x0,x1⟩,-⟩:=(hbx4.box 1 rfl).two
    have HX0:=Lib.hid x0
    have HRW:=Lib.hid (StrsIn.kept HRW0.out hbx4.below)
    have HA1:=Lib.hid (HA1W.out w4 hbx4.below)
    clear x0 x1 hbx4 hc4 HX
    refine wp_region_calm (offC w4) (fun _=>false) (fun _=>false) anyE false (by kernel_rfl) (by kernel_rfl) (by kernel_rfl) (by kernel_rfl) (by intro m hm;revert hm;simp;try omega) (offC_stable _) (offC_start _) ?_
    refine calm_fixA rfl rfl ?_
    apply Exists.intro
    refine ⟨fun a wz hc hk hf K hK=>?_,?_⟩
    ·have h5:=hk 5 (by kernel_rfl)
     clear hk hf hc
     go_simp
     exact hK _ _ (Below.refl _ _) rfl
    refine calm_fixA rfl rfl ?_
    apply Exists.intro
    refine ⟨fun a wz hc hk hf K hK=>?_,?_⟩
    ·have hb:Below w4.heap.size w4 wz:=hc rfl
     have h36:=held_isV hf 0 rfl (by kernel_rfl)
     clear hk hf hc
     have x0:=cell_kept HX0.out hb
     go_simp
     exact hK _ _ (Below.refl _ _) rfl
    refine calm_fixA rfl rfl ?_
    apply Exists.intro
    refine ⟨fun a wz hc hk hf K hK=>?_,?_⟩
    ·have h1:=hk 1 (by kernel_rfl)
     clear hk hf hc
     go_simp
     exact hK _ _ (Below.refl _ _) rfl
    refine calm_fixA rfl rfl ?_
    apply Exists.intro
    refine ⟨fun a wz hc hk hf K hK=>?_,?_⟩
    ·have h8:=hk 8 (by kernel_rfl)
     clear hk hf hc
     go_simp
     exact hK _ _ (Below.refl _ _) rfl
    refine calm_fixA rfl rfl ?_
    apply Exists.intro
    refine ⟨fun a wz hc hk hf K hK=>?_,?_⟩
    ·have hb:Below w4.heap.size w4 wz:=hc rfl
     have h38:=held_isV hf 1 rfl (by kernel_rfl)
     have h39:=held_isV hf 0 rfl (by kernel_rfl)
     clear hk hf hc
     have hp0:k < gs.length:=HLK.out
     have hp1:(k:Int) < (gs.length:Int):=by omega
     have hp2:(0:Int)≤(k:Int):=by omega
     go_simp
     exact hK _ _ (Below.refl _ _) rfl
    refine calm_fixA rfl rfl ?_
    apply Exists.intro
    refine ⟨fun a wz hc hk hf K hK=>?_,?_⟩
    ·have h40:=held_isV hf 0 rfl (by kernel_rfl)
     clear hk hf hc
     go_simp
     exact hK _ _ (Below.refl _ _) rfl
    refine calm_fixA rfl rfl ?_
    apply Exists.intro
    refine ⟨fun a wz hc hk hf K hK=>?_,?_⟩
    ·have hb:Below w4.heap.size w4 wz:=hc rfl
     have h41:=held_isV hf 0 rfl (by kernel_rfl)
     clear hk hf hc
     have a1:=cell_kept HA1.out hb
     go_simp
     exact hK _ _ (Below.refl _ _) rfl
    refine calm_varA (fun v w=>∃ A p,v=.slice A 1 p∧IntsIn w (.slice A 1 p) [col]) rfl rfl (fun _ _ _ hb h=>h.elim fun A h=>h.elim fun p h=>⟨A,p,h.1,IntsIn.kept h.2 hb⟩) (fun a wz hc hk hf K hK=>?_) ?_
    ·have hb:Below w4.heap.size w4 wz:=hc rfl
     have h42:=held_isV hf 0 rfl (by kernel_rfl)
     clear hk hf hc
     go_simp
     exact hK _ _ (Below.alloc (.refl _ _) (Nat.le_refl _) _) (fun _=>⟨_,_,rfl,lit_col _ _ _⟩)
    refine calm_varA (PickV row col) rfl rfl PickV.kept (fun a wz hc hk hf K hK=>?_) ?_
    ·have hb:Below w4.heap.size w4 wz:=hc rfl
     have h37:=held_isV hf 6 rfl (by kernel_rfl)
     obtain ⟨v43,h43,S43⟩:=held_at hf 0 rfl (by kernel_rfl)
     clear hk hf hc
     obtain ⟨A8,p8,rfl,s8⟩:=S43 rfl
     go_simp
     refine Calls.mono (ref_shape_pick_new (StrsIn.kept HRW.out hb) s8 (by simp)) ?_
     intro e w1 he
     obtain ⟨v9,rfl,h1,_,hq⟩:=he
     exact hK _ _ hq (fun _=>⟨v9,rfl,h1⟩)
    refine calm_varA (PickV row col) rfl rfl PickV.kept (fun a wz hc hk hf K hK=>?_) ?_
    ·have hb:Below w4.heap.size w4 wz:=hc rfl
     obtain ⟨v44,h44,S44⟩:=held_at hf 0 rfl (by kernel_rfl)
     clear hk hf hc
     go_simp
     exact hK _ _ (Below.refl _ _) (fun _=>S44 rfl)
    refine calm_varA (fun v w=>StrsIn w v (pickL row [col])) rfl rfl (fun _ _ _ hb h=>StrsIn.kept h hb) (fun a wz hc hk hf K hK=>?_) ?_
    ·have hb:Below w4.heap.size w4 wz:=hc rfl
     obtain ⟨v35,h35,S35⟩:=held_at hf 0 rfl (by kernel_rfl)
     clear hk hf hc
     obtain ⟨v9,rfl,h1⟩:=S35 rfl
     go_simp
     exact hK _ _ (Below.refl _ _) (fun _=>h1)
    refine calm_fixA rfl rfl ?_
    apply Exists.intro
    refine ⟨fun a wz hc hk hf K hK=>?_,?_⟩
    ·have hb:Below w4.heap.size w4 wz:=hc rfl
     obtain ⟨v35,h35,S35⟩:=held_at hf 1 rfl (by kernel_rfl)
     clear hk hf hc
     obtain ⟨v9,rfl,h1⟩:=S35 rfl
     go_simp
     exact hK _ _ (Below.refl _ _) rfl
    refine calm_varA (fun v w=>StrsIn w v (pickL row [col])) rfl rfl (fun _ _ _ hb h=>StrsIn.kept h hb) (fun a wz hc hk hf K hK=>?_) ?_
    ·have hb:Below w4.heap.size w4 wz:=hc rfl
     obtain ⟨v45,h45,S45⟩:=held_at hf 1 rfl (by kernel_rfl)
     clear hk hf hc
     go_simp
     exact hK _ _ (Below.refl _ _) (fun _=>S45 rfl)
    refine calm_fixA rfl rfl ?_
    apply Exists.intro
    refine ⟨fun a wz hc hk hf K hK=>?_,?_⟩
    ·have h46:=held_isV hf 1 rfl (by kernel_rfl)
     clear hk hf hc
     go_simp
     exact hK _ _ (Below.refl _ _) rfl
    refine calm_nil ?_
    refine ⟨keeps_none,?_⟩
    intro w5 hc
    simp only [lexL,calmEnd]
    rintro _ rfl _ rfl _ rfl _ rfl _ rfl _ rfl _ rfl v43 S43 v44 S44 v35 S35 v45 S45 _ rfl v10 S10 _ rfl
    have hb5:Below w4.heap.size w4 w5:=hc rfl
    have hs5:=S10 rfl
    clear hc S43 S44 S35 S45 S10
    simp only [Act.put,List.setIfInBounds_toArray,List.set_cons_zero,List.set_cons_succ]
    have HB5:=Lib.hid (HB4.out.kept hb5)
    have HC5:=Lib.hid (HC4.out.kept hb5)
    have HOW5:=Lib.hid (HOW.out.later hb5)
    have a0:=HA0.out w5 HB5.out.below
    have HS5:=Lib.hid hs5
    have HG5:Hid (gb < w5.heap.size):=Lib.hid (HB5.out.box 3 rfl).lt
    have HCQ:Hid (timesK.In (fun u=>OldNew Q w u∧RowOff (.slice A9 tv.length p9) u) w5 (.slice Ac q0.cells.length pc) q0.cells):=Lib.hid (HC5.out.mono fun u hu=>⟨.inl hu,hu.apart fun j hj=>by have:=HLO.out j hj;omega⟩)
    clear HB4 HC4 HOW HX0 HRW HA1 hs5 hb5
    obtain ⟨ok,hok⟩:∃ ok,pickOk row [col]=ok:=⟨_,rfl⟩
    rw [hok]
    have HOK:=Lib.hid hok
    clear hok
    cases ok
    ·have HRS:Hid (refStep q0 (way,col) (row,n)=q0):=if_neg (by dsimp only;rw [HOK.out];simp)
     rw [HRS.out] at HTK
     have htl2:=HTL.out
     obtain ⟨⟨c0,c1,c2,c3⟩,-⟩:=(HB5.out.box 3 rfl).four
     have HLIT:Hid (SliceOf (w5.alloc (.cells #[.int .i64 q0.n,.int .i64 (toW q0.s).1,.int .u64 (toW q0.s).2,(.slice Ac q0.cells.length pc)] 60)) 4 (.slice (some ⟨w5.heap.size,0,none⟩) 1 1) 1 (partK.cells ((.slice Ac q0.cells.length pc),q0))):=Lib.hid (partK_lit w5 60 ((.slice Ac q0.cells.length pc),q0))
     have hqb:=Below.alloc (.refl w5.heap.size w5) (Nat.le_refl _) (.cells #[.int .i64 q0.n,.int .i64 (toW q0.s).1,.int .u64 (toW q0.s).2,(.slice Ac q0.cells.length pc)] 60)
     have HOB:=Lib.hid ((HOW5.out.mono fun _ hu=>hu.1).later hqb)
     have HBC:=Lib.hid ((HB5.out.front 3).kept hqb)
     have hcb:=HCQ.out.kept hqb
     have HRB:Hid (partK.R (fun u=>OldNew Q w u∧RowOff (.slice A9 tv.length p9) u) _ ((.slice Ac q0.cells.length pc),q0)):=Lib.hid hcb
     have HONE:=Lib.hid (partK.one HRB.out)
     have HSZB:Hid (w.heap.size+3≤(w5.alloc (.cells #[.int .i64 q0.n,.int .i64 (toW q0.s).1,.int .u64 (toW q0.s).2,(.slice Ac q0.cells.length pc)] 60)).heap.size):=Lib.hid (by
      have h1:=HGB.out
      have h2:=(HB5.out.box 3 rfl).lt
      have h3:=hqb.size
      first|omega|(dsimp only at h2;omega))
     clear hqb hcb HOW5 HCQ HB5
     go_wp2_with (at_builtin;refine wpList_append_src rfl (.tmp 67) (.tmp 69) 28 rfl 60 i0 (.agg #[.int .i64 0,.int .i64 0,.int .u64 0,.slice none 0 0]) 4 48 Try.underlying28 hi hz0 hz1 hz2 rfl (by decide) (B:=w.heap.size+3) (.slice A9 tv.length p9) tv.length (partK.flat tv) rfl HOB.out.own _ 1 (partK.cells ((.slice Ac q0.cells.length pc),q0)) rfl HLIT.out HONE.out (by unfold maxLen;omega) (by omega) HSZB.out ?_)
     intro v9 w9 hO9 hg9 hv9
     have hm9:=HOB.out.add HRB.out hg9 (fun j hj=>(hv9 j hj).elim .inl fun h=>.inr (by simpa using h)) hO9 rfl
     have hb9:=HBC.out.grown hg9 fun j hj=>by
      have h1:=(HLO.out j hj).1
      refine ⟨by omega,fun q hq e=>?_⟩
      simp only [List.take,List.mem_cons,List.not_mem_nil,or_false] at hq
      rcases hq with rfl|rfl|rfl <;> (simp only at e;omega)
     have HM9:=Lib.hid hm9
     have HB9:=Lib.hid hb9
     clear hO9 hg9 hv9 hm9 hb9 HOB HBC HRB HLIT HONE HSZB
     go_wp2
     go_roundw
     case rel=>exact ⟨k+1,HLK.out,by go_num,_,by rw [HTK.out,List.map_append,HTV.out];rfl,HB9.out,HM9.out⟩
     case measure=>have:=HLK.out;simp [intOf];omega
    ·by_cases hw1:way=1
     ·subst hw1
      have HRS:Hid (refStep q0 (1,col) (row,n)=q0):=if_neg (by simp)
      rw [HRS.out] at HTK
      have htl2:=HTL.out
      obtain ⟨⟨c0,c1,c2,c3⟩,-⟩:=(HB5.out.box 3 rfl).four
      have HLIT:Hid (SliceOf (w5.alloc (.cells #[.int .i64 q0.n,.int .i64 (toW q0.s).1,.int .u64 (toW q0.s).2,(.slice Ac q0.cells.length pc)] 60)) 4 (.slice (some ⟨w5.heap.size,0,none⟩) 1 1) 1 (partK.cells ((.slice Ac q0.cells.length pc),q0))):=Lib.hid (partK_lit w5 60 ((.slice Ac q0.cells.length pc),q0))
      have hqb:=Below.alloc (.refl w5.heap.size w5) (Nat.le_refl _) (.cells #[.int .i64 q0.n,.int .i64 (toW q0.s).1,.int .u64 (toW q0.s).2,(.slice Ac q0.cells.length pc)] 60)
      have HOB:=Lib.hid ((HOW5.out.mono fun _ hu=>hu.1).later hqb)
      have HBC:=Lib.hid ((HB5.out.front 3).kept hqb)
      have hcb:=HCQ.out.kept hqb
      have HRB:Hid (partK.R (fun u=>OldNew Q w u∧RowOff (.slice A9 tv.length p9) u) _ ((.slice Ac q0.cells.length pc),q0)):=Lib.hid hcb
      have HONE:=Lib.hid (partK.one HRB.out)
      have HSZB:Hid (w.heap.size+3≤(w5.alloc (.cells #[.int .i64 q0.n,.int .i64 (toW q0.s).1,.int .u64 (toW q0.s).2,(.slice Ac q0.cells.length pc)] 60)).heap.size):=Lib.hid (by
       have h1:=HGB.out
       have h2:=(HB5.out.box 3 rfl).lt
       have h3:=hqb.size
       first|omega|(dsimp only at h2;omega))
      clear hqb hcb HOW5 HCQ HB5
      go_wp2_with (at_builtin;refine wpList_append_src rfl (.tmp 67) (.tmp 69) 28 rfl 60 i0 (.agg #[.int .i64 0,.int .i64 0,.int .u64 0,.slice none 0 0]) 4 48 Try.underlying28 hi hz0 hz1 hz2 rfl (by decide) (B:=w.heap.size+3) (.slice A9 tv.length p9) tv.length (partK.flat tv) rfl HOB.out.own _ 1 (partK.cells ((.slice Ac q0.cells.length pc),q0)) rfl HLIT.out HONE.out (by unfold maxLen;omega) (by omega) HSZB.out ?_)
      intro v9 w9 hO9 hg9 hv9
      have hm9:=HOB.out.add HRB.out hg9 (fun j hj=>(hv9 j hj).elim .inl fun h=>.inr (by simpa using h)) hO9 rfl
      have hb9:=HBC.out.grown hg9 fun j hj=>by
       have h1:=(HLO.out j hj).1
       refine ⟨by omega,fun q hq e=>?_⟩
       simp only [List.take,List.mem_cons,List.not_mem_nil,or_false] at hq
       rcases hq with rfl|rfl|rfl <;> (simp only at e;omega)
      have HM9:=Lib.hid hm9
      have HB9:=Lib.hid hb9
      clear hO9 hg9 hv9 hm9 hb9 HOB HBC HRB HLIT HONE HSZB
      go_wp2
      go_roundw
      case rel=>exact ⟨k+1,HLK.out,by go_num,_,by rw [HTK.out,List.map_append,HTV.out];rfl,HB9.out,HM9.out⟩
      case measure=>have:=HLK.out;simp [intOf];omega
     ·have d5:(way==1)=false:=by rw [beq_eq_false_iff_ne];exact hw1
      have d6:(way != 1)=true:=by rw [bne,d5];rfl
      have HRS:Hid (refStep q0 (way,col) (row,n)=refPart q0 way (cellD row col) n):=if_pos ⟨HOK.out,hw1⟩
      rw [HRS.out] at HTK
      have hs6:=HS5.out
      rw [show pickL row [col]=[cellD row col] by unfold pickL;rw [if_pos HOK.out];exact gpick_ok HOK.out] at hs6
      obtain ⟨Av,pv,rfl,hv6⟩:=one_at hs6
      obtain ⟨bv,ov,rfl,hvl,hvc⟩:=hv6 0 (by simp)
      have HY0:Hid (w5.cell? ⟨bv,ov,none⟩=some (.string (cellD row col))):=hvc 0 (by simp)
      have HPT:Hid (∀ W,Below w5.heap.size w5 W→Calls Try.prog 23 #[.agg #[.int .i64 q0.n,.int .i64 (toW q0.s).1,.int .u64 (toW q0.s).2,.slice Ac q0.cells.length pc],.agg #[.int .i64 way,.int .i64 col],.string (cellD row col),.int .i64 n] W (RPartEnd (LainQ Q w) W (refPart q0 way (cellD row col) n))):=fun W hW=>rpart_calls (LainQ Q w) (way,col) _ n ⟨_,rfl,HC5.out.kept hW⟩ HFK.out HN.out
      obtain ⟨⟨x0,x1⟩,-⟩:=(HB5.out.box 1 rfl).two
      have HX15:=Lib.hid x1
      have HA05:=Lib.hid a0
      have HA15:=Lib.hid (HA1W.out w5 HB5.out.below)
      have HB5B:Hid (CBox w5 gb [.int .i64 q0.n,.int .i64 (toW q0.s).1,.int .u64 (toW q0.s).2,.slice Ac q0.cells.length pc]):=Lib.hid (HB5.out.box 3 rfl)
      clear x0 x1 hs6 hv6 hvl hvc HS5 HRS
      generalize refPart q0 way (cellD row col) n=q9 at *
      go_wp2_with fail
      clear a0
      refine wp_region_calm (offC w5) (fun k=>k==11) (fun _=>false) anyE true (by kernel_rfl) (by kernel_rfl) (by kernel_rfl) (by kernel_rfl) (by intro m hm;revert hm;simp;try omega) (offC_stable _) (offC_start _) ?_
      refine calm_fixA rfl rfl ?_
      apply Exists.intro
      refine ⟨fun a wz hc hk hf K hK=>?_,?_⟩
      ·have hb:Below w5.heap.size w5 wz:=hc rfl
       have h9:=hk 9 (by kernel_rfl)
       clear hk hf hc
       obtain ⟨⟨b0,b1,b2,b3⟩,_⟩:=(HB5B.out.kept hb).four
       go_simp
       exact hK _ _ (Below.refl _ _) rfl
      refine calm_fixA rfl rfl ?_
      apply Exists.intro
      refine ⟨fun a wz hc hk hf K hK=>?_,?_⟩
      ·have h1:=hk 1 (by kernel_rfl)
       clear hk hf hc
       go_simp
       exact hK _ _ (Below.refl _ _) rfl
      refine calm_fixA rfl rfl ?_
      apply Exists.intro
      refine ⟨fun a wz hc hk hf K hK=>?_,?_⟩
      ·have h8:=hk 8 (by kernel_rfl)
       clear hk hf hc
       go_simp
       exact hK _ _ (Below.refl _ _) rfl
      refine calm_fixA rfl rfl ?_
      apply Exists.intro
      refine ⟨fun a wz hc hk hf K hK=>?_,?_⟩
      ·have hb:Below w5.heap.size w5 wz:=hc rfl
       have h57:=held_isV hf 1 rfl (by kernel_rfl)
       have h58:=held_isV hf 0 rfl (by kernel_rfl)
       clear hk hf hc
       have hp0:k < gs.length:=HLK.out
       have hp1:(k:Int) < (gs.length:Int):=by omega
       have hp2:(0:Int)≤(k:Int):=by omega
       go_simp
       exact hK _ _ (Below.refl _ _) rfl
      refine calm_fixA rfl rfl ?_
      apply Exists.intro
      refine ⟨fun a wz hc hk hf K hK=>?_,?_⟩
      ·have hb:Below w5.heap.size w5 wz:=hc rfl
       have h59:=held_isV hf 0 rfl (by kernel_rfl)
       clear hk hf hc
       have a0:=cell_kept HA05.out hb
       have a1:=cell_kept HA15.out hb
       go_simp
       exact hK _ _ (Below.refl _ _) rfl
      refine calm_fixA rfl rfl ?_
      apply Exists.intro
      refine ⟨fun a wz hc hk hf K hK=>?_,?_⟩
      ·have h10:=hk 10 (by kernel_rfl)
       clear hk hf hc
       go_simp
       exact hK _ _ (Below.refl _ _) rfl
      refine calm_fixA rfl rfl ?_
      apply Exists.intro
      refine ⟨fun a wz hc hk hf K hK=>?_,?_⟩
      ·have h61:=held_isV hf 0 rfl (by kernel_rfl)
       clear hk hf hc
       go_simp
       exact hK _ _ (Below.refl _ _) rfl
      refine calm_fixA rfl rfl ?_
      apply Exists.intro
      refine ⟨fun a wz hc hk hf K hK=>?_,?_⟩
      ·have hb:Below w5.heap.size w5 wz:=hc rfl
       have h62:=held_isV hf 0 rfl (by kernel_rfl)
       clear hk hf hc
       have y0:=cell_kept HY0.out hb
       go_simp
       exact hK _ _ (Below.refl _ _) rfl
      refine calm_fixA rfl rfl ?_
      apply Exists.intro
      refine ⟨fun a wz hc hk hf K hK=>?_,?_⟩
      ·have h5:=hk 5 (by kernel_rfl)
       clear hk hf hc
       go_simp
       exact hK _ _ (Below.refl _ _) rfl
      refine calm_fixA rfl rfl ?_
      apply Exists.intro
      refine ⟨fun a wz hc hk hf K hK=>?_,?_⟩
      ·have hb:Below w5.heap.size w5 wz:=hc rfl
       have h64:=held_isV hf 0 rfl (by kernel_rfl)
       clear hk hf hc
       have x1:=cell_kept HX15.out hb
       go_simp
       exact hK _ _ (Below.refl _ _) rfl
      refine calm_varA (fun v wy=>PartIn (fun u=>LainQ Q w u∨Fresh w5.heap.size u) wy v q9) rfl rfl (fun _ _ _ hb h=>PartIn.kept h hb) (fun a wz hc hk hf K hK=>?_) ?_
      ·have hb:Below w5.heap.size w5 wz:=hc rfl
       have h56:=held_isV hf 9 rfl (by kernel_rfl)
       have h60:=held_isV hf 5 rfl (by kernel_rfl)
       have h63:=held_isV hf 2 rfl (by kernel_rfl)
       have h65:=held_isV hf 0 rfl (by kernel_rfl)
       clear hk hf hc
       go_simp
       refine Calls.mono (HPT.out wz hb) ?_
       rintro e w9 ⟨c9,rfl,hc9,hq⟩
       exact hK _ _ hq (fun _=>⟨c9,rfl,hc9.mono fun u hu=>hu.elim .inl fun h=>.inr (h.mono hb.size)⟩)
      refine calm_storeA (fun wq=>∃ wp cv,Below w5.heap.size w5 wp∧timesK.In (fun u=>LainQ Q w u∨Fresh w5.heap.size u) wp cv q9.cells∧wq=((((wp.setCell ⟨gb,0,none⟩ (.int .i64 q9.n)).setCell ⟨gb,1,none⟩ (.int .i64 (toW q9.s).1)).setCell ⟨gb,2,none⟩ (.int .u64 (toW q9.s).2)).setCell ⟨gb,3,none⟩ cv)) rfl (fun m h=>by simpa using h) (fun a wz hb hk hf K hK=>?_) ?_
      ·have h9:=hk 9 (by kernel_rfl)
       obtain ⟨v66,h66,S66⟩:=held_at hf 0 rfl (by kernel_rfl)
       clear hk hf
       obtain ⟨c9,rfl,hc9⟩:=S66 rfl
       obtain ⟨⟨b0,b1,b2,b3⟩,f0,f1,f2,f3⟩:=(HB5B.out.kept hb).four
       have HBZ:=Lib.hid hb
       have HC9:=Lib.hid hc9
       obtain ⟨A9,p9,rfl⟩:=hc9.slice
       unfold partA at h66
       clear hb hc9 S66
       go_simp
       exact hK undef _ ⟨wz,_,HBZ.out,HC9.out,rfl⟩
      refine calm_nil ?_
      refine ⟨keeps_one (m:=11) (fun k h=>by simpa using h) ⟨.inr (loose_isV _),.inr (loose_isV _),.inr (loose_isV _),.inr (loose_isV _),.inr (loose_isV _),.inr (loose_isV _),.inr (loose_isV _),.inr (loose_isV _),.inr (loose_isV _),.inr (loose_isV _),.inr (loose_ahead _),.inl rfl,trivial⟩,?_⟩
      intro w6 hc
      simp only [lexL,calmEnd]
      rintro _ rfl _ rfl _ rfl _ rfl _ rfl _ rfl _ rfl _ rfl _ rfl _ rfl v66 S66 _ hst11
      obtain ⟨wq,⟨wp,cv9,hwp,hc9,rfl⟩,hq⟩:=hst11 rfl
      simp only [Act.put,List.setIfInBounds_toArray,List.set_cons_zero,List.set_cons_succ]
      have hlt5:=HG5.out
      have hoff:timesK.In (fun u=>LainQ Q w u∨Fresh w5.heap.size u) _ cv9 q9.cells:=hc9.off (v0:=cboxV gb) (fun u hu=>hu.elim (fun h=>h.apart fun j hj=>by
       simp only [Value.ownBlock,Option.some.injEq] at hj
       have:=HGB.out
       omega) (fun h=>RowOff.of_fresh h fun j hj=>by
       simp only [Value.ownBlock,Option.some.injEq] at hj
       omega)) (four_grown wp gb (.int .i64 q9.n) (.int .i64 (toW q9.s).1) (.int .u64 (toW q9.s).2) cv9)
      have HB6:Hid (Bxs w w6 ([(w.heap.size,[.slice Ak G.key.length pk,.int .i64 nn,.slice (some ⟨bp,op,none⟩) G.parts.length pp]),(w.heap.size+1,[.slice Ar row.length pr,.int .i64 n]),(w.heap.size+2,[.slice none 0 0,.int .i64 0,.slice none 0 0]),(gb,[.int .i64 q9.n,.int .i64 (toW q9.s).1,.int .u64 (toW q9.s).2,cv9])])):=Lib.hid (((HB5.out.kept hwp).put4 3 rfl (.int .i64 q9.n) (.int .i64 (toW q9.s).1) (.int .u64 (toW q9.s).2) cv9).kept hq)
      have HCQ6:Hid (timesK.In (fun u=>OldNew Q w u∧RowOff (.slice A9 tv.length p9) u) w6 cv9 q9.cells):=Lib.hid ((hoff.kept hq).mono fun u hu=>hu.elim (fun h=>⟨.inl h,h.apart fun j hj=>by have:=HLO.out j hj;omega⟩) fun h=>⟨.inr (h.mono (by have:=HGB.out;omega)),RowOff.of_fresh h fun j hj=>by have:=HLO.out j hj;omega⟩)
      have HOW6:=Lib.hid (((HOW5.out.later hwp).beside (v0:=cboxV gb) (fun u hu=>hu.2) (fun j hj e=>by
       simp only [Value.ownBlock,Option.some.injEq] at hj
       have:=(HLO.out j e).2
       omega) (four_grown wp gb (.int .i64 q9.n) (.int .i64 (toW q9.s).1) (.int .u64 (toW q9.s).2) cv9)).later hq)
      obtain ⟨A6,p6,rfl⟩:=HCQ6.out.slice
      clear HCQ HOW5 HB5 hc hwp hc9 hq hoff S66 hst11
      have htl2:=HTL.out
      obtain ⟨⟨c0,c1,c2,c3⟩,-⟩:=(HB6.out.box 3 rfl).four
      have HLIT:Hid (SliceOf (w6.alloc (.cells #[.int .i64 q9.n,.int .i64 (toW q9.s).1,.int .u64 (toW q9.s).2,(.slice A6 q9.cells.length p6)] 60)) 4 (.slice (some ⟨w6.heap.size,0,none⟩) 1 1) 1 (partK.cells ((.slice A6 q9.cells.length p6),q9))):=Lib.hid (partK_lit w6 60 ((.slice A6 q9.cells.length p6),q9))
      have hqb:=Below.alloc (.refl w6.heap.size w6) (Nat.le_refl _) (.cells #[.int .i64 q9.n,.int .i64 (toW q9.s).1,.int .u64 (toW q9.s).2,(.slice A6 q9.cells.length p6)] 60)
      have HOB:=Lib.hid ((HOW6.out.mono fun _ hu=>hu.1).later hqb)
      have HBC:=Lib.hid ((HB6.out.front 3).kept hqb)
      have hcb:=HCQ6.out.kept hqb
      have HRB:Hid (partK.R (fun u=>OldNew Q w u∧RowOff (.slice A9 tv.length p9) u) _ ((.slice A6 q9.cells.length p6),q9)):=Lib.hid hcb
      have HONE:=Lib.hid (partK.one HRB.out)
      have HSZB:Hid (w.heap.size+3≤(w6.alloc (.cells #[.int .i64 q9.n,.int .i64 (toW q9.s).1,.int .u64 (toW q9.s).2,(.slice A6 q9.cells.length p6)] 60)).heap.size):=Lib.hid (by
       have h1:=HGB.out
       have h2:=(HB6.out.box 3 rfl).lt
       have h3:=hqb.size
       first|omega|(dsimp only at h2;omega))
      clear hqb hcb HOW6 HCQ6 HB6
      go_wp2_with (at_builtin;refine wpList_append_src rfl (.tmp 67) (.tmp 69) 28 rfl 60 i0 (.agg #[.int .i64 0,.int .i64 0,.int .u64 0,.slice none 0 0]) 4 48 Try.underlying28 hi hz0 hz1 hz2 rfl (by decide) (B:=w.heap.size+3) (.slice A9 tv.length p9) tv.length (partK.flat tv) rfl HOB.out.own _ 1 (partK.cells ((.slice A6 q9.cells.length p6),q9)) rfl HLIT.out HONE.out (by unfold maxLen;omega) (by omega) HSZB.out ?_)
      intro v9 w9 hO9 hg9 hv9
      have hm9:=HOB.out.add HRB.out hg9 (fun j hj=>(hv9 j hj).elim .inl fun h=>.inr (by simpa using h)) hO9 rfl
      have hb9:=HBC.out.grown hg9 fun j hj=>by
       have h1:=(HLO.out j hj).1
       refine ⟨by omega,fun q hq e=>?_⟩
       simp only [List.take,List.mem_cons,List.not_mem_nil,or_false] at hq
       rcases hq with rfl|rfl|rfl <;> (simp only at e;omega)
      have HM9:=Lib.hid hm9
      have HB9:=Lib.hid hb9
      clear hO9 hg9 hv9 hm9 hb9 HOB HBC HRB HLIT HONE HSZB
      go_wp2
      go_roundw
      case rel=>exact ⟨k+1,HLK.out,by go_num,_,by rw [HTK.out,List.map_append,HTV.out];rfl,HB9.out,HM9.out⟩
      case measure=>have:=HLK.out;simp [intOf];omega
   ·have HGD:Hid (G.parts.getD k part0=part0):=by
     show _=_
     rw [List.getD_eq_getElem?_getD,List.getElem?_eq_none (by omega)];rfl
    rw [HGD.out] at HTK HFK
    have i2:¬(k:Int) < (G.parts.length:Int):=by omega
    have HR4:Hid (timesK.In (LainQ Q w) w (.slice none 0 0) []):=Kin.In.nil_ _ _ _ _ ⟨HQ0.out,fun A n c k e h0 hk=>by cases e;omega⟩
    clear hbw
    have hb5:=HBXR.out.lay 60 #[.int .i64 0,.int .i64 0,.int .u64 0,.slice none 0 0]
    have hqa:=Below.alloc (.refl wr.heap.size wr) (Nat.le_refl _) (.cells #[.int .i64 0,.int .i64 0,.int .u64 0,.slice none 0 0] 60)
    have HOW:=Lib.hid ((HMR.out.lain.mono (Q':=fun u=>OldNew Q w u∧RowOff (cboxV wr.heap.size) u) fun u hu=>⟨hu.1,hu.2.apart fun j hj=>by
     simp only [Value.ownBlock,Option.some.injEq] at hj
     omega⟩).later hqa)
    have hlt2:=(HBXR.out.box 2 rfl).lt
    have HGB:Hid (w.heap.size+2 < wr.heap.size):=hlt2
    have HLO:Hid (∀ j,(Value.slice A9 tv.length p9).ownBlock=some j→w.heap.size+3≤j∧j < wr.heap.size):=Lib.hid HMR.out.lt
    have HX:Hid (∃ cv,Bxs w (wr.alloc (.cells #[.int .i64 0,.int .i64 0,.int .u64 0,.slice none 0 0] 60)) ([(w.heap.size,[.slice Ak G.key.length pk,.int .i64 nn,.slice Ap G.parts.length pp]),(w.heap.size+1,[.slice Ar row.length pr,.int .i64 n]),(w.heap.size+2,[.slice none 0 0,.int .i64 0,.slice none 0 0]),(wr.heap.size,[.int .i64 part0.n,.int .i64 (toW part0.s).1,.int .u64 (toW part0.s).2,cv])])∧timesK.In (LainQ Q w) (wr.alloc (.cells #[.int .i64 0,.int .i64 0,.int .u64 0,.slice none 0 0] 60)) cv part0.cells):=Lib.hid ⟨.slice none 0 0,by rw [show [Value.int .i64 part0.n,.int .i64 (toW part0.s).1,.int .u64 (toW part0.s).2,.slice none 0 0]=[.int .i64 0,.int .i64 0,.int .u64 0,.slice none 0 0] by rw [show part0.s=0 from rfl,zero_w];rfl];exact hb5,HR4.out.kept hb5.below⟩
    clear hqa hb5 HBXR HMR HR4 hlt2
    go_wp2_with fail
    generalize wr.alloc (.cells #[.int .i64 0,.int .i64 0,.int .u64 0,.slice none 0 0] 60)=w4 at *
    generalize wr.heap.size=gb at *
    generalize part0=q0 at *
    clear y0 y1 y2
    obtain ⟨cv,hbx4,hc4⟩:=HX.out
    obtain ⟨Ac,pc,rfl⟩:=hc4.slice
    have HB4:=Lib.hid hbx4
    have HC4:=Lib.hid hc4
    obtain ⟨⟨x0,x1⟩,-⟩:=(hbx4.box 1 rfl).two
    have HX0:=Lib.hid x0
    have HRW:=Lib.hid (StrsIn.kept HRW0.out hbx4.below)
    have HA1:=Lib.hid (HA1W.out w4 hbx4.below)
    clear x0 x1 hbx4 hc4 HX
    refine wp_region_calm (offC w4) (fun _=>false) (fun _=>false) anyE false (by kernel_rfl) (by kernel_rfl) (by kernel_rfl) (by kernel_rfl) (by intro m hm;revert hm;simp;try omega) (offC_stable _) (offC_start _) ?_
    refine calm_fixA rfl rfl ?_
    apply Exists.intro
    refine ⟨fun a wz hc hk hf K hK=>?_,?_⟩
    ·have h5:=hk 5 (by kernel_rfl)
     clear hk hf hc
     go_simp
     exact hK _ _ (Below.refl _ _) rfl
    refine calm_fixA rfl rfl ?_
    apply Exists.intro
    refine ⟨fun a wz hc hk hf K hK=>?_,?_⟩
    ·have hb:Below w4.heap.size w4 wz:=hc rfl
     have h36:=held_isV hf 0 rfl (by kernel_rfl)
     clear hk hf hc
     have x0:=cell_kept HX0.out hb
     go_simp
     exact hK _ _ (Below.refl _ _) rfl
    refine calm_fixA rfl rfl ?_
    apply Exists.intro
    refine ⟨fun a wz hc hk hf K hK=>?_,?_⟩
    ·have h1:=hk 1 (by kernel_rfl)
     clear hk hf hc
     go_simp
     exact hK _ _ (Below.refl _ _) rfl
    refine calm_fixA rfl rfl ?_
    apply Exists.intro
    refine ⟨fun a wz hc hk hf K hK=>?_,?_⟩
    ·have h8:=hk 8 (by kernel_rfl)
     clear hk hf hc
     go_simp
     exact hK _ _ (Below.refl _ _) rfl
    refine calm_fixA rfl rfl ?_
    apply Exists.intro
    refine ⟨fun a wz hc hk hf K hK=>?_,?_⟩
    ·have hb:Below w4.heap.size w4 wz:=hc rfl
     have h38:=held_isV hf 1 rfl (by kernel_rfl)
     have h39:=held_isV hf 0 rfl (by kernel_rfl)
     clear hk hf hc
     have hp0:k < gs.length:=HLK.out
     have hp1:(k:Int) < (gs.length:Int):=by omega
     have hp2:(0:Int)≤(k:Int):=by omega
     go_simp
     exact hK _ _ (Below.refl _ _) rfl
    refine calm_fixA rfl rfl ?_
    apply Exists.intro
    refine ⟨fun a wz hc hk hf K hK=>?_,?_⟩
    ·have h40:=held_isV hf 0 rfl (by kernel_rfl)
     clear hk hf hc
     go_simp
     exact hK _ _ (Below.refl _ _) rfl
    refine calm_fixA rfl rfl ?_
    apply Exists.intro
    refine ⟨fun a wz hc hk hf K hK=>?_,?_⟩
    ·have hb:Below w4.heap.size w4 wz:=hc rfl
     have h41:=held_isV hf 0 rfl (by kernel_rfl)
     clear hk hf hc
     have a1:=cell_kept HA1.out hb
     go_simp
     exact hK _ _ (Below.refl _ _) rfl
    refine calm_varA (fun v w=>∃ A p,v=.slice A 1 p∧IntsIn w (.slice A 1 p) [col]) rfl rfl (fun _ _ _ hb h=>h.elim fun A h=>h.elim fun p h=>⟨A,p,h.1,IntsIn.kept h.2 hb⟩) (fun a wz hc hk hf K hK=>?_) ?_
    ·have hb:Below w4.heap.size w4 wz:=hc rfl
     have h42:=held_isV hf 0 rfl (by kernel_rfl)
     clear hk hf hc
     go_simp
     exact hK _ _ (Below.alloc (.refl _ _) (Nat.le_refl _) _) (fun _=>⟨_,_,rfl,lit_col _ _ _⟩)
    refine calm_varA (PickV row col) rfl rfl PickV.kept (fun a wz hc hk hf K hK=>?_) ?_
    ·have hb:Below w4.heap.size w4 wz:=hc rfl
     have h37:=held_isV hf 6 rfl (by kernel_rfl)
     obtain ⟨v43,h43,S43⟩:=held_at hf 0 rfl (by kernel_rfl)
     clear hk hf hc
     obtain ⟨A8,p8,rfl,s8⟩:=S43 rfl
     go_simp
     refine Calls.mono (ref_shape_pick_new (StrsIn.kept HRW.out hb) s8 (by simp)) ?_
     intro e w1 he
     obtain ⟨v9,rfl,h1,_,hq⟩:=he
     exact hK _ _ hq (fun _=>⟨v9,rfl,h1⟩)
    refine calm_varA (PickV row col) rfl rfl PickV.kept (fun a wz hc hk hf K hK=>?_) ?_
    ·have hb:Below w4.heap.size w4 wz:=hc rfl
     obtain ⟨v44,h44,S44⟩:=held_at hf 0 rfl (by kernel_rfl)
     clear hk hf hc
     go_simp
     exact hK _ _ (Below.refl _ _) (fun _=>S44 rfl)
    refine calm_varA (fun v w=>StrsIn w v (pickL row [col])) rfl rfl (fun _ _ _ hb h=>StrsIn.kept h hb) (fun a wz hc hk hf K hK=>?_) ?_
    ·have hb:Below w4.heap.size w4 wz:=hc rfl
     obtain ⟨v35,h35,S35⟩:=held_at hf 0 rfl (by kernel_rfl)
     clear hk hf hc
     obtain ⟨v9,rfl,h1⟩:=S35 rfl
     go_simp
     exact hK _ _ (Below.refl _ _) (fun _=>h1)
    refine calm_fixA rfl rfl ?_
    apply Exists.intro
    refine ⟨fun a wz hc hk hf K hK=>?_,?_⟩
    ·have hb:Below w4.heap.size w4 wz:=hc rfl
     obtain ⟨v35,h35,S35⟩:=held_at hf 1 rfl (by kernel_rfl)
     clear hk hf hc
     obtain ⟨v9,rfl,h1⟩:=S35 rfl
     go_simp
     exact hK _ _ (Below.refl _ _) rfl
    refine calm_varA (fun v w=>StrsIn w v (pickL row [col])) rfl rfl (fun _ _ _ hb h=>StrsIn.kept h hb) (fun a wz hc hk hf K hK=>?_) ?_
    ·have hb:Below w4.heap.size w4 wz:=hc rfl
     obtain ⟨v45,h45,S45⟩:=held_at hf 1 rfl (by kernel_rfl)
     clear hk hf hc
     go_simp
     exact hK _ _ (Below.refl _ _) (fun _=>S45 rfl)
    refine calm_fixA rfl rfl ?_
    apply Exists.intro
    refine ⟨fun a wz hc hk hf K hK=>?_,?_⟩
    ·have h46:=held_isV hf 1 rfl (by kernel_rfl)
     clear hk hf hc
     go_simp
     exact hK _ _ (Below.refl _ _) rfl
    refine calm_nil ?_
    refine ⟨keeps_none,?_⟩
    intro w5 hc
    simp only [lexL,calmEnd]
    rintro _ rfl _ rfl _ rfl _ rfl _ rfl _ rfl _ rfl v43 S43 v44 S44 v35 S35 v45 S45 _ rfl v10 S10 _ rfl
    have hb5:Below w4.heap.size w4 w5:=hc rfl
    have hs5:=S10 rfl
    clear hc S43 S44 S35 S45 S10
    simp only [Act.put,List.setIfInBounds_toArray,List.set_cons_zero,List.set_cons_succ]
    have HB5:=Lib.hid (HB4.out.kept hb5)
    have HC5:=Lib.hid (HC4.out.kept hb5)
    have HOW5:=Lib.hid (HOW.out.later hb5)
    have a0:=HA0.out w5 HB5.out.below
    have HS5:=Lib.hid hs5
    have HG5:Hid (gb < w5.heap.size):=Lib.hid (HB5.out.box 3 rfl).lt
    have HCQ:Hid (timesK.In (fun u=>OldNew Q w u∧RowOff (.slice A9 tv.length p9) u) w5 (.slice Ac q0.cells.length pc) q0.cells):=Lib.hid (HC5.out.mono fun u hu=>⟨.inl hu,hu.apart fun j hj=>by have:=HLO.out j hj;omega⟩)
    clear HB4 HC4 HOW HX0 HRW HA1 hs5 hb5
    obtain ⟨ok,hok⟩:∃ ok,pickOk row [col]=ok:=⟨_,rfl⟩
    rw [hok]
    have HOK:=Lib.hid hok
    clear hok
    cases ok
    ·have HRS:Hid (refStep q0 (way,col) (row,n)=q0):=if_neg (by dsimp only;rw [HOK.out];simp)
     rw [HRS.out] at HTK
     have htl2:=HTL.out
     obtain ⟨⟨c0,c1,c2,c3⟩,-⟩:=(HB5.out.box 3 rfl).four
     have HLIT:Hid (SliceOf (w5.alloc (.cells #[.int .i64 q0.n,.int .i64 (toW q0.s).1,.int .u64 (toW q0.s).2,(.slice Ac q0.cells.length pc)] 60)) 4 (.slice (some ⟨w5.heap.size,0,none⟩) 1 1) 1 (partK.cells ((.slice Ac q0.cells.length pc),q0))):=Lib.hid (partK_lit w5 60 ((.slice Ac q0.cells.length pc),q0))
     have hqb:=Below.alloc (.refl w5.heap.size w5) (Nat.le_refl _) (.cells #[.int .i64 q0.n,.int .i64 (toW q0.s).1,.int .u64 (toW q0.s).2,(.slice Ac q0.cells.length pc)] 60)
     have HOB:=Lib.hid ((HOW5.out.mono fun _ hu=>hu.1).later hqb)
     have HBC:=Lib.hid ((HB5.out.front 3).kept hqb)
     have hcb:=HCQ.out.kept hqb
     have HRB:Hid (partK.R (fun u=>OldNew Q w u∧RowOff (.slice A9 tv.length p9) u) _ ((.slice Ac q0.cells.length pc),q0)):=Lib.hid hcb
     have HONE:=Lib.hid (partK.one HRB.out)
     have HSZB:Hid (w.heap.size+3≤(w5.alloc (.cells #[.int .i64 q0.n,.int .i64 (toW q0.s).1,.int .u64 (toW q0.s).2,(.slice Ac q0.cells.length pc)] 60)).heap.size):=Lib.hid (by
      have h1:=HGB.out
      have h2:=(HB5.out.box 3 rfl).lt
      have h3:=hqb.size
      first|omega|(dsimp only at h2;omega))
     clear hqb hcb HOW5 HCQ HB5
     go_wp2_with (at_builtin;refine wpList_append_src rfl (.tmp 67) (.tmp 69) 28 rfl 60 i0 (.agg #[.int .i64 0,.int .i64 0,.int .u64 0,.slice none 0 0]) 4 48 Try.underlying28 hi hz0 hz1 hz2 rfl (by decide) (B:=w.heap.size+3) (.slice A9 tv.length p9) tv.length (partK.flat tv) rfl HOB.out.own _ 1 (partK.cells ((.slice Ac q0.cells.length pc),q0)) rfl HLIT.out HONE.out (by unfold maxLen;omega) (by omega) HSZB.out ?_)
     intro v9 w9 hO9 hg9 hv9
     have hm9:=HOB.out.add HRB.out hg9 (fun j hj=>(hv9 j hj).elim .inl fun h=>.inr (by simpa using h)) hO9 rfl
     have hb9:=HBC.out.grown hg9 fun j hj=>by
      have h1:=(HLO.out j hj).1
      refine ⟨by omega,fun q hq e=>?_⟩
      simp only [List.take,List.mem_cons,List.not_mem_nil,or_false] at hq
      rcases hq with rfl|rfl|rfl <;> (simp only at e;omega)
     have HM9:=Lib.hid hm9
     have HB9:=Lib.hid hb9
     clear hO9 hg9 hv9 hm9 hb9 HOB HBC HRB HLIT HONE HSZB
     go_wp2
     go_roundw
     case rel=>exact ⟨k+1,HLK.out,by go_num,_,by rw [HTK.out,List.map_append,HTV.out];rfl,HB9.out,HM9.out⟩
     case measure=>have:=HLK.out;simp [intOf];omega
    ·by_cases hw1:way=1
     ·subst hw1
      have HRS:Hid (refStep q0 (1,col) (row,n)=q0):=if_neg (by simp)
      rw [HRS.out] at HTK
      have htl2:=HTL.out
      obtain ⟨⟨c0,c1,c2,c3⟩,-⟩:=(HB5.out.box 3 rfl).four
      have HLIT:Hid (SliceOf (w5.alloc (.cells #[.int .i64 q0.n,.int .i64 (toW q0.s).1,.int .u64 (toW q0.s).2,(.slice Ac q0.cells.length pc)] 60)) 4 (.slice (some ⟨w5.heap.size,0,none⟩) 1 1) 1 (partK.cells ((.slice Ac q0.cells.length pc),q0))):=Lib.hid (partK_lit w5 60 ((.slice Ac q0.cells.length pc),q0))
      have hqb:=Below.alloc (.refl w5.heap.size w5) (Nat.le_refl _) (.cells #[.int .i64 q0.n,.int .i64 (toW q0.s).1,.int .u64 (toW q0.s).2,(.slice Ac q0.cells.length pc)] 60)
      have HOB:=Lib.hid ((HOW5.out.mono fun _ hu=>hu.1).later hqb)
      have HBC:=Lib.hid ((HB5.out.front 3).kept hqb)
      have hcb:=HCQ.out.kept hqb
      have HRB:Hid (partK.R (fun u=>OldNew Q w u∧RowOff (.slice A9 tv.length p9) u) _ ((.slice Ac q0.cells.length pc),q0)):=Lib.hid hcb
      have HONE:=Lib.hid (partK.one HRB.out)
      have HSZB:Hid (w.heap.size+3≤(w5.alloc (.cells #[.int .i64 q0.n,.int .i64 (toW q0.s).1,.int .u64 (toW q0.s).2,(.slice Ac q0.cells.length pc)] 60)).heap.size):=Lib.hid (by
       have h1:=HGB.out
       have h2:=(HB5.out.box 3 rfl).lt
       have h3:=hqb.size
       first|omega|(dsimp only at h2;omega))
      clear hqb hcb HOW5 HCQ HB5
      go_wp2_with (at_builtin;refine wpList_append_src rfl (.tmp 67) (.tmp 69) 28 rfl 60 i0 (.agg #[.int .i64 0,.int .i64 0,.int .u64 0,.slice none 0 0]) 4 48 Try.underlying28 hi hz0 hz1 hz2 rfl (by decide) (B:=w.heap.size+3) (.slice A9 tv.length p9) tv.length (partK.flat tv) rfl HOB.out.own _ 1 (partK.cells ((.slice Ac q0.cells.length pc),q0)) rfl HLIT.out HONE.out (by unfold maxLen;omega) (by omega) HSZB.out ?_)
      intro v9 w9 hO9 hg9 hv9
      have hm9:=HOB.out.add HRB.out hg9 (fun j hj=>(hv9 j hj).elim .inl fun h=>.inr (by simpa using h)) hO9 rfl
      have hb9:=HBC.out.grown hg9 fun j hj=>by
       have h1:=(HLO.out j hj).1
       refine ⟨by omega,fun q hq e=>?_⟩
       simp only [List.take,List.mem_cons,List.not_mem_nil,or_false] at hq
       rcases hq with rfl|rfl|rfl <;> (simp only at e;omega)
      have HM9:=Lib.hid hm9
      have HB9:=Lib.hid hb9
      clear hO9 hg9 hv9 hm9 hb9 HOB HBC HRB HLIT HONE HSZB
      go_wp2
      go_roundw
      case rel=>exact ⟨k+1,HLK.out,by go_num,_,by rw [HTK.out,List.map_append,HTV.out];rfl,HB9.out,HM9.out⟩
      case measure=>have:=HLK.out;simp [intOf];omega
     ·have d5:(way==1)=false:=by rw [beq_eq_false_iff_ne];exact hw1
      have d6:(way != 1)=true:=by rw [bne,d5];rfl
      have HRS:Hid (refStep q0 (way,col) (row,n)=refPart q0 way (cellD row col) n):=if_pos ⟨HOK.out,hw1⟩
      rw [HRS.out] at HTK
      have hs6:=HS5.out
      rw [show pickL row [col]=[cellD row col] by unfold pickL;rw [if_pos HOK.out];exact gpick_ok HOK.out] at hs6
      obtain ⟨Av,pv,rfl,hv6⟩:=one_at hs6
      obtain ⟨bv,ov,rfl,hvl,hvc⟩:=hv6 0 (by simp)
      have HY0:Hid (w5.cell? ⟨bv,ov,none⟩=some (.string (cellD row col))):=hvc 0 (by simp)
      have HPT:Hid (∀ W,Below w5.heap.size w5 W→Calls Try.prog 23 #[.agg #[.int .i64 q0.n,.int .i64 (toW q0.s).1,.int .u64 (toW q0.s).2,.slice Ac q0.cells.length pc],.agg #[.int .i64 way,.int .i64 col],.string (cellD row col),.int .i64 n] W (RPartEnd (LainQ Q w) W (refPart q0 way (cellD row col) n))):=fun W hW=>rpart_calls (LainQ Q w) (way,col) _ n ⟨_,rfl,HC5.out.kept hW⟩ HFK.out HN.out
      obtain ⟨⟨x0,x1⟩,-⟩:=(HB5.out.box 1 rfl).two
      have HX15:=Lib.hid x1
      have HA05:=Lib.hid a0
      have HA15:=Lib.hid (HA1W.out w5 HB5.out.below)
      have HB5B:Hid (CBox w5 gb [.int .i64 q0.n,.int .i64 (toW q0.s).1,.int .u64 (toW q0.s).2,.slice Ac q0.cells.length pc]):=Lib.hid (HB5.out.box 3 rfl)
      clear x0 x1 hs6 hv6 hvl hvc HS5 HRS
      generalize refPart q0 way (cellD row col) n=q9 at *
      go_wp2_with fail
      clear a0
      refine wp_region_calm (offC w5) (fun k=>k==11) (fun _=>false) anyE true (by kernel_rfl) (by kernel_rfl) (by kernel_rfl) (by kernel_rfl) (by intro m hm;revert hm;simp;try omega) (offC_stable _) (offC_start _) ?_
      refine calm_fixA rfl rfl ?_
      apply Exists.intro
      refine ⟨fun a wz hc hk hf K hK=>?_,?_⟩
      ·have hb:Below w5.heap.size w5 wz:=hc rfl
       have h9:=hk 9 (by kernel_rfl)
       clear hk hf hc
       obtain ⟨⟨b0,b1,b2,b3⟩,_⟩:=(HB5B.out.kept hb).four
       go_simp
       exact hK _ _ (Below.refl _ _) rfl
      refine calm_fixA rfl rfl ?_
      apply Exists.intro
      refine ⟨fun a wz hc hk hf K hK=>?_,?_⟩
      ·have h1:=hk 1 (by kernel_rfl)
       clear hk hf hc
       go_simp
       exact hK _ _ (Below.refl _ _) rfl
      refine calm_fixA rfl rfl ?_
      apply Exists.intro
      refine ⟨fun a wz hc hk hf K hK=>?_,?_⟩
      ·have h8:=hk 8 (by kernel_rfl)
       clear hk hf hc
       go_simp
       exact hK _ _ (Below.refl _ _) rfl
      refine calm_fixA rfl rfl ?_
      apply Exists.intro
      refine ⟨fun a wz hc hk hf K hK=>?_,?_⟩
      ·have hb:Below w5.heap.size w5 wz:=hc rfl
       have h57:=held_isV hf 1 rfl (by kernel_rfl)
       have h58:=held_isV hf 0 rfl (by kernel_rfl)
       clear hk hf hc
       have hp0:k < gs.length:=HLK.out
       have hp1:(k:Int) < (gs.length:Int):=by omega
       have hp2:(0:Int)≤(k:Int):=by omega
       go_simp
       exact hK _ _ (Below.refl _ _) rfl
      refine calm_fixA rfl rfl ?_
      apply Exists.intro
      refine ⟨fun a wz hc hk hf K hK=>?_,?_⟩
      ·have hb:Below w5.heap.size w5 wz:=hc rfl
       have h59:=held_isV hf 0 rfl (by kernel_rfl)
       clear hk hf hc
       have a0:=cell_kept HA05.out hb
       have a1:=cell_kept HA15.out hb
       go_simp
       exact hK _ _ (Below.refl _ _) rfl
      refine calm_fixA rfl rfl ?_
      apply Exists.intro
      refine ⟨fun a wz hc hk hf K hK=>?_,?_⟩
      ·have h10:=hk 10 (by kernel_rfl)
       clear hk hf hc
       go_simp
       exact hK _ _ (Below.refl _ _) rfl
      refine calm_fixA rfl rfl ?_
      apply Exists.intro
      refine ⟨fun a wz hc hk hf K hK=>?_,?_⟩
      ·have h61:=held_isV hf 0 rfl (by kernel_rfl)
       clear hk hf hc
       go_simp
       exact hK _ _ (Below.refl _ _) rfl
      refine calm_fixA rfl rfl ?_
      apply Exists.intro
      refine ⟨fun a wz hc hk hf K hK=>?_,?_⟩
      ·have hb:Below w5.heap.size w5 wz:=hc rfl
       have h62:=held_isV hf 0 rfl (by kernel_rfl)
       clear hk hf hc
       have y0:=cell_kept HY0.out hb
       go_simp
       exact hK _ _ (Below.refl _ _) rfl
      refine calm_fixA rfl rfl ?_
      apply Exists.intro
      refine ⟨fun a wz hc hk hf K hK=>?_,?_⟩
      ·have h5:=hk 5 (by kernel_rfl)
       clear hk hf hc
       go_simp
       exact hK _ _ (Below.refl _ _) rfl
      refine calm_fixA rfl rfl ?_
      apply Exists.intro
      refine ⟨fun a wz hc hk hf K hK=>?_,?_⟩
      ·have hb:Below w5.heap.size w5 wz:=hc rfl
       have h64:=held_isV hf 0 rfl (by kernel_rfl)
       clear hk hf hc
       have x1:=cell_kept HX15.out hb
       go_simp
       exact hK _ _ (Below.refl _ _) rfl
      refine calm_varA (fun v wy=>PartIn (fun u=>LainQ Q w u∨Fresh w5.heap.size u) wy v q9) rfl rfl (fun _ _ _ hb h=>PartIn.kept h hb) (fun a wz hc hk hf K hK=>?_) ?_
      ·have hb:Below w5.heap.size w5 wz:=hc rfl
       have h56:=held_isV hf 9 rfl (by kernel_rfl)
       have h60:=held_isV hf 5 rfl (by kernel_rfl)
       have h63:=held_isV hf 2 rfl (by kernel_rfl)
       have h65:=held_isV hf 0 rfl (by kernel_rfl)
       clear hk hf hc
       go_simp
       refine Calls.mono (HPT.out wz hb) ?_
       rintro e w9 ⟨c9,rfl,hc9,hq⟩
       exact hK _ _ hq (fun _=>⟨c9,rfl,hc9.mono fun u hu=>hu.elim .inl fun h=>.inr (h.mono hb.size)⟩)
      refine calm_storeA (fun wq=>∃ wp cv,Below w5.heap.size w5 wp∧timesK.In (fun u=>LainQ Q w u∨Fresh w5.heap.size u) wp cv q9.cells∧wq=((((wp.setCell ⟨gb,0,none⟩ (.int .i64 q9.n)).setCell ⟨gb,1,none⟩ (.int .i64 (toW q9.s).1)).setCell ⟨gb,2,none⟩ (.int .u64 (toW q9.s).2)).setCell ⟨gb,3,none⟩ cv)) rfl (fun m h=>by simpa using h) (fun a wz hb hk hf K hK=>?_) ?_
      ·have h9:=hk 9 (by kernel_rfl)
       obtain ⟨v66,h66,S66⟩:=held_at hf 0 rfl (by kernel_rfl)
       clear hk hf
       obtain ⟨c9,rfl,hc9⟩:=S66 rfl
       obtain ⟨⟨b0,b1,b2,b3⟩,f0,f1,f2,f3⟩:=(HB5B.out.kept hb).four
       have HBZ:=Lib.hid hb
       have HC9:=Lib.hid hc9
       obtain ⟨A9,p9,rfl⟩:=hc9.slice
       unfold partA at h66
       clear hb hc9 S66
       go_simp
       exact hK undef _ ⟨wz,_,HBZ.out,HC9.out,rfl⟩
      refine calm_nil ?_
      refine ⟨keeps_one (m:=11) (fun k h=>by simpa using h) ⟨.inr (loose_isV _),.inr (loose_isV _),.inr (loose_isV _),.inr (loose_isV _),.inr (loose_isV _),.inr (loose_isV _),.inr (loose_isV _),.inr (loose_isV _),.inr (loose_isV _),.inr (loose_isV _),.inr (loose_ahead _),.inl rfl,trivial⟩,?_⟩
      intro w6 hc
      simp only [lexL,calmEnd]
      rintro _ rfl _ rfl _ rfl _ rfl _ rfl _ rfl _ rfl _ rfl _ rfl _ rfl v66 S66 _ hst11
      obtain ⟨wq,⟨wp,cv9,hwp,hc9,rfl⟩,hq⟩:=hst11 rfl
      simp only [Act.put,List.setIfInBounds_toArray,List.set_cons_zero,List.set_cons_succ]
      have hlt5:=HG5.out
      have hoff:timesK.In (fun u=>LainQ Q w u∨Fresh w5.heap.size u) _ cv9 q9.cells:=hc9.off (v0:=cboxV gb) (fun u hu=>hu.elim (fun h=>h.apart fun j hj=>by
       simp only [Value.ownBlock,Option.some.injEq] at hj
       have:=HGB.out
       omega) (fun h=>RowOff.of_fresh h fun j hj=>by
       simp only [Value.ownBlock,Option.some.injEq] at hj
       omega)) (four_grown wp gb (.int .i64 q9.n) (.int .i64 (toW q9.s).1) (.int .u64 (toW q9.s).2) cv9)
      have HB6:Hid (Bxs w w6 ([(w.heap.size,[.slice Ak G.key.length pk,.int .i64 nn,.slice Ap G.parts.length pp]),(w.heap.size+1,[.slice Ar row.length pr,.int .i64 n]),(w.heap.size+2,[.slice none 0 0,.int .i64 0,.slice none 0 0]),(gb,[.int .i64 q9.n,.int .i64 (toW q9.s).1,.int .u64 (toW q9.s).2,cv9])])):=Lib.hid (((HB5.out.kept hwp).put4 3 rfl (.int .i64 q9.n) (.int .i64 (toW q9.s).1) (.int .u64 (toW q9.s).2) cv9).kept hq)
      have HCQ6:Hid (timesK.In (fun u=>OldNew Q w u∧RowOff (.slice A9 tv.length p9) u) w6 cv9 q9.cells):=Lib.hid ((hoff.kept hq).mono fun u hu=>hu.elim (fun h=>⟨.inl h,h.apart fun j hj=>by have:=HLO.out j hj;omega⟩) fun h=>⟨.inr (h.mono (by have:=HGB.out;omega)),RowOff.of_fresh h fun j hj=>by have:=HLO.out j hj;omega⟩)
      have HOW6:=Lib.hid (((HOW5.out.later hwp).beside (v0:=cboxV gb) (fun u hu=>hu.2) (fun j hj e=>by
       simp only [Value.ownBlock,Option.some.injEq] at hj
       have:=(HLO.out j e).2
       omega) (four_grown wp gb (.int .i64 q9.n) (.int .i64 (toW q9.s).1) (.int .u64 (toW q9.s).2) cv9)).later hq)
      obtain ⟨A6,p6,rfl⟩:=HCQ6.out.slice
      clear HCQ HOW5 HB5 hc hwp hc9 hq hoff S66 hst11
      have htl2:=HTL.out
      obtain ⟨⟨c0,c1,c2,c3⟩,-⟩:=(HB6.out.box 3 rfl).four
      have HLIT:Hid (SliceOf (w6.alloc (.cells #[.int .i64 q9.n,.int .i64 (toW q9.s).1,.int .u64 (toW q9.s).2,(.slice A6 q9.cells.length p6)] 60)) 4 (.slice (some ⟨w6.heap.size,0,none⟩) 1 1) 1 (partK.cells ((.slice A6 q9.cells.length p6),q9))):=Lib.hid (partK_lit w6 60 ((.slice A6 q9.cells.length p6),q9))
      have hqb:=Below.alloc (.refl w6.heap.size w6) (Nat.le_refl _) (.cells #[.int .i64 q9.n,.int .i64 (toW q9.s).1,.int .u64 (toW q9.s).2,(.slice A6 q9.cells.length p6)] 60)
      have HOB:=Lib.hid ((HOW6.out.mono fun _ hu=>hu.1).later hqb)
      have HBC:=Lib.hid ((HB6.out.front 3).kept hqb)
      have hcb:=HCQ6.out.kept hqb
      have HRB:Hid (partK.R (fun u=>OldNew Q w u∧RowOff (.slice A9 tv.length p9) u) _ ((.slice A6 q9.cells.length p6),q9)):=Lib.hid hcb
      have HONE:=Lib.hid (partK.one HRB.out)
      have HSZB:Hid (w.heap.size+3≤(w6.alloc (.cells #[.int .i64 q9.n,.int .i64 (toW q9.s).1,.int .u64 (toW q9.s).2,(.slice A6 q9.cells.length p6)] 60)).heap.size):=Lib.hid (by
       have h1:=HGB.out
       have h2:=(HB6.out.box 3 rfl).lt
       have h3:=hqb.size
       first|omega|(dsimp only at h2;omega))
      clear hqb hcb HOW6 HCQ6 HB6
      go_wp2_with (at_builtin;refine wpList_append_src rfl (.tmp 67) (.tmp 69) 28 rfl 60 i0 (.agg #[.int .i64 0,.int .i64 0,.int .u64 0,.slice none 0 0]) 4 48 Try.underlying28 hi hz0 hz1 hz2 rfl (by decide) (B:=w.heap.size+3) (.slice A9 tv.length p9) tv.length (partK.flat tv) rfl HOB.out.own _ 1 (partK.cells ((.slice A6 q9.cells.length p6),q9)) rfl HLIT.out HONE.out (by unfold maxLen;omega) (by omega) HSZB.out ?_)
      intro v9 w9 hO9 hg9 hv9
      have hm9:=HOB.out.add HRB.out hg9 (fun j hj=>(hv9 j hj).elim .inl fun h=>.inr (by simpa using h)) hO9 rfl
      have hb9:=HBC.out.grown hg9 fun j hj=>by
       have h1:=(HLO.out j hj).1
       refine ⟨by omega,fun q hq e=>?_⟩
       simp only [List.take,List.mem_cons,List.not_mem_nil,or_false] at hq
       rcases hq with rfl|rfl|rfl <;> (simp only at e;omega)
      have HM9:=Lib.hid hm9
      have HB9:=Lib.hid hb9
      clear hO9 hg9 hv9 hm9 hb9 HOB HBC HRB HLIT HONE HSZB
      go_wp2
      go_roundw
      case rel=>exact ⟨k+1,HLK.out,by go_num,_,by rw [HTK.out,List.map_append,HTV.out];rfl,HB9.out,HM9.out⟩
      case measure=>have:=HLK.out;simp [intOf];omega
  ·have hkl:k=gs.length:=by omega
   subst hkl
   have HTV2:Hid (tv.map Prod.snd=refParts G.parts gs (row,n)):=by
    show _=_
    rw [htv,List.take_of_length_le (by rw [refs_length];exact Nat.le_refl _)]
   have i1:¬(gs.length:Int) < (gs.length:Int):=by omega
   obtain ⟨⟨c0,c1,c2⟩,e0,e1,e2⟩:=(hbx.box 0 rfl).three
   obtain ⟨⟨d0,d1,d2⟩,g0,g1,g2⟩:=(hbx.box 2 rfl).three
   have hb8:=hbx.put 0 rfl 2 (by simp) (.slice A9 tv.length p9)
   have hg8:=cell_grown wr w.heap.size 2 (.slice A9 tv.length p9)
   have hm8:=hm.beside (v0:=cboxV w.heap.size) (fun u hu=>hu.off (Nat.le_refl _) (by omega)) (fun k hk e=>by
    simp only [Value.ownBlock,Option.some.injEq] at hk
    have:=(hm.lt k e).1
    omega) hg8
   have hb9:=hb8.put3 2 rfl (.slice Ak G.key.length pk) (.int .i64 nn) (.slice A9 tv.length p9)
   have hg9:=three_grown (wr.setCell ⟨w.heap.size,2,none⟩ (.slice A9 tv.length p9)) (w.heap.size+2) (.slice Ak G.key.length pk) (.int .i64 nn) (.slice A9 tv.length p9)
   have hm9:=hm8.beside (v0:=cboxV (w.heap.size+2)) (fun u hu=>hu.off (by omega) (by omega)) (fun k hk e=>by
    simp only [Value.ownBlock,Option.some.injEq] at hk
    have:=(hm8.lt k e).1
    omega) hg9
   have HIN:=Lib.hid ((hm9.in_ (.inr fun k hk=>(hm9.lt k hk).1)).mono (Q':=fun u=>Q u∨Fresh w.heap.size u) fun u hu=>hu.elim (fun h=>.inl h.1) fun h=>.inr (h.mono (by omega)))
   have HB9:=Lib.hid hb9
   clear hm hm8 hm9 hb8 hb9 hg8 hg9 HZ htv hbw hbx
   go_wp2
   obtain ⟨⟨f0,f1,f2⟩,-⟩:=(HB9.out.box 2 rfl).three
   refine ⟨rfl,.agg #[.slice Ak G.key.length pk,.int .i64 nn,.slice A9 tv.length p9],?_,?_⟩
   ·simp [results,Try.results10,go_sem,f0,f1,f2]
   ·rw [HNK.out,←HTV2.out]
    exact ⟨_,rfl,⟨_,_,rfl,⟨StrsIn.kept HKY.out HB9.out.below,.inl HQK.out⟩,HIN.out⟩,HB9.out.below⟩
end Go.Proofs.Ytjbpbfhgjldliaa
