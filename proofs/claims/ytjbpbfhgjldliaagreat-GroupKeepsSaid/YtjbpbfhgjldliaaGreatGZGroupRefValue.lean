/- The contract of the answer's Value of layer 20. -/
import Derived.Test.YtjbpbfhgjldliaaGreatGCell
import Derived.Test.YtjbpbfhgjldliaaGreatGZCalm
import Derived.Test.YtjbpbfhgjldliaaGreatGWideB
import Derived.Test.YtjbpbfhgjldliaaGreatGGroupKin
import Derived.Test.YtjbpbfhgjldliaaGreatGPairOn
import Derived.Test.YtjbpbfhgjldliaaGreatGGroupOwn
import Derived.Test.YtjbpbfhgjldliaaGreatGGroupEnds
namespace Go.Proofs.YtjbpbfhgjldliaaGreat
open Go Go.RowKit
def PickW (B:Nat)(row:List ByteArray)(col:Int):Value→World→Prop:=fun v w=>∃ u,v=.tuple #[u,.bool (pickOk row [col])]∧StrsIn w u (pickL row [col])∧Fresh B u
theorem PickW.kept {B:Nat}{row:List ByteArray}{col:Int}:∀ (v:Value)(w w':World),Below w.heap.size w w'→PickW B row col v w→PickW B row col v w':=fun v w w' hb h=>by
 obtain ⟨u,e,h1,h2⟩:=h
 exact ⟨u,e,StrsIn.kept h1 hb,h2⟩
theorem vtwo_grown (w:World)(b:Nat)(x y:Value):w.grownBy ((w.setCell ⟨b,0,none⟩ x).setCell ⟨b,1,none⟩ y) (some b):=setCells_grown b [x,y] 0 w
def vboxV (b:Nat):Value:=.slice (some ⟨b,0,none⟩) 1 1
theorem strs_first1 {w:World}{b o p:Nat}{d:ByteArray}(h:StrsIn w (.slice (some ⟨b,o,none⟩) 1 p) [d]):w.cell? ⟨b,o,none⟩=some (.string d):=by
 obtain ⟨A,c,e,hat⟩:=one_at h
 obtain ⟨b2,o2,ea,_,hc⟩:=hat 0 (by simp)
 injection e with e1 e2
 rw [ea] at e1
 injection e1 with e1
 injection e1 with e3 e4
 subst e3 e4
 exact hc 0 (by simp)
theorem vsum_toW (a b:Int):sumD (toW a) (toW b)=toW (a+b):=by
 unfold sumD
 obtain ⟨k,hk⟩:=val_toW a
 obtain ⟨j,hj⟩:=val_toW b
 rw [hk,hj]
 refine toW_same (k+j) ?_
 rw [Int.add_mul];omega
theorem vnum_calls (s:ByteArray):Gives Tryz.prog 36 #[.string s] (.tuple #[.int .i64 (numC s),.bool (isInt s)]):=by
 unfold numC
 cases h:isInt s with
 | true=>exact ref_num_yes s h
 | false=>exact ref_num_no s h
theorem vnum_in64 (s:ByteArray) : -9223372036854775808≤numOf s∧numOf s≤9223372036854775807:=by
 have hb (i:Nat):0≤byteI s i∧byteI s i < 256:=byte_range _
 have h1:=hb 1;have h2:=hb 2;have h3:=hb 3;have h4:=hb 4
 have h5:=hb 5;have h6:=hb 6;have h7:=hb 7;have h8:=hb 8
 unfold numOf offs
 omega
theorem vnumC_range (s:ByteArray) : -9223372036854775808≤numC s∧numC s≤9223372036854775807:=by
 unfold numC
 split
 ·exact vnum_in64 s
 ·omega
def OutV (way:Int)(t:Tal)(o:ByteArray):Prop:=(t.lo=eB→o=eB)∧(way=3→o=t.lo)∧(way=4→o=t.hi)
theorem OutV.start (way col:Int):OutV way (talL col []) eB:=⟨fun _=>rfl,fun _=>rfl,fun _=>rfl⟩
theorem outV_none {way:Int}{t:Tal}{o:ByteArray}{c:Int}(h:OutV way t o):OutV way (t.add ⟨c,numC eB*c,eB,eB⟩) o:=by
 unfold OutV Tal.add at *
 dsimp only at *
 rw [minT_e2,maxT_e2];exact h
theorem outV_first {way:Int}{t:Tal}{c:Int}{d:ByteArray}(h0:t.lo=eB)(h1:t.hi=eB)(_hd:d≠eB):OutV way (t.add ⟨c,numC d*c,d,d⟩) d:=by
 unfold OutV Tal.add
 dsimp only
 rw [h0,h1,minT_e,maxT_e]
 exact ⟨fun e=>e,fun _=>rfl,fun _=>rfl⟩
theorem vmin_cases {lo d:ByteArray}(h0:lo≠eB)(h:d≠eB):(Op.bytesLess d.toList lo.toList=true∧minT lo d=d)∨(Op.bytesLess d.toList lo.toList=false∧minT lo d=lo):=by
 unfold minT
 rw [if_neg h0,if_neg h]
 cases k:ltB d lo with
 | true=>exact .inl ⟨k,rfl⟩
 | false=>exact .inr ⟨k,rfl⟩
theorem vmax_cases (hi d:ByteArray):(Op.bytesLess d.toList hi.toList=false∧(d.toList==hi.toList)=false∧maxT hi d=d)∨(Op.bytesLess d.toList hi.toList=true∧maxT hi d=hi)∨(Op.bytesLess d.toList hi.toList=false∧(d.toList==hi.toList)=true∧maxT hi d=hi):=by
 unfold maxT
 rcases lt_three hi d with h|h|h
 ·subst h
  exact .inr (.inr ⟨bl_irrefl _,by simp,by rw [ltB_irrefl];rfl⟩)
 ·refine .inl ⟨ltB_asym h,?_,if_pos h⟩
  rcases str_ne_cases d hi with ⟨he,_⟩ | ⟨_,h3,_⟩
  ·exact absurd he (ltB_ne h).symm
  ·exact h3
 ·exact .inr (.inl ⟨h,by rw [ltB_asym h];rfl⟩)
theorem outV_more {way:Int}{t:Tal}{c:Int}{d o:ByteArray}(h0:t.lo≠eB)(h3:way=3→o=minT t.lo d)(h4:way=4→o=maxT t.hi d):OutV way (t.add ⟨c,numC d*c,d,d⟩) o:=by
 unfold OutV Tal.add
 dsimp only
 exact ⟨fun e=>absurd e (minT_ne h0),h3,h4⟩
def gotV (o:Option ByteArray):ByteArray:=match o with|some c=>c|none=>eB
def errV (o:Option ByteArray):Int:=match o with|some _=>0|none=>7
theorem numV_yes {z:Int}(h:fitsD (toW z)=true):numW z=some (cellInt (intD (toW z))):=if_pos h
theorem numV_no {z:Int}(h:¬fitsD (toW z)=true):numW z=none:=if_neg h
set_option maxHeartbeats 4000000 in
set_option maxRecDepth 100000 in
theorem rvalue_calls {w:World}{v:Value}{l:List Tm}(way col:Int)(h:TimesIn w v l)(hN:∀ x∈l,-9223372036854775808≤x.2∧x.2≤9223372036854775807):GivesAt Tryz.prog 22 #[v,.agg #[.int .i64 way,.int .i64 col]] w (.tuple #[.string (gotV (valP l (way,col))),.int .i64 (errV (valP l (way,col)))]):=by
 obtain ⟨tv,A,cap,rfl,_,hat⟩:=times_at h
 have HAT:=Lib.hid hat
 have HNN:=Lib.hid hN
 have HLEN:=Lib.hid h.len
 have hst:=(((Bxs.start w).lay 28 #[.int .i64 way,.int .i64 col]).lay 70 #[.int .i64 0,.int .u64 0]).lay 70 #[.int .i64 0,.int .u64 0]
 rw [show (w.alloc (.cells #[.int .i64 way,.int .i64 col] 28)).heap.size=w.heap.size+1 by simp,show ((w.alloc (.cells #[.int .i64 way,.int .i64 col] 28)).alloc (.cells #[.int .i64 0,.int .u64 0] 70)).heap.size=w.heap.size+2 by simp] at hst
 have HST:Hid (Bxs w (((w.alloc (.cells #[.int .i64 way,.int .i64 col] 28)).alloc (.cells #[.int .i64 0,.int .u64 0] 70)).alloc (.cells #[.int .i64 0,.int .u64 0] 70)) [(w.heap.size,[.int .i64 way,.int .i64 col]),(w.heap.size+1,[.int .i64 0,.int .u64 0]),(w.heap.size+2,[.int .i64 0,.int .u64 0])]):=hst
 clear h hat hN hst
 rw [show valP l (way,col)=valT (talL col l) way from rfl]
 obtain ⟨T,hT⟩:∃ T,talL col l=T:=⟨_,rfl⟩
 rw [hT]
 have HTT:=Lib.hid hT
 clear hT
 unfold GivesAt
 go_enter Tryz.func22,Tryz.ntmps22
 go_wp2
 generalize World.alloc (World.alloc (World.alloc w _) _) _=w1 at *
 go_loopw [7,8,10] (fun o sm i wr=>∃ k:Nat,k≤l.length∧i=.int .i64 k∧∃ ob:ByteArray,o=.string ob∧Hid (OutV way (talL col (l.take k)) ob)∧∃ s:Bool,sm=.bool s∧Hid (s=decide ((talL col (l.take k)).lo≠eB))∧Hid (Bxs w wr [(w.heap.size,[.int .i64 way,.int .i64 col]),(w.heap.size+1,[.int .i64 (toW (talL col (l.take k)).sum).1,.int .u64 (toW (talL col (l.take k)).sum).2]),(w.heap.size+2,[.int .i64 (toW (talL col (l.take k)).rows).1,.int .u64 (toW (talL col (l.take k)).rows).2])])) (fun _ _ i _=>l.length-(intOf i).toNat)
 case atStart=>exact ⟨0,Nat.zero_le _,rfl,_,rfl,Lib.hid (OutV.start way col),_,rfl,Lib.hid (by rw [List.take_zero];show false=decide (tal0.lo≠eB);decide),HST⟩
 case round =>
  obtain ⟨k,hk,rfl,ob,rfl,HO,sm,rfl,HSM,HG⟩:=hrel
  by_cases hlt:k < l.length
  ·have hbw:=HG.out.below
   obtain ⟨b,off,rfl,hbl,hc⟩:=HAT.out k hlt
   obtain ⟨rv,hs,_,c1,c2⟩:=hc k hlt
   have HZ1W:=Lib.hid (fun W (hW:Below w.heap.size w W)=>(hW.cell (p:=⟨b,off+k*2,none⟩) hbl).trans c1)
   have HZ2W:=Lib.hid (fun W (hW:Below w.heap.size w W)=>(hW.cell (p:=⟨b,off+k*2+1,none⟩) hbl).trans c2)
   have HZ2:=Lib.hid (HZ2W.out wr hbw)
   have HT0:=Lib.hid (talL_take col l k hlt)
   have HNK:=Lib.hid (HNN.out l[k] (List.getElem_mem hlt))
   have HTN:=Lib.hid (tal_none col (l.take k)).1.1
   have hml:=HLEN.out
   unfold maxLen at hml
   have i1:(k:Int) < (l.length:Int):=by omega
   have HLK:Hid (k < l.length):=hlt
   obtain ⟨Ar,pr,rfl⟩:∃ Ar pr,rv=.slice Ar l[k].1.length pr:=by obtain ⟨Ar,pr,e,_⟩:=one_at hs;exact ⟨Ar,pr,e⟩
   have HRW0:=Lib.hid hs
   clear hc c1 c2 hs hbw
   generalize l[k]=x at *
   obtain ⟨row,c⟩:=x
   generalize talL col (l.take k)=t at *
   obtain ⟨r0,s0,lo,hi⟩:=t
   have HT:Hid (∀ y,cellD row col=y→talL col (l.take (k+1))=(⟨r0,s0,lo,hi⟩:Tal).add ⟨c,numC y*c,y,y⟩):=fun y e=>by rw [HT0.out,←e];rfl
   have HOF:=Lib.hid (ref_wide_of_calls c HNK.out.1 HNK.out.2)
   have HSUM:=Lib.hid (ref_wide_sum_calls (toW_in r0) (toW_in c))
   rw [vsum_toW] at HSUM
   have HPE:Hid (wV (ofD c)=wV (toW c)):=Lib.hid rfl
   rw [HPE.out] at HOF
   clear HPE HT0
   unfold wV at HOF HSUM
   dsimp only at HG HNK HSM HTN
   obtain ⟨pp,hpp⟩:∃ pp,toW (r0+c)=pp:=⟨_,rfl⟩
   obtain ⟨rr,hrr⟩:∃ rr,toW r0=rr:=⟨_,rfl⟩
   obtain ⟨cc,hcc⟩:∃ cc,toW c=cc:=⟨_,rfl⟩
   obtain ⟨ss,hss⟩:∃ ss,toW s0=ss:=⟨_,rfl⟩
   rw [hpp,hrr,hcc] at HSUM
   rw [hcc] at HOF
   rw [hrr,hss] at HG
   have HPP:=Lib.hid hpp
   have HSS:=Lib.hid hss
   clear hpp hrr hcc hss
   obtain ⟨p1,p2⟩:=pp
   obtain ⟨r1,r2⟩:=rr
   obtain ⟨o1,o2⟩:=cc
   obtain ⟨s1,s2⟩:=ss
   dsimp only at *
   go_wp2_with fail
   refine wp_region_calm (offC wr) (fun k=>k==8) (fun _=>false) anyE true (by kernel_rfl) (by kernel_rfl) (by kernel_rfl) (by kernel_rfl) (by intro m hm;revert hm;simp;try omega) (offC_stable _) (offC_start _) ?_
   refine calm_fixA rfl rfl ?_
   apply Exists.intro
   refine ⟨fun a wz hc hk hf K hK=>?_,?_⟩
   ·have hb:Below wr.heap.size wr wz:=hc rfl
    have h9:=hk 9 (by kernel_rfl)
    clear hk hf hc
    obtain ⟨⟨n0,n1⟩,-⟩:=((HG.out.kept hb).box 2 rfl).two
    go_simp
    exact hK _ _ (Below.refl _ _) rfl
   refine calm_fixA rfl rfl ?_
   apply Exists.intro
   refine ⟨fun a wz hc hk hf K hK=>?_,?_⟩
   ·have h0:=hk 0 (by kernel_rfl)
    clear hk hf hc
    go_simp
    exact hK _ _ (Below.refl _ _) rfl
   refine calm_fixA rfl rfl ?_
   apply Exists.intro
   refine ⟨fun a wz hc hk hf K hK=>?_,?_⟩
   ·have h10:=hk 10 (by kernel_rfl)
    clear hk hf hc
    go_simp
    exact hK _ _ (Below.refl _ _) rfl
   refine calm_fixA rfl rfl ?_
   apply Exists.intro
   refine ⟨fun a wz hc hk hf K hK=>?_,?_⟩
   ·have h26:=held_isV hf 1 rfl (by kernel_rfl)
    have h27:=held_isV hf 0 rfl (by kernel_rfl)
    clear hk hf hc
    go_simp
    exact hK _ _ (Below.refl _ _) rfl
   refine calm_fixA rfl rfl ?_
   apply Exists.intro
   refine ⟨fun a wz hc hk hf K hK=>?_,?_⟩
   ·have h28:=held_isV hf 0 rfl (by kernel_rfl)
    clear hk hf hc
    go_simp
    exact hK _ _ (Below.refl _ _) rfl
   refine calm_fixA rfl rfl ?_
   apply Exists.intro
   refine ⟨fun a wz hc hk hf K hK=>?_,?_⟩
   ·have hb:Below wr.heap.size wr wz:=hc rfl
    have h29:=held_isV hf 0 rfl (by kernel_rfl)
    clear hk hf hc
    have z2:=cell_kept HZ2.out hb
    go_simp
    exact hK _ _ (Below.refl _ _) rfl
   refine calm_fixA rfl rfl ?_
   apply Exists.intro
   refine ⟨fun a wz hc hk hf K hK=>?_,?_⟩
   ·have hb:Below wr.heap.size wr wz:=hc rfl
    have h30:=held_isV hf 0 rfl (by kernel_rfl)
    clear hk hf hc
    go_simp
    refine Calls.mono (HOF.out wz) ?_
    rintro e w1 ⟨rfl,hq⟩
    exact hK _ _ hq rfl
   refine calm_fixA rfl rfl ?_
   apply Exists.intro
   refine ⟨fun a wz hc hk hf K hK=>?_,?_⟩
   ·have hb:Below wr.heap.size wr wz:=hc rfl
    have h25:=held_isV hf 6 rfl (by kernel_rfl)
    have h31:=held_isV hf 0 rfl (by kernel_rfl)
    clear hk hf hc
    go_simp
    refine Calls.mono (HSUM.out wz) ?_
    rintro e w1 ⟨rfl,hq⟩
    exact hK _ _ hq rfl
   refine calm_storeA (fun w0=>Bxs w w0 [(w.heap.size,[.int .i64 way,.int .i64 col]),(w.heap.size+1,[.int .i64 s1,.int .u64 s2]),(w.heap.size+2,[.int .i64 p1,.int .u64 p2])]) rfl (fun m h=>by simpa using h) (fun a wz hb hk hf K hK=>?_) ?_
   ·have h9:=hk 9 (by kernel_rfl)
    have h32:=held_isV hf 0 rfl (by kernel_rfl)
    clear hk hf
    obtain ⟨⟨n0,n1⟩,g0,g1⟩:=((HG.out.kept hb).box 2 rfl).two
    have HP:=Lib.hid ((HG.out.kept hb).put2 2 rfl (.int .i64 p1) (.int .u64 p2))
    go_simp
    exact hK undef _ HP.out
   refine calm_nil ?_
   refine ⟨keeps_one (m:=8) (fun k h=>by simpa using h) ⟨.inr (loose_isV _),.inr (loose_isV _),.inr (loose_isV _),.inr (loose_isV _),.inr (loose_isV _),.inr (loose_isV _),.inr (loose_isV _),.inr (loose_isV _),.inl rfl,trivial⟩,?_⟩
   intro w3 hc
   simp only [lexL,calmEnd]
   rintro _ rfl _ rfl _ rfl _ rfl _ rfl _ rfl _ rfl _ rfl _ hst8
   obtain ⟨wx,hx,hq⟩:=hst8 rfl
   have HG3:=Lib.hid (hx.kept hq)
   clear hst8 hx hq hc
   simp only [Act.put,List.setIfInBounds_toArray,List.set_cons_zero,List.set_cons_succ]
   clear HG HSUM HOF HZ2
   have HZ1:=Lib.hid (HZ1W.out w3 HG3.out.below)
   have HRW:=Lib.hid (StrsIn.kept HRW0.out HG3.out.below)
   go_wp2_with fail
   refine wp_region_calm (offC w3) (fun _=>false) (fun _=>false) anyE false (by kernel_rfl) (by kernel_rfl) (by kernel_rfl) (by kernel_rfl) (by intro m hm;revert hm;simp;try omega) (offC_stable _) (offC_start _) ?_
   refine calm_fixA rfl rfl ?_
   apply Exists.intro
   refine ⟨fun a wz hc hk hf K hK=>?_,?_⟩
   ·have h0:=hk 0 (by kernel_rfl)
    clear hk hf hc
    go_simp
    exact hK _ _ (Below.refl _ _) rfl
   refine calm_fixA rfl rfl ?_
   apply Exists.intro
   refine ⟨fun a wz hc hk hf K hK=>?_,?_⟩
   ·have h10:=hk 10 (by kernel_rfl)
    clear hk hf hc
    go_simp
    exact hK _ _ (Below.refl _ _) rfl
   refine calm_fixA rfl rfl ?_
   apply Exists.intro
   refine ⟨fun a wz hc hk hf K hK=>?_,?_⟩
   ·have h34:=held_isV hf 1 rfl (by kernel_rfl)
    have h35:=held_isV hf 0 rfl (by kernel_rfl)
    clear hk hf hc
    go_simp
    exact hK _ _ (Below.refl _ _) rfl
   refine calm_fixA rfl rfl ?_
   apply Exists.intro
   refine ⟨fun a wz hc hk hf K hK=>?_,?_⟩
   ·have h36:=held_isV hf 0 rfl (by kernel_rfl)
    clear hk hf hc
    go_simp
    exact hK _ _ (Below.refl _ _) rfl
   refine calm_fixA rfl rfl ?_
   apply Exists.intro
   refine ⟨fun a wz hc hk hf K hK=>?_,?_⟩
   ·have hb:Below w3.heap.size w3 wz:=hc rfl
    have h37:=held_isV hf 0 rfl (by kernel_rfl)
    clear hk hf hc
    have z1:=cell_kept HZ1.out hb
    go_simp
    exact hK _ _ (Below.refl _ _) rfl
   refine calm_fixA rfl rfl ?_
   apply Exists.intro
   refine ⟨fun a wz hc hk hf K hK=>?_,?_⟩
   ·have h3:=hk 3 (by kernel_rfl)
    clear hk hf hc
    go_simp
    exact hK _ _ (Below.refl _ _) rfl
   refine calm_fixA rfl rfl ?_
   apply Exists.intro
   refine ⟨fun a wz hc hk hf K hK=>?_,?_⟩
   ·have hb:Below w3.heap.size w3 wz:=hc rfl
    have h39:=held_isV hf 0 rfl (by kernel_rfl)
    clear hk hf hc
    obtain ⟨⟨a0,a1⟩,-⟩:=((HG3.out.kept hb).box 0 rfl).two
    go_simp
    exact hK _ _ (Below.refl _ _) rfl
   refine calm_varA (fun v w=>∃ A p,v=.slice A 1 p∧IntsIn w (.slice A 1 p) [col]) rfl rfl (fun _ _ _ hb h=>h.elim fun A h=>h.elim fun p h=>⟨A,p,h.1,IntsIn.kept h.2 hb⟩) (fun a wz hc hk hf K hK=>?_) ?_
   ·have hb:Below w3.heap.size w3 wz:=hc rfl
    have h40:=held_isV hf 0 rfl (by kernel_rfl)
    clear hk hf hc
    go_simp
    exact hK _ _ (Below.alloc (.refl _ _) (Nat.le_refl _) _) (fun _=>⟨_,_,rfl,lit_col _ _ _⟩)
   refine calm_varA (PickW w3.heap.size row col) rfl rfl PickW.kept (fun a wz hc hk hf K hK=>?_) ?_
   ·have hb:Below w3.heap.size w3 wz:=hc rfl
    have h38:=held_isV hf 3 rfl (by kernel_rfl)
    obtain ⟨v41,h41,S41⟩:=held_at hf 0 rfl (by kernel_rfl)
    clear hk hf hc
    obtain ⟨A8,p8,rfl,s8⟩:=S41 rfl
    go_simp
    refine Calls.mono (ref_shape_pick_new (StrsIn.kept HRW.out hb) s8 (by simp)) ?_
    intro e w1 he
    obtain ⟨v9,rfl,h1,hf,hq⟩:=he
    exact hK _ _ hq (fun _=>⟨v9,rfl,h1,hf.mono hb.size⟩)
   refine calm_varA (PickW w3.heap.size row col) rfl rfl PickW.kept (fun a wz hc hk hf K hK=>?_) ?_
   ·have hb:Below w3.heap.size w3 wz:=hc rfl
    obtain ⟨v42,h42,S42⟩:=held_at hf 0 rfl (by kernel_rfl)
    clear hk hf hc
    go_simp
    exact hK _ _ (Below.refl _ _) (fun _=>S42 rfl)
   refine calm_varA (fun v w=>StrsIn w v (pickL row [col])∧Fresh w3.heap.size v) rfl rfl (fun _ _ _ hb h=>⟨StrsIn.kept h.1 hb,h.2⟩) (fun a wz hc hk hf K hK=>?_) ?_
   ·have hb:Below w3.heap.size w3 wz:=hc rfl
    obtain ⟨v33,h33,S33⟩:=held_at hf 0 rfl (by kernel_rfl)
    clear hk hf hc
    obtain ⟨v9,rfl,h1⟩:=S33 rfl
    go_simp
    exact hK _ _ (Below.refl _ _) (fun _=>h1)
   refine calm_fixA rfl rfl ?_
   apply Exists.intro
   refine ⟨fun a wz hc hk hf K hK=>?_,?_⟩
   ·have hb:Below w3.heap.size w3 wz:=hc rfl
    obtain ⟨v33,h33,S33⟩:=held_at hf 1 rfl (by kernel_rfl)
    clear hk hf hc
    obtain ⟨v9,rfl,h1⟩:=S33 rfl
    go_simp
    exact hK _ _ (Below.refl _ _) rfl
   refine calm_varA (fun v w=>StrsIn w v (pickL row [col])∧Fresh w3.heap.size v) rfl rfl (fun _ _ _ hb h=>⟨StrsIn.kept h.1 hb,h.2⟩) (fun a wz hc hk hf K hK=>?_) ?_
   ·have hb:Below w3.heap.size w3 wz:=hc rfl
    obtain ⟨v43,h43,S43⟩:=held_at hf 1 rfl (by kernel_rfl)
    clear hk hf hc
    go_simp
    exact hK _ _ (Below.refl _ _) (fun _=>S43 rfl)
   refine calm_fixA rfl rfl ?_
   apply Exists.intro
   refine ⟨fun a wz hc hk hf K hK=>?_,?_⟩
   ·have h44:=held_isV hf 1 rfl (by kernel_rfl)
    clear hk hf hc
    go_simp
    exact hK _ _ (Below.refl _ _) rfl
   refine calm_nil ?_
   refine ⟨keeps_none,?_⟩
   intro w4 hc
   simp only [lexL,calmEnd]
   rintro _ rfl _ rfl _ rfl _ rfl _ rfl _ rfl _ rfl v41 S41 v42 S42 v33 S33 v43 S43 _ rfl v11 S11 _ rfl
   have hb4:Below w3.heap.size w3 w4:=hc rfl
   have hs4:=S11 rfl
   clear hc S41 S42 S33 S43 S11
   simp only [Act.put,List.setIfInBounds_toArray,List.set_cons_zero,List.set_cons_succ]
   have HG4:=Lib.hid (HG3.out.kept hb4)
   have HL3:Hid (w.heap.size+2 < w3.heap.size):=Lib.hid (HG3.out.box 2 rfl).lt
   have HS4:=Lib.hid hs4
   clear HG3 HZ1 HRW hs4 hb4 HZ1W HRW0
   have HSKIP:Hid (cellD row col=eB→Hid (OutV way (talL col (l.take (k+1))) ob)∧Hid (sm=decide ((talL col (l.take (k+1))).lo≠eB))∧Hid (Bxs w w4 [(w.heap.size,[.int .i64 way,.int .i64 col]),(w.heap.size+1,[.int .i64 (toW (talL col (l.take (k+1))).sum).1,.int .u64 (toW (talL col (l.take (k+1))).sum).2]),(w.heap.size+2,[.int .i64 (toW (talL col (l.take (k+1))).rows).1,.int .u64 (toW (talL col (l.take (k+1))).rows).2])])):=fun e=>by
    have e1:=HT.out eB e
    have e2:=outV_none (c:=c) HO.out
    have e3:((⟨r0,s0,lo,hi⟩:Tal).add ⟨c,numC eB*c,eB,eB⟩)=⟨r0+c,s0,lo,hi⟩:=by
     unfold Tal.add
     rw [minT_e2,maxT_e2,numC_eB,Int.zero_mul,Int.add_zero]
    rw [e1]
    refine ⟨Lib.hid e2,?_,?_⟩
    ·rw [e3];exact HSM
    ·rw [e3]
     dsimp only
     rw [HPP.out,HSS.out];exact HG4
   obtain ⟨ok,hok⟩:∃ ok,pickOk row [col]=ok:=⟨_,rfl⟩
   rw [hok]
   cases ok
   ·obtain ⟨HN1,HN2,HN3⟩:=HSKIP.out (gpick_no hok)
    clear hok HSKIP HT HS4 HO HSM
    go_wp2
    go_roundw
    case rel=>exact ⟨k+1,HLK.out,by go_num,_,rfl,HN1,_,rfl,HN2,HN3⟩
    case measure=>have:=HLK.out;simp [intOf];omega
   ·have hs6:=HS4.out.1
    have hfr:=HS4.out.2
    rw [show pickL row [col]=[cellD row col] by unfold pickL;rw [if_pos hok];exact gpick_ok hok] at hs6
    obtain ⟨Av,pv,rfl,hv6⟩:=one_at hs6
    obtain ⟨bv,ov,rfl,hvl,hvc⟩:=hv6 0 (by simp)
    have y0:w4.cell? ⟨bv,ov,none⟩=some (.string (cellD row col)):=hvc 0 (by simp)
    have HOFF:Hid (RowOff (vboxV (w.heap.size+1)) (.slice (some ⟨bv,ov,none⟩) 1 pv)):=Lib.hid (RowOff.of_fresh hfr fun k hk=>by
     simp only [Value.ownBlock,vboxV,Option.some.injEq] at hk
     have:=HL3.out
     omega)
    have HS6:Hid (StrsIn w4 (.slice (some ⟨bv,ov,none⟩) 1 pv) [cellD row col]):=Lib.hid hs6
    clear hs6 hv6 hvl hvc HS4 hok hfr
    obtain ⟨d,hd⟩:∃ d,cellD row col=d:=⟨_,rfl⟩
    rw [hd] at HT HSKIP y0 HS6
    clear hd
    by_cases he:d=⟨#[]⟩
    ·obtain ⟨HN1,HN2,HN3⟩:=HSKIP.out he
     subst he
     clear HSKIP HT HO HSM
     go_wp2
     go_roundw
     case rel=>exact ⟨k+1,HLK.out,by go_num,_,rfl,HN1,_,rfl,HN2,HN3⟩
     case measure=>have:=HLK.out;simp [intOf];omega
    ·have e0:=text_some he
     have HDE:Hid (d≠eB):=Lib.hid he
     have HTD:=Lib.hid (HT.out d rfl)
     have HNR:=Lib.hid (vnumC_range d)
     have HPR:=Lib.hid (ref_wide_product_calls HNR.out.1 HNR.out.2 HNK.out.1 HNK.out.2)
     have HSUM2:=Lib.hid (ref_wide_sum_calls (toW_in s0) (toW_in (numC d*c)))
     rw [vsum_toW,HSS.out] at HSUM2
     have HPE:Hid (wV (prodD (numC d) c)=wV (toW (numC d*c))):=Lib.hid rfl
     rw [HPE.out] at HPR
     have HNUM:=Lib.hid (vnum_calls d w4)
     clear HPE HSKIP HT he
     unfold wV at HPR HSUM2
     obtain ⟨qq,hqq⟩:∃ qq,toW (s0+numC d*c)=qq:=⟨_,rfl⟩
     rw [hqq] at HSUM2
     have HQQ:=Lib.hid hqq
     clear hqq
     have HBN:Hid (∀ W,Bxs w W [(w.heap.size,[.int .i64 way,.int .i64 col]),(w.heap.size+1,[.int .i64 qq.1,.int .u64 qq.2]),(w.heap.size+2,[.int .i64 p1,.int .u64 p2])]→Bxs w W [(w.heap.size,[.int .i64 way,.int .i64 col]),(w.heap.size+1,[.int .i64 (toW (talL col (l.take (k+1))).sum).1,.int .u64 (toW (talL col (l.take (k+1))).sum).2]),(w.heap.size+2,[.int .i64 (toW (talL col (l.take (k+1))).rows).1,.int .u64 (toW (talL col (l.take (k+1))).rows).2])]):=fun W h=>by
      rw [HTD.out]
      unfold Tal.add
      dsimp only
      rw [HPP.out,HQQ.out];exact h
     have HLN:Hid (true=decide ((talL col (l.take (k+1))).lo≠eB)):=Lib.hid (by
      rw [HTD.out]
      symm
      rw [decide_eq_true_eq]
      show minT lo d≠eB
      exact fun e=>HDE.out (min_eB.1 e).2)
     have HFI:Hid (lo=eB→OutV way (talL col (l.take (k+1))) d):=fun e=>by rw [HTD.out];exact outV_first e (HTN.out e) HDE.out
     have HMO:Hid (∀ o,lo≠eB→(way=3→o=minT lo d)→(way=4→o=maxT hi d)→OutV way (talL col (l.take (k+1))) o):=fun o h0 h3 h4=>by rw [HTD.out];exact outV_more h0 h3 h4
     obtain ⟨dd,hdd⟩:∃ dd,toW (numC d*c)=dd:=⟨_,rfl⟩
     rw [hdd] at HPR HSUM2
     clear hdd
     generalize numC d=nd at *
     generalize isInt d=bd at *
     obtain ⟨q1,q2⟩:=qq
     obtain ⟨d1,d2⟩:=dd
     dsimp only at *
     go_wp2_with fail
     refine Calls.mono HNUM.out ?_
     rintro e w5 ⟨rfl,hq⟩
     have HG5:=Lib.hid (HG4.out.kept hq)
     have HZ5:=Lib.hid (HZ2W.out w5 HG5.out.below)
     have HS5:=Lib.hid (StrsIn.kept HS6.out hq)
     clear hq HNUM HG4 y0 HZ2W HS6
     go_wp2_with fail
     refine wp_region_calm (offC w5) (fun k=>k==9) (fun _=>false) anyE true (by kernel_rfl) (by kernel_rfl) (by kernel_rfl) (by kernel_rfl) (by intro m hm;revert hm;simp;try omega) (offC_stable _) (offC_start _) ?_
     refine calm_fixA rfl rfl ?_
     apply Exists.intro
     refine ⟨fun a wz hc hk hf K hK=>?_,?_⟩
     ·have hb:Below w5.heap.size w5 wz:=hc rfl
      have h6:=hk 6 (by kernel_rfl)
      clear hk hf hc
      obtain ⟨⟨n0,n1⟩,-⟩:=((HG5.out.kept hb).box 1 rfl).two
      go_simp
      exact hK _ _ (Below.refl _ _) rfl
     refine calm_fixA rfl rfl ?_
     apply Exists.intro
     refine ⟨fun a wz hc hk hf K hK=>?_,?_⟩
     ·have h13:=hk 13 (by kernel_rfl)
      clear hk hf hc
      go_simp
      exact hK _ _ (Below.refl _ _) rfl
     refine calm_fixA rfl rfl ?_
     apply Exists.intro
     refine ⟨fun a wz hc hk hf K hK=>?_,?_⟩
     ·have h0:=hk 0 (by kernel_rfl)
      clear hk hf hc
      go_simp
      exact hK _ _ (Below.refl _ _) rfl
     refine calm_fixA rfl rfl ?_
     apply Exists.intro
     refine ⟨fun a wz hc hk hf K hK=>?_,?_⟩
     ·have h10:=hk 10 (by kernel_rfl)
      clear hk hf hc
      go_simp
      exact hK _ _ (Below.refl _ _) rfl
     refine calm_fixA rfl rfl ?_
     apply Exists.intro
     refine ⟨fun a wz hc hk hf K hK=>?_,?_⟩
     ·have h62:=held_isV hf 1 rfl (by kernel_rfl)
      have h63:=held_isV hf 0 rfl (by kernel_rfl)
      clear hk hf hc
      go_simp
      exact hK _ _ (Below.refl _ _) rfl
     refine calm_fixA rfl rfl ?_
     apply Exists.intro
     refine ⟨fun a wz hc hk hf K hK=>?_,?_⟩
     ·have h64:=held_isV hf 0 rfl (by kernel_rfl)
      clear hk hf hc
      go_simp
      exact hK _ _ (Below.refl _ _) rfl
     refine calm_fixA rfl rfl ?_
     apply Exists.intro
     refine ⟨fun a wz hc hk hf K hK=>?_,?_⟩
     ·have hb:Below w5.heap.size w5 wz:=hc rfl
      have h65:=held_isV hf 0 rfl (by kernel_rfl)
      clear hk hf hc
      have z2:=cell_kept HZ5.out hb
      go_simp
      exact hK _ _ (Below.refl _ _) rfl
     refine calm_fixA rfl rfl ?_
     apply Exists.intro
     refine ⟨fun a wz hc hk hf K hK=>?_,?_⟩
     ·have hb:Below w5.heap.size w5 wz:=hc rfl
      have h61:=held_isV hf 5 rfl (by kernel_rfl)
      have h66:=held_isV hf 0 rfl (by kernel_rfl)
      clear hk hf hc
      go_simp
      refine Calls.mono (HPR.out wz) ?_
      rintro e w1 ⟨rfl,hq⟩
      exact hK _ _ hq rfl
     refine calm_fixA rfl rfl ?_
     apply Exists.intro
     refine ⟨fun a wz hc hk hf K hK=>?_,?_⟩
     ·have hb:Below w5.heap.size w5 wz:=hc rfl
      have h60:=held_isV hf 7 rfl (by kernel_rfl)
      have h67:=held_isV hf 0 rfl (by kernel_rfl)
      clear hk hf hc
      go_simp
      refine Calls.mono (HSUM2.out wz) ?_
      rintro e w1 ⟨rfl,hq⟩
      exact hK _ _ hq rfl
     refine calm_storeA (fun w0=>Bxs w w0 [(w.heap.size,[.int .i64 way,.int .i64 col]),(w.heap.size+1,[.int .i64 q1,.int .u64 q2]),(w.heap.size+2,[.int .i64 p1,.int .u64 p2])]∧StrsIn w0 (.slice (some ⟨bv,ov,none⟩) 1 pv) [d]) rfl (fun m h=>by simpa using h) (fun a wz hb hk hf K hK=>?_) ?_
     ·have h6:=hk 6 (by kernel_rfl)
      have h68:=held_isV hf 0 rfl (by kernel_rfl)
      clear hk hf
      have HS9:=Lib.hid (StrsIn.off (v:=vboxV (w.heap.size+1)) (StrsIn.kept HS5.out hb) HOFF.out (vtwo_grown wz (w.heap.size+1) (.int .i64 q1) (.int .u64 q2)))
      obtain ⟨⟨n0,n1⟩,g0,g1⟩:=((HG5.out.kept hb).box 1 rfl).two
      have HP:=Lib.hid ((HG5.out.kept hb).put2 1 rfl (.int .i64 q1) (.int .u64 q2))
      go_simp
      exact hK undef _ ⟨HP.out,HS9.out⟩
     refine calm_nil ?_
     refine ⟨keeps_one (m:=9) (fun k h=>by simpa using h) ⟨.inr (loose_isV _),.inr (loose_isV _),.inr (loose_isV _),.inr (loose_isV _),.inr (loose_isV _),.inr (loose_isV _),.inr (loose_isV _),.inr (loose_isV _),.inr (loose_isV _),.inl rfl,trivial⟩,?_⟩
     intro w6 hc
     simp only [lexL,calmEnd]
     rintro _ rfl _ rfl _ rfl _ rfl _ rfl _ rfl _ rfl _ rfl _ rfl _ hst9
     obtain ⟨wx,⟨hx,hx2⟩,hq⟩:=hst9 rfl
     have HG6:=Lib.hid (hx.kept hq)
     have y0:=strs_first1 (StrsIn.kept hx2 hq)
     clear hst9 hx hx2 hq hc
     simp only [Act.put,List.setIfInBounds_toArray,List.set_cons_zero,List.set_cons_succ]
     clear HG5 HSUM2 HPR HZ5 HS5 HOFF
     obtain ⟨⟨a0,a1⟩,-⟩:=(HG6.out.box 0 rfl).two
     have HG7:=Lib.hid (HBN.out w6 HG6.out)
     clear HBN
     cases sm
     ·have hlo:lo=eB:=by
       have:=HSM.out
       simpa using this
      have HLO:=Lib.hid hlo
      clear hlo
      have HN1:Hid (OutV way (talL col (l.take (k+1))) d):=Lib.hid (HFI.out HLO.out)
      clear HFI HMO HDE HO HSM HTD
      clear HLO
      go_wp2
      go_roundw
      case rel=>exact ⟨k+1,HLK.out,by go_num,_,rfl,HN1,_,rfl,HLN,HG7⟩
      case measure=>have:=HLK.out;simp [intOf];omega
     ·have hlo:lo≠eB:=of_decide_eq_true HSM.out.symm
      have HLO:=Lib.hid hlo
      clear hlo
      by_cases h3:way=3
      ·subst h3
       have HOL:Hid (ob=lo):=Lib.hid (HO.out.2.1 rfl)
       rcases vmin_cases HLO.out HDE.out with ⟨hm,em⟩ | ⟨hm,em⟩
       ·rw [←HOL.out] at hm
        have EM:=Lib.hid em
        clear em
        have HN1:Hid (OutV 3 (talL col (l.take (k+1))) d):=Lib.hid (HMO.out d HLO.out (fun _=>EM.out.symm) (fun e=>absurd e (by decide)))
        clear HFI HMO HDE HO HSM HTD
        clear HLO HOL EM
        go_wp2
        go_roundw
        case rel=>exact ⟨k+1,HLK.out,by go_num,_,rfl,HN1,_,rfl,HLN,HG7⟩
        case measure=>have:=HLK.out;simp [intOf];omega
       ·rw [←HOL.out] at hm
        have EM:=Lib.hid em
        clear em
        have HN1:Hid (OutV 3 (talL col (l.take (k+1))) ob):=Lib.hid (HMO.out ob HLO.out (fun _=>HOL.out.trans EM.out.symm) (fun e=>absurd e (by decide)))
        clear HFI HMO HDE HO HSM HTD
        clear HLO HOL EM
        go_wp2
        go_roundw
        case rel=>exact ⟨k+1,HLK.out,by go_num,_,rfl,HN1,_,rfl,HLN,HG7⟩
        case measure=>have:=HLK.out;simp [intOf];omega
      ·by_cases h4:way=4
       ·subst h4
        have HOL:Hid (ob=hi):=Lib.hid (HO.out.2.2 rfl)
        clear h3
        rcases vmax_cases hi d with ⟨hm,hm2,em⟩ | ⟨hm,em⟩ | ⟨hm,hm2,em⟩
        ·rw [←HOL.out] at hm hm2
         have EM:=Lib.hid em
         clear em
         have HN1:Hid (OutV 4 (talL col (l.take (k+1))) d):=Lib.hid (HMO.out d HLO.out (fun e=>absurd e (by decide)) (fun _=>EM.out.symm))
         clear HFI HMO HDE HO HSM HTD
         clear HLO HOL EM
         go_wp2
         go_roundw
         case rel=>exact ⟨k+1,HLK.out,by go_num,_,rfl,HN1,_,rfl,HLN,HG7⟩
         case measure=>have:=HLK.out;simp [intOf];omega
        ·rw [←HOL.out] at hm
         have EM:=Lib.hid em
         clear em
         have HN1:Hid (OutV 4 (talL col (l.take (k+1))) ob):=Lib.hid (HMO.out ob HLO.out (fun e=>absurd e (by decide)) (fun _=>HOL.out.trans EM.out.symm))
         clear HFI HMO HDE HO HSM HTD
         clear HLO HOL EM
         go_wp2
         go_roundw
         case rel=>exact ⟨k+1,HLK.out,by go_num,_,rfl,HN1,_,rfl,HLN,HG7⟩
         case measure=>have:=HLK.out;simp [intOf];omega
        ·rw [←HOL.out] at hm hm2
         have EM:=Lib.hid em
         clear em
         have HN1:Hid (OutV 4 (talL col (l.take (k+1))) ob):=Lib.hid (HMO.out ob HLO.out (fun e=>absurd e (by decide)) (fun _=>HOL.out.trans EM.out.symm))
         clear HFI HMO HDE HO HSM HTD
         clear HLO HOL EM
         go_wp2
         go_roundw
         case rel=>exact ⟨k+1,HLK.out,by go_num,_,rfl,HN1,_,rfl,HLN,HG7⟩
         case measure=>have:=HLK.out;simp [intOf];omega
       ·have g3:(way==3)=false:=by rw [beq_eq_false_iff_ne];exact h3
        have g4:(way==4)=false:=by rw [beq_eq_false_iff_ne];exact h4
        have H34:Hid (way≠3∧way≠4):=Lib.hid ⟨h3,h4⟩
        clear h3 h4
        have HN1:Hid (OutV way (talL col (l.take (k+1))) ob):=Lib.hid (HMO.out ob HLO.out (fun e=>absurd e H34.out.1) (fun e=>absurd e H34.out.2))
        clear HFI HMO HDE HO HSM HTD
        clear HLO H34
        go_wp2
        go_roundw
        case rel=>exact ⟨k+1,HLK.out,by go_num,_,rfl,HN1,_,rfl,HLN,HG7⟩
        case measure=>have:=HLK.out;simp [intOf];omega
  ·obtain rfl:k=l.length:=by omega
   rw [List.take_length] at HO HSM HG
   have HTN:=Lib.hid (tal_none col l)
   rw [HTT.out] at HO HSM HG HTN
   have HBE:=Lib.hid HG.out.below
   obtain ⟨⟨a0,a1⟩,-⟩:=(HG.out.box 0 rfl).two
   obtain ⟨⟨u0,u1⟩,f0,f1⟩:=(HG.out.box 1 rfl).two
   obtain ⟨⟨n0,n1⟩,-⟩:=(HG.out.box 2 rfl).two
   have i1:¬(l.length:Int) < (l.length:Int):=by omega
   by_cases h1:way=1
   ·subst h1
    have HV:Hid (valT T 1=numW T.rows):=Lib.hid (if_pos rfl)
    cases hf:fitsD (toW T.rows) with
    | true =>
     have he:errD (toW T.rows)=0:=by unfold errD;rw [hf];rfl
     have hi : -9223372036854775808≤intD (toW T.rows)∧intD (toW T.rows)≤9223372036854775807:=by
      unfold intD
      rw [hf]
      unfold fitsD at hf
      rw [Bool.and_eq_true,decide_eq_true_eq,decide_eq_true_eq] at hf
      exact hf
     have HI:=Lib.hid (ref_int_calls _ hi.1 hi.2)
     have HV2:Hid (valT T 1=some (cellInt (intD (toW T.rows)))):=Lib.hid (HV.out.trans (numV_yes hf))
     clear hi
     have HC:=Lib.hid (ref_wide_int_calls (toW_in T.rows))
     rw [he] at HC
     unfold wV at HC
     clear he hf HV HTN HO HSM
     generalize intD (toW T.rows)=zi at *
     have HBP:=Lib.hid (HG.out.put2 1 rfl (.int .i64 (toW T.rows).1) (.int .u64 (toW T.rows).2))
     clear HG
     generalize toW T.rows=zz at *
     generalize toW T.sum=ss at *
     obtain ⟨z1,z2⟩:=zz
     obtain ⟨s1,s2⟩:=ss
     dsimp only at *
     go_wp2_with fail
     refine Calls.mono (HC.out _) ?_
     rintro e w8 ⟨rfl,hq⟩
     have HB8:=Lib.hid (HBP.out.below.trans (hq.mono HBP.out.below.size))
     clear hq
     go_wp2_with fail
     refine Calls.mono (HI.out w8) ?_
     rintro e w9 ⟨rfl,hq⟩
     have HB9:=Lib.hid (HB8.out.trans (hq.mono HB8.out.size))
     clear hq
     go_wp2
     go_ret2
     exact ⟨by rw [HV2.out];rfl,HB9.out⟩
    | false =>
     have he:errD (toW T.rows)=7:=by unfold errD;rw [hf];rfl
     have HV2:Hid (valT T 1=none):=Lib.hid (HV.out.trans (numV_no (by rw [hf];decide)))
     have HC:=Lib.hid (ref_wide_int_calls (toW_in T.rows))
     rw [he] at HC
     unfold wV at HC
     clear he hf HV HTN HO HSM
     generalize intD (toW T.rows)=zi at *
     have HBP:=Lib.hid (HG.out.put2 1 rfl (.int .i64 (toW T.rows).1) (.int .u64 (toW T.rows).2))
     clear HG
     generalize toW T.rows=zz at *
     generalize toW T.sum=ss at *
     obtain ⟨z1,z2⟩:=zz
     obtain ⟨s1,s2⟩:=ss
     dsimp only at *
     go_wp2_with fail
     refine Calls.mono (HC.out _) ?_
     rintro e w8 ⟨rfl,hq⟩
     have HB8:=Lib.hid (HBP.out.below.trans (hq.mono HBP.out.below.size))
     clear hq
     go_wp2
     go_ret2
     exact ⟨by rw [HV2.out];rfl,HB8.out⟩
   ·have g1:(way==1)=false:=by rw [beq_eq_false_iff_ne];exact h1
    have H1:=Lib.hid h1
    clear h1
    cases sm
    ·have hlo:T.lo=eB:=by
      have:=HSM.out
      simpa using this
     have HLO:=Lib.hid hlo
     clear hlo
     have HV:Hid (valT T way=some ob):=Lib.hid (by rw [HO.out.1 HLO.out];unfold valT;rw [if_neg H1.out,if_pos HLO.out])
     clear HO HSM HTN HG
     go_wp2
     go_ret2
     exact ⟨by rw [HV.out];rfl,HBE.out⟩
    ·have hlo:T.lo≠eB:=of_decide_eq_true HSM.out.symm
     have HLO:=Lib.hid hlo
     clear hlo
     by_cases h3:way=3
     ·subst h3
      have HV:Hid (valT T 3=some ob):=Lib.hid (by rw [HO.out.2.1 rfl];unfold valT;rw [if_neg H1.out,if_neg HLO.out,if_pos rfl])
      clear HO HSM HTN HG
      go_wp2
      go_ret2
      exact ⟨by rw [HV.out];rfl,HBE.out⟩
     ·have g3:(way==3)=false:=by rw [beq_eq_false_iff_ne];exact h3
      have H3:=Lib.hid h3
      clear h3
      by_cases h4:way=4
      ·subst h4
       have HV:Hid (valT T 4=some ob):=Lib.hid (by rw [HO.out.2.2 rfl];unfold valT;rw [if_neg H1.out,if_neg HLO.out,if_neg H3.out,if_pos rfl])
       clear HO HSM HTN HG
       go_wp2
       go_ret2
       exact ⟨by rw [HV.out];rfl,HBE.out⟩
      ·have g4:(way==4)=false:=by rw [beq_eq_false_iff_ne];exact h4
       have HV:Hid (valT T way=numW T.sum):=Lib.hid (by unfold valT;rw [if_neg H1.out,if_neg HLO.out,if_neg H3.out,if_neg h4])
       clear h4
       cases hf:fitsD (toW T.sum) with
       | true =>
        have he:errD (toW T.sum)=0:=by unfold errD;rw [hf];rfl
        have hi : -9223372036854775808≤intD (toW T.sum)∧intD (toW T.sum)≤9223372036854775807:=by
         unfold intD
         rw [hf]
         unfold fitsD at hf
         rw [Bool.and_eq_true,decide_eq_true_eq,decide_eq_true_eq] at hf
         exact hf
        have HI:=Lib.hid (ref_int_calls _ hi.1 hi.2)
        have HV2:Hid (valT T way=some (cellInt (intD (toW T.sum)))):=Lib.hid (HV.out.trans (numV_yes hf))
        clear hi
        have HC:=Lib.hid (ref_wide_int_calls (toW_in T.sum))
        rw [he] at HC
        unfold wV at HC
        clear he hf HV HTN HO HSM
        generalize intD (toW T.sum)=zi at *
        clear HG
        generalize toW T.rows=zz at *
        generalize toW T.sum=ss at *
        obtain ⟨z1,z2⟩:=zz
        obtain ⟨s1,s2⟩:=ss
        dsimp only at *
        go_wp2_with fail
        refine Calls.mono (HC.out _) ?_
        rintro e w8 ⟨rfl,hq⟩
        have HB8:=Lib.hid (HBE.out.trans (hq.mono HBE.out.size))
        clear hq
        go_wp2_with fail
        refine Calls.mono (HI.out w8) ?_
        rintro e w9 ⟨rfl,hq⟩
        have HB9:=Lib.hid (HB8.out.trans (hq.mono HB8.out.size))
        clear hq
        go_wp2
        go_ret2
        exact ⟨by rw [HV2.out];rfl,HB9.out⟩
       | false =>
        have he:errD (toW T.sum)=7:=by unfold errD;rw [hf];rfl
        have HV2:Hid (valT T way=none):=Lib.hid (HV.out.trans (numV_no (by rw [hf];decide)))
        have HC:=Lib.hid (ref_wide_int_calls (toW_in T.sum))
        rw [he] at HC
        unfold wV at HC
        clear he hf HV HTN HO HSM
        generalize intD (toW T.sum)=zi at *
        clear HG
        generalize toW T.rows=zz at *
        generalize toW T.sum=ss at *
        obtain ⟨z1,z2⟩:=zz
        obtain ⟨s1,s2⟩:=ss
        dsimp only at *
        go_wp2_with fail
        refine Calls.mono (HC.out _) ?_
        rintro e w8 ⟨rfl,hq⟩
        have HB8:=Lib.hid (HBE.out.trans (hq.mono HBE.out.size))
        clear hq
        go_wp2
        go_ret2
        exact ⟨by rw [HV2.out];rfl,HB8.out⟩
end Go.Proofs.YtjbpbfhgjldliaaGreat
