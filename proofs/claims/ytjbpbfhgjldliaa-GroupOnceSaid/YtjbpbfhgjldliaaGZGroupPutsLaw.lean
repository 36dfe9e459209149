/- The law GroupPuts of layer 21. -/
import Derived.Test.YtjbpbfhgjldliaaGCalmM
import Derived.Test.YtjbpbfhgjldliaaGGroupOwn
import Derived.Test.YtjbpbfhgjldliaaGGroupAwake
import Derived.Test.YtjbpbfhgjldliaaGGroupEnds
import Derived.Test.YtjbpbfhgjldliaaGGroupRefP
namespace Go.Proofs.Ytjbpbfhgjldliaa
open Go Go.RowKit
def GBox (Q:Value→Prop)(w:World)(b:Nat)(G:GroupP):Prop:=∃ kv pv,CBox w b [kv,.int .i64 G.n,pv]∧groupK.R Q w (kv,pv,G)
theorem GBox.kept {Q:Value→Prop}{w w':World}{b:Nat}{G:GroupP}(h:GBox Q w b G)(hb:Below w.heap.size w w'):GBox Q w' b G:=by
 obtain ⟨kv,pv,h1,h2⟩:=h
 exact ⟨kv,pv,h1.kept hb,groupK.kept h2 hb⟩
theorem GBox.other {Q:Value→Prop}{w w':World}{b c:Nat}{G:GroupP}(h:GBox Q w b G)(hq:∀ u,Q u→RowOff (cboxV c) u)(hg:w.grownBy w' (some c))(hne:c≠b):GBox Q w' b G:=by
 obtain ⟨kv,pv,h1,h2⟩:=h
 exact ⟨kv,pv,h1.other hg (fun e=>hne (Option.some.inj e)),groupK.off (v:=cboxV c) h2 hq hg⟩
theorem GBox.open_ {Q:Value→Prop}{w:World}{b:Nat}{G:GroupP}(h:GBox Q w b G):∃ A p A2 p2,CBox w b [.slice A G.key.length p,.int .i64 G.n,.slice A2 G.parts.length p2]∧groupK.R Q w (.slice A G.key.length p,.slice A2 G.parts.length p2,G):=by
 obtain ⟨kv,pv,h1,h2⟩:=h
 obtain ⟨A,p,A2,p2,rfl,rfl,_⟩:=group_open h2
 exact ⟨A,p,A2,p2,h1,h2⟩
theorem three_grownP (w:World)(b:Nat)(x y z:Value):w.grownBy (((w.setCell ⟨b,0,none⟩ x).setCell ⟨b,1,none⟩ y).setCell ⟨b,2,none⟩ z) (some b):=setCells_grown b [x,y,z] 0 w
theorem GBox.store {Q:Value→Prop}{w:World}{b:Nat}{a c d:Value}{G:GroupP}{kv pv:Value}(h:CBox w b [a,c,d])(hr:groupK.R Q w (kv,pv,G))(hq:∀ u,Q u→RowOff (cboxV b) u):GBox Q (((w.setCell ⟨b,0,none⟩ kv).setCell ⟨b,1,none⟩ (.int .i64 G.n)).setCell ⟨b,2,none⟩ pv) b G :=
 ⟨kv,pv,h.three_put,groupK.off (v:=cboxV b) hr hq (three_grownP w b kv (.int .i64 G.n) pv)⟩
def twoG (b c:Nat)(u:Value):Prop:=RowOff (cboxV b) u∧RowOff (cboxV c) u
theorem twoG_fresh {b c B:Nat}{u:Value}(h:Fresh B u)(hb:b < B)(hc:c < B):twoG b c u:=⟨RowOff.of_fresh h fun k hk=>by
 simp only [Value.ownBlock,Option.some.injEq] at hk
 omega,RowOff.of_fresh h fun k hk=>by
 simp only [Value.ownBlock,Option.some.injEq] at hk
 omega⟩
theorem twoG_nil (b c:Nat)(A:Option Addr)(p:Nat):twoG b c (.slice A 0 p):=⟨fun A n c k e h0 _=>by cases e;omega,fun A n c k e h0 _=>by cases e;omega⟩
theorem isG_fit {gs:List (Int×Int)}{l:List Tm}{G:GroupP}(h:IsG gs l G)(hk:G.key.length≤4)(hl:l.length≤100000)(hw:wtW l≤1152921504606846976):FitG G:=by
 rcases h with h | ⟨_,h1,h2⟩
 ·rw [h];exact fit_grp _ gs (by omega) hl hw
 ·refine ⟨by rw [h1];decide,by omega,fun p hp=>?_⟩
  rw [h2] at hp
  exact absurd hp (by simp)
theorem isG_next {gs:List (Int×Int)}{l:List Tm}{G:GroupP}{k:Nat}(h:IsG gs (l.take k) G)(hk:k < l.length):withG G gs [l[k]]=grpL G.key gs (l.take (k+1)):=by
 rw [with_is h,take_add l k hk]
set_option maxHeartbeats 16000000 in
set_option maxRecDepth 100000 in
theorem groupPuts_calls {w:World}{vk vg vl:Value}{sk:List ByteArray}{ng:List (Int×Int)}{ll:List Tm}(hk:StrsIn w vk sk)(hg:OnIn w vg ng)(hl:TimesIn w vl ll):GivesAt Try.prog 3 #[vk,vg,vl] w (.bool true):=by
 have HAW:=Lib.hid awake21_calls
 have HTK:=Lib.hid hk
 obtain ⟨Ak,ck,rfl,_⟩:=one_at hk
 have HWG:Hid (∀ W,Below w.heap.size w W→GivesAt Try.prog 6 #[vg] W (.bool (ways21 ng))):=fun W hW=>(ways21_calls (hg.kept hW)).gives
 have HKG:=Lib.hid fun (h:ways21 ng=true)=>way21_ok h
 have HOG:=Lib.hid hg
 obtain ⟨Ag,cg,rfl⟩:=hg.slice
 have HSL:Hid (∀ W,Below w.heap.size w W→GivesAt Try.prog 7 #[vl,.int .i64 20] W (.bool (small21 ll 20))):=fun W hW=>(small21_calls 20 (hl.kept hW)).gives
 have HNL:=Lib.hid fun (h:small21 ll 20=true)=>fine21 h
 have HLL:=Lib.hid hl
 obtain ⟨Al,cl,rfl⟩:=times_slice hl
 have HB:Hid (Below w.heap.size w w):=Lib.hid (.refl _ _)
 clear hk hg hl
 unfold GivesAt
 go_enter Try.func3,Try.ntmps3
 by_cases hc:sk.length≤4
 ·have dc0:decide ((4:Int) < (sk.length:Int))=false:=decide_eq_false (by omega)
  have HLEN0:Hid (sk.length≤4):=hc
  clear hc
  cases hsg:ways21 ng with
  | false =>
   rw [hsg] at HWG
   clear hsg
   go_wp2_with fail
   refine Calls.mono (HWG.out w HB.out) ?_
   rintro e wn1 ⟨rfl,hq⟩
   replace HB:=Lib.hid (HB.out.trans (hq.mono HB.out.size))
   clear hq
   go_wp2_with fail
   refine Calls.mono (HAW.out wn1) ?_
   rintro e wn2 ⟨rfl,hq⟩
   replace HB:=Lib.hid (HB.out.trans (hq.mono HB.out.size))
   clear hq
   go_wp2
   go_ret
   exact ⟨rfl,HB.out⟩
  | true =>
   rw [hsg] at HWG
   replace HKG:=Lib.hid (HKG.out hsg)
   clear hsg
   go_wp2_with fail
   refine Calls.mono (HWG.out w HB.out) ?_
   rintro e wn1 ⟨rfl,hq⟩
   replace HB:=Lib.hid (HB.out.trans (hq.mono HB.out.size))
   clear hq
   clear HWG
   cases hsl:small21 ll 20 with
   | false =>
    rw [hsl] at HSL
    clear hsl
    go_wp2_with fail
    refine Calls.mono (HSL.out wn1 HB.out) ?_
    rintro e wn2 ⟨rfl,hq⟩
    replace HB:=Lib.hid (HB.out.trans (hq.mono HB.out.size))
    clear hq
    go_wp2_with fail
    refine Calls.mono (HAW.out wn2) ?_
    rintro e wn3 ⟨rfl,hq⟩
    replace HB:=Lib.hid (HB.out.trans (hq.mono HB.out.size))
    clear hq
    go_wp2
    go_ret
    exact ⟨rfl,HB.out⟩
   | true =>
    rw [hsl] at HSL
    replace HNL:=Lib.hid (HNL.out hsl)
    clear hsl
    go_wp2_with fail
    refine Calls.mono (HSL.out wn1 HB.out) ?_
    rintro e wn2 ⟨rfl,hq⟩
    replace HB:=Lib.hid (HB.out.trans (hq.mono HB.out.size))
    clear hq
    clear HSL
    obtain ⟨hll,hlw,hl4,hln⟩:=HNL.out
    have HZL:Hid (ll.length≤20∧wtW ll≤20971520):=Lib.hid ⟨hll,hlw⟩
    have HLN:=Lib.hid hln
    clear hll hlw hl4 hln HNL
    obtain ⟨i0,hi,hz0,hz1,hz2⟩:=info_parts Try.infoR60
    clear hi hz0 hz1 hz2
    have hst:=((Bxs.start wn2).lay 30 #[.slice Ak sk.length ck,.int .i64 0,.slice none 0 0]).lay 30 #[.slice Ak sk.length ck,.int .i64 0,.slice none 0 0]
    rw [show (wn2.alloc (.cells #[.slice Ak sk.length ck,.int .i64 0,.slice none 0 0] 30)).heap.size=wn2.heap.size+1 by simp] at hst
    have HKK:Hid (StrsIn wn2 (.slice Ak sk.length ck) sk):=Lib.hid (StrsIn.kept HTK.out HB.out)
    have hlain:=HKK.out.lain
    have HX7:Hid (GBox (twoG wn2.heap.size (wn2.heap.size+1)) ((wn2.alloc (.cells #[.slice Ak sk.length ck,.int .i64 0,.slice none 0 0] 30)).alloc (.cells #[.slice Ak sk.length ck,.int .i64 0,.slice none 0 0] 30)) wn2.heap.size ⟨sk,0,[]⟩∧GBox (twoG wn2.heap.size (wn2.heap.size+1)) ((wn2.alloc (.cells #[.slice Ak sk.length ck,.int .i64 0,.slice none 0 0] 30)).alloc (.cells #[.slice Ak sk.length ck,.int .i64 0,.slice none 0 0] 30)) (wn2.heap.size+1) ⟨sk,0,[]⟩):=by
     have hr:groupK.R (twoG wn2.heap.size (wn2.heap.size+1)) _ (.slice Ak sk.length ck,.slice none 0 0,⟨sk,0,[]⟩):=⟨⟨StrsIn.kept HKK.out hst.below,hlain.apart (fun k hk=>by
      simp only [Value.ownBlock,Option.some.injEq] at hk
      omega),hlain.apart (fun k hk=>by
      simp only [Value.ownBlock,Option.some.injEq] at hk
      omega)⟩,Kin.In.nil_ _ _ _ _ (twoG_nil _ _ _ _)⟩
     exact ⟨⟨_,_,hst.box 0 rfl,hr⟩,⟨_,_,hst.box 1 rfl,hr⟩⟩
    have HB7:=Lib.hid (HB.out.trans (hst.below.mono HB.out.size))
    have HL7:Hid (w.heap.size≤wn2.heap.size):=HB.out.size
    clear hst hlain HKK HTK HB
    go_wp2
    generalize World.alloc (World.alloc wn2 _) _=w7 at *
    generalize wn2.heap.size=b7 at *
    go_loopw [9] (fun i wr=>∃ k:Nat,k≤ll.length∧i=.int .i64 k∧∃ G,Hid (IsG ng (ll.take k) G∧G.key=sk)∧Hid (GBox (twoG b7 (b7+1)) wr b7 G∧GBox (twoG b7 (b7+1)) wr (b7+1) G)∧Hid (Below w.heap.size w wr)) (fun i _=>ll.length-(intOf i).toNat)
    case atStart=>exact ⟨0,Nat.zero_le _,rfl,⟨sk,0,[]⟩,Lib.hid ⟨by rw [List.take_zero];exact .inr ⟨rfl,rfl,rfl⟩,rfl⟩,HX7,HB7⟩
    case round =>
     obtain ⟨k,hk,rfl,G,HIS,HGB,HB⟩:=hrel
     clear HB7 HX7
     by_cases hlt:k < ll.length
     ·obtain ⟨b1,o1,c1,e0⟩:=times_some HLL.out (by omega)
      obtain ⟨rfl,rfl⟩:Al=some ⟨b1,o1,none⟩∧cl=c1:=by injection e0 with e1 _ e2;exact ⟨e1,e2⟩
      clear e0
      obtain ⟨rv,hs,x1,x2⟩:=times_cellAt HLL.out k hlt
      have HX1:=Lib.hid (cell_kept x1 HB.out)
      have HX2:=Lib.hid (cell_kept x2 HB.out)
      have HSV:=Lib.hid (StrsIn.kept hs HB.out)
      have HNX:=Lib.hid (isG_next HIS.out.1 hlt)
      have HNN:=Lib.hid (HLN.out ll[k] (List.getElem_mem hlt))
      have HFG:=Lib.hid (isG_fit HIS.out.1 (by rw [HIS.out.2];exact HLEN0.out) (by have:=HZL.out.1;rw [List.length_take];omega) (Nat.le_trans (wt_take_le ll k) (by have:=HZL.out.2;omega)))
      have HRP:Hid (refPutG G ng ll[k]=withG G ng [ll[k]]):=Lib.hid (refPut_is (fun a ha=>by have:=HKG.out.2 a ha;unfold WayOk;omega) HIS.out.1 ll[k])
      have HLK:Hid (k < ll.length):=hlt
      have HL20:Hid (k < 20):=Lib.hid (by have:=HZL.out.1;omega)
      have i1:(k:Int) < (ll.length:Int):=by omega
      have q1:IntKind.i64.wrap ((k:Int)+1)=(k:Int)+1:=by have:=HL20.out;rw [IntKind.wrap_i64];omega
      clear hs x1 x2
      obtain ⟨⟨row,n⟩,hy⟩:∃ y,(ll[k]'hlt)=y:=⟨_,rfl⟩
      rw [hy] at HX2 HNX HNN HRP HSV
      clear hy hlt hk
      dsimp only at HX2 HNN HSV
      obtain ⟨A1,p1,rfl,_⟩:=one_at HSV.out
      obtain ⟨G2,hg2⟩:∃ g,withG G ng [(row,n)]=g:=⟨_,rfl⟩
      rw [hg2] at HRP HNX
      have HG2:=Lib.hid hg2
      clear hg2
      obtain ⟨KA,kp,PA,pp,hx,hxr⟩:=HGB.out.1.open_
      obtain ⟨KB,kq,PB,pq,hy,hyr⟩:=HGB.out.2.open_
      have HX:=Lib.hid hx
      have HY:=Lib.hid hy
      have HXR:=Lib.hid hxr
      have HYR:=Lib.hid hyr
      have HS7:Hid (b7+1 < wr.heap.size):=Lib.hid hy.lt
      have HPX:Hid (∀ W,Below wr.heap.size wr W→Calls Try.prog 9 #[.agg #[.slice KA G.key.length kp,.int .i64 G.n,.slice PA G.parts.length pp],.slice Ag ng.length cg,.agg #[.slice A1 row.length p1,.int .i64 n]] W (GroupEnd W G2)):=fun W hW=>by
       rw [←HG2.out]
       exact gput_calls (n:=n) (row:=row) ⟨_,_,rfl,groupK.mono (groupK.kept HXR.out hW) fun _ _=>trivial⟩ (HOG.out.kept (HB.out.trans (hW.mono HB.out.size))) (StrsIn.kept HSV.out hW) HFG.out (by have:=HNN.out;omega) (by have:=HKG.out.1;omega)
      have HPY:Hid (∀ W,Below wr.heap.size wr W→Calls Try.prog 10 #[.agg #[.slice KB G.key.length kq,.int .i64 G.n,.slice PB G.parts.length pq],.slice Ag ng.length cg,.agg #[.slice A1 row.length p1,.int .i64 n]] W (RefPutEnd (twoG b7 (b7+1)) W G2)):=fun W hW=>by
       have h:=rput_calls (twoG b7 (b7+1)) (twoG_nil _ _ _ _) (w:=W) (n:=n) (row:=row) ⟨_,_,rfl,groupK.kept HYR.out hW⟩ (HOG.out.kept (HB.out.trans (hW.mono HB.out.size))) (StrsIn.kept HSV.out hW) HFG.out (by have:=HNN.out;omega) (by have:=HKG.out.1;omega)
       rw [HRP.out] at h
       exact h
      clear hx hy hxr hyr
      go_wp2_with fail
      refine wp_region_m (offM 14 wr) (fun k=>k==14||k==15) (fun k m=>(m==14&&[0,1,2,3,4,5,6,7,8,9,10,11,12,13].contains k)||(m==15&&[0,1,2,3,4,5,6,7,8,9,10,11,12,13,14].contains k)) (fun k m=>(m==14&&[15].contains k)||(m==15&&[].contains k)) (fun m _ w w1=>match m with|14=>w.grownBy w1 (some b7)|_=>True) (by kernel_rfl) (by kernel_rfl) (by kernel_rfl) (by kernel_rfl) (by intro m hm;revert hm;simp;try omega) (offM_stable _ _) (offM_start _ _) ?_
      refine m_fix rfl ?_
      apply Exists.intro
      refine ⟨fun ph a wz hp hc hk hf K hK=>?_,?_⟩
      ·have hb:Below wr.heap.size wr wz:=hc (hp.1 14 rfl rfl)
       have h7:=hk 7 (by kernel_rfl)
       clear hk hf hc
       obtain ⟨⟨x0,x1,x2⟩,-⟩:=(HX.out.kept hb).three
       go_simp
       exact hK _ _ (Below.refl _ _) rfl
      refine m_fix rfl ?_
      apply Exists.intro
      refine ⟨fun ph a wz hp hc hk hf K hK=>?_,?_⟩
      ·have h1:=hk 1 (by kernel_rfl)
       clear hk hf hc
       go_simp
       exact hK _ _ (Below.refl _ _) rfl
      refine m_fix rfl ?_
      apply Exists.intro
      refine ⟨fun ph a wz hp hc hk hf K hK=>?_,?_⟩
      ·have h2:=hk 2 (by kernel_rfl)
       clear hk hf hc
       go_simp
       exact hK _ _ (Below.refl _ _) rfl
      refine m_fix rfl ?_
      apply Exists.intro
      refine ⟨fun ph a wz hp hc hk hf K hK=>?_,?_⟩
      ·have h9:=hk 9 (by kernel_rfl)
       clear hk hf hc
       go_simp
       exact hK _ _ (Below.refl _ _) rfl
      refine m_fix rfl ?_
      apply Exists.intro
      refine ⟨fun ph a wz hp hc hk hf K hK=>?_,?_⟩
      ·have hb:Below wr.heap.size wr wz:=hc (hp.1 14 rfl rfl)
       have h36:=mheld_isV hf 1 rfl (by kernel_rfl)
       have h37:=mheld_isV hf 0 rfl (by kernel_rfl)
       clear hk hf hc
       have hp0:k < ll.length:=HLK.out
       have hp1:(k:Int) < (ll.length:Int):=by omega
       have hp2:(0:Int)≤(k:Int):=by omega
       go_simp
       exact hK _ _ (Below.refl _ _) rfl
      refine m_fix rfl ?_
      apply Exists.intro
      refine ⟨fun ph a wz hp hc hk hf K hK=>?_,?_⟩
      ·have hb:Below wr.heap.size wr wz:=hc (hp.1 14 rfl rfl)
       have h38:=mheld_isV hf 0 rfl (by kernel_rfl)
       clear hk hf hc
       have x1:=cell_kept HX1.out hb
       have x2:=cell_kept HX2.out hb
       go_simp
       exact hK _ _ (Below.refl _ _) rfl
      refine m_var (tillM 14 (fun v wx=>∃ kv pv,v=groupA kv pv G2.n∧groupK.R (twoG b7 (b7+1)) wx (kv,pv,G2))) rfl (stable_tillM (fun _ _ _ hb h=>h.elim fun kv h=>h.elim fun pv h=>⟨kv,pv,h.1,groupK.kept h.2 hb⟩)) (fun ph a wz hp hc hk hf K hK=>?_) ?_
      ·have hb:Below wr.heap.size wr wz:=hc (hp.1 14 rfl rfl)
       have h34:=mheld_isV hf 5 rfl (by kernel_rfl)
       have h35:=mheld_isV hf 4 rfl (by kernel_rfl)
       have h39:=mheld_isV hf 0 rfl (by kernel_rfl)
       clear hk hf
       go_simp
       refine Calls.mono (HPX.out wz hb) ?_
       rintro e w1 ⟨kv,pv,rfl,hr,hq⟩
       exact hK _ _ hq (fun _=>⟨kv,pv,rfl,groupK.mono hr fun u hu=>twoG_fresh (hu.mono hb.size) (by have:=HS7.out;omega) HS7.out⟩)
      refine m_fix rfl ?_
      apply Exists.intro
      refine ⟨fun ph a wz hp hc hk hf K hK=>?_,?_⟩
      ·have hb:Below wr.heap.size wr wz:=hc (hp.1 14 rfl rfl)
       have h8:=hk 8 (by kernel_rfl)
       clear hk hf hc
       obtain ⟨⟨x0,x1,x2⟩,-⟩:=(HY.out.kept hb).three
       go_simp
       exact hK _ _ (Below.refl _ _) rfl
      refine m_fix rfl ?_
      apply Exists.intro
      refine ⟨fun ph a wz hp hc hk hf K hK=>?_,?_⟩
      ·have h1:=hk 1 (by kernel_rfl)
       clear hk hf hc
       go_simp
       exact hK _ _ (Below.refl _ _) rfl
      refine m_fix rfl ?_
      apply Exists.intro
      refine ⟨fun ph a wz hp hc hk hf K hK=>?_,?_⟩
      ·have h2:=hk 2 (by kernel_rfl)
       clear hk hf hc
       go_simp
       exact hK _ _ (Below.refl _ _) rfl
      refine m_fix rfl ?_
      apply Exists.intro
      refine ⟨fun ph a wz hp hc hk hf K hK=>?_,?_⟩
      ·have h9:=hk 9 (by kernel_rfl)
       clear hk hf hc
       go_simp
       exact hK _ _ (Below.refl _ _) rfl
      refine m_fix rfl ?_
      apply Exists.intro
      refine ⟨fun ph a wz hp hc hk hf K hK=>?_,?_⟩
      ·have hb:Below wr.heap.size wr wz:=hc (hp.1 14 rfl rfl)
       have h43:=mheld_isV hf 1 rfl (by kernel_rfl)
       have h44:=mheld_isV hf 0 rfl (by kernel_rfl)
       clear hk hf hc
       have hp0:k < ll.length:=HLK.out
       have hp1:(k:Int) < (ll.length:Int):=by omega
       have hp2:(0:Int)≤(k:Int):=by omega
       go_simp
       exact hK _ _ (Below.refl _ _) rfl
      refine m_fix rfl ?_
      apply Exists.intro
      refine ⟨fun ph a wz hp hc hk hf K hK=>?_,?_⟩
      ·have hb:Below wr.heap.size wr wz:=hc (hp.1 14 rfl rfl)
       have h45:=mheld_isV hf 0 rfl (by kernel_rfl)
       clear hk hf hc
       have x1:=cell_kept HX1.out hb
       have x2:=cell_kept HX2.out hb
       go_simp
       exact hK _ _ (Below.refl _ _) rfl
      refine m_var (tillM 15 (fun v wx=>∃ kv pv,v=groupA kv pv G2.n∧groupK.R (twoG b7 (b7+1)) wx (kv,pv,G2))) rfl (stable_tillM (fun _ _ _ hb h=>h.elim fun kv h=>h.elim fun pv h=>⟨kv,pv,h.1,groupK.kept h.2 hb⟩)) (fun ph a wz hp hc hk hf K hK=>?_) ?_
      ·have hb:Below wr.heap.size wr wz:=hc (hp.1 14 rfl rfl)
       have h41:=mheld_isV hf 5 rfl (by kernel_rfl)
       have h42:=mheld_isV hf 4 rfl (by kernel_rfl)
       have h46:=mheld_isV hf 0 rfl (by kernel_rfl)
       clear hk hf
       go_simp
       refine Calls.mono (HPY.out wz hb) ?_
       rintro e w1 ⟨gv,rfl,⟨kv,pv,rfl,hr⟩,hq⟩
       exact hK _ _ hq (fun _=>⟨kv,pv,rfl,groupK.mono hr fun u hu=>hu.elim id fun h=>twoG_fresh (h.mono hb.size) (by have:=HS7.out;omega) HS7.out⟩)
      refine m_store (fromM 14 15 (fun _ w0=>(GBox (twoG b7 (b7+1)) w0 b7 G2∧GBox (twoG b7 (b7+1)) w0 (b7+1) G∧Below w.heap.size w w0))) rfl (stable_fromM _ _ _) (fun ph a wz hp hph hc hk hf K hK=>?_) ?_
      ·have hb:Below wr.heap.size wr wz:=hc hph
       have h7:=hk 7 (by kernel_rfl)
       obtain ⟨v40,h40,S40⟩:=mheld_at hf 7 rfl (by kernel_rfl)
       replace S40:=S40 hph
       clear hk hf
       obtain ⟨kv,pv,rfl,hT⟩:=S40
       obtain ⟨KC,kc,PC,pc,rfl,rfl,_⟩:=group_open hT
       have hst:=GBox.store (a:=.slice KA G.key.length kp) (c:=.int .i64 G.n) (d:=.slice PA G.parts.length pp) (HX.out.kept hb) hT (fun u hu=>hu.1)
       have hgr:=three_grownP wz b7 (.slice KC G2.key.length kc) (.int .i64 G2.n) (.slice PC G2.parts.length pc)
       have hot:=(GBox.kept ⟨_,_,HY.out,HYR.out⟩ hb).other (c:=b7) (fun u hu=>hu.1) hgr (by omega)
       have hbe:=(((HB.out.trans (hb.mono HB.out.size)).setCell (p:=⟨b7,0,none⟩) HL7.out (.slice KC G2.key.length kc)).setCell (p:=⟨b7,1,none⟩) HL7.out (.int .i64 G2.n)).setCell (p:=⟨b7,2,none⟩) HL7.out (.slice PC G2.parts.length pc)
       obtain ⟨⟨y0,y1,y2⟩,f0,f1,f2⟩:=((HX.out.kept hb)).three
       have HST:=Lib.hid hst
       have HOT:=Lib.hid hot
       have HBE:=Lib.hid hbe
       have HGR:=Lib.hid hgr
       clear hst hot hbe hgr hT
       unfold groupA at *
       go_simp
       exact hK undef _ HGR.out (fun h=>by rw [setP_self] at h;cases h) (fun _=>⟨_,⟨HST.out,HOT.out,HBE.out⟩,.refl _ _⟩)
      refine m_store (fromM 15 15 (fun _ w0=>(GBox (twoG b7 (b7+1)) w0 b7 G2∧GBox (twoG b7 (b7+1)) w0 (b7+1) G2∧Below w.heap.size w w0))) rfl (stable_fromM _ _ _) (fun ph a wz hp hph hc hk hf K hK=>?_) ?_
      ·have h8:=hk 8 (by kernel_rfl)
       obtain ⟨v47,h47,S47⟩:=mheld_at hf 1 rfl (by kernel_rfl)
       replace S47:=S47 hph
       obtain ⟨_,W14⟩:=mheld_w hf 0 rfl (by kernel_rfl)
       clear hk hf
       obtain ⟨w0,⟨ha1,ha2,hb0⟩,hq0⟩:=W14 (fun _=>hph)
       obtain ⟨kv,pv,rfl,hT⟩:=S47
       obtain ⟨KD,kd,PD,pd,hbx,-⟩:=(ha2.kept hq0).open_
       obtain ⟨KC,kc,PC,pc,rfl,rfl,_⟩:=group_open hT
       have hst:=GBox.store (a:=.slice KD G.key.length kd) (c:=.int .i64 G.n) (d:=.slice PD G.parts.length pd) hbx hT (fun u hu=>hu.2)
       have hgr:=three_grownP wz (b7+1) (.slice KC G2.key.length kc) (.int .i64 G2.n) (.slice PC G2.parts.length pc)
       have hot:=(ha1.kept hq0).other (c:=(b7+1)) (fun u hu=>hu.2) hgr (by omega)
       have hbe:=(((hb0.trans (hq0.mono hb0.size)).setCell (p:=⟨(b7+1),0,none⟩) (Nat.le_succ_of_le HL7.out) (.slice KC G2.key.length kc)).setCell (p:=⟨(b7+1),1,none⟩) (Nat.le_succ_of_le HL7.out) (.int .i64 G2.n)).setCell (p:=⟨(b7+1),2,none⟩) (Nat.le_succ_of_le HL7.out) (.slice PC G2.parts.length pc)
       obtain ⟨⟨y0,y1,y2⟩,f0,f1,f2⟩:=(hbx).three
       have HST:=Lib.hid hst
       have HOT:=Lib.hid hot
       have HBE:=Lib.hid hbe
       have HGR:=Lib.hid hgr
       clear hst hot hbe hgr hT
       unfold groupA at *
       clear ha1 ha2 hb0 hq0 hbx W14
       go_simp
       exact hK undef _ trivial (fun h=>by rw [setP_ne _ (by decide)] at h;have:=hp.2 14 rfl rfl;rw [h] at this;cases this) (fun _=>⟨_,⟨HOT.out,HST.out,HBE.out⟩,.refl _ _⟩)
      refine m_nil ?_
      refine ⟨keeps_m (fun m hm=>?_),?_⟩
      ·have hm2:m=14∨m=15:=by simpa [or_assoc] using hm
       rcases hm2 with rfl|rfl
       ·exact ⟨.inr (.inr (keep_isV _)),.inr (.inr (keep_isV _)),.inr (.inr (keep_isV _)),.inr (.inr (keep_isV _)),.inr (.inr (keep_isV _)),.inr (.inr (keep_isV _)),.inr (.inr keep_till_self),.inr (.inr (keep_isV _)),.inr (.inr (keep_isV _)),.inr (.inr (keep_isV _)),.inr (.inr (keep_isV _)),.inr (.inr (keep_isV _)),.inr (.inr (keep_isV _)),.inr (.inr (keep_till (by decide) fun _ _ _ _ _ _ _ h he=>h.elim fun kv h=>h.elim fun pv h=>⟨kv,pv,h.1,groupK.off (v:=cboxV b7) h.2 (fun u hu=>hu.1) he⟩)),.inl rfl,.inr (.inl rfl),trivial⟩
       ·exact ⟨.inr (.inr (keep_isV _)),.inr (.inr (keep_isV _)),.inr (.inr (keep_isV _)),.inr (.inr (keep_isV _)),.inr (.inr (keep_isV _)),.inr (.inr (keep_isV _)),.inr (.inr (keep_till_past rfl rfl (by decide))),.inr (.inr (keep_isV _)),.inr (.inr (keep_isV _)),.inr (.inr (keep_isV _)),.inr (.inr (keep_isV _)),.inr (.inr (keep_isV _)),.inr (.inr (keep_isV _)),.inr (.inr keep_till_self),.inr (.inr (keep_from_past rfl (by decide))),.inl rfl,trivial⟩
      intro ph wv hps hc
      simp only [mlexL,mEnd]
      rintro _ rfl _ rfl _ rfl _ rfl _ rfl _ rfl v40 S40 _ rfl _ rfl _ rfl _ rfl _ rfl _ rfl v47 S47 _ hst14 _ hst15
      obtain ⟨wx,⟨hA1,hA2,hb9⟩,hq⟩:=hst15 (fun h=>absurd rfl h)
      have HA1:=Lib.hid (hA1.kept hq)
      have HA2:=Lib.hid (hA2.kept hq)
      have HB9:=Lib.hid (hb9.trans (hq.mono hb9.size))
      clear hA1 hA2 hb9 hst14 hst15 hq hc hps S40 S47 HX HY HXR HYR HPX HPY HGB HB
      obtain ⟨KA,kp,PA,pp,hx,hxr⟩:=HA1.out.open_
      obtain ⟨KB,kq,PB,pq,hy,hyr⟩:=HA2.out.open_
      have HXR:=Lib.hid hxr
      have HYR:=Lib.hid hyr
      have HY:=Lib.hid hy
      obtain ⟨⟨x0,x1,x2⟩,-⟩:=hx.three
      have al1:=Below.alloc (.refl wv.heap.size wv) (Nat.le_refl _) (.cells #[.slice KA G2.key.length kp,.int .i64 G2.n,.slice PA G2.parts.length pp] 30)
      obtain ⟨⟨y0,y1,y2⟩,-⟩:=(hy.kept al1).three
      have HIA:Hid (groupK.In (fun _=>True) (wv.alloc (.cells #[.slice KA G2.key.length kp,.int .i64 G2.n,.slice PA G2.parts.length pp] 30)) (.slice (some ⟨wv.heap.size,0,none⟩) 1 1) [G2]):=Lib.hid (Kin.lit_in groupK wv 30 [(.slice KA G2.key.length kp,.slice PA G2.parts.length pp,G2)] (fun t ht=>by
       rw [List.mem_singleton.1 ht]
       exact groupK.mono HXR.out fun _ _=>trivial) (by show 1≤1000;decide) trivial)
      have HFG2:Hid (FitG G2):=Lib.hid (by
       rw [HNX.out,HIS.out.2]
       exact fit_grp _ _ (by have:=HLEN0.out;omega) (by have:=HZL.out.1;rw [List.length_take];omega) (Nat.le_trans (wt_take_le ll _) (by have:=HZL.out.2;omega)))
      have HIN:Hid (IsG ng (ll.take (k+1)) G2∧G2.key=sk):=Lib.hid (by
       rw [HNX.out,HIS.out.2]
       exact ⟨.inl rfl,rfl⟩)
      have HAL:=Lib.hid al1
      have HS5:Hid ((wv.alloc (.cells #[.slice KA G2.key.length kp,.int .i64 G2.n,.slice PA G2.parts.length pp] 30)).heap.size=wv.heap.size+1):=by show _=_;simp
      simp only [Act.put,List.setIfInBounds_toArray,List.set_cons_zero,List.set_cons_succ]
      clear hx hxr hyr al1 HG2 HRP HNX HFG HIS HX1 HX2 HSV hy
      go_wp2_with fail
      clear x0 x1 x2 y0 y1 y2
      generalize wv.alloc (.cells #[.slice KA G2.key.length kp,.int .i64 G2.n,.slice PA G2.parts.length pp] 30)=w5 at *
      have al2:=Below.alloc (.refl w5.heap.size w5) (Nat.le_refl _) (.cells #[.slice KB G2.key.length kq,.int .i64 G2.n,.slice PB G2.parts.length pq] 30)
      have hlit:=Kin.lit_in (Q:=fun _=>True) groupK w5 30 [(.slice KB G2.key.length kq,.slice PB G2.parts.length pq,G2)] (fun t ht=>by
       rw [List.mem_singleton.1 ht]
       exact groupK.mono (groupK.kept HYR.out HAL.out) fun _ _=>trivial) (by show 1≤1000;decide) trivial
      rw [HS5.out] at hlit
      refine Calls.mono (gsame_calls (HIA.out.kept al2) hlit (fun g hg=>by
       rw [List.mem_singleton.1 hg]
       exact short_grp _ HFG2.out)) ?_
      clear hlit
      rintro e w8 ⟨rfl,hq⟩
      replace hq:=(HAL.out.trans (al2.mono HAL.out.size)).trans (hq.mono (Nat.le_trans HAL.out.size al2.size))
      have HNB:=Lib.hid (HB9.out.trans (hq.mono HB9.out.size))
      have HN1:Hid (GBox (twoG b7 (b7+1)) w8 b7 G2∧GBox (twoG b7 (b7+1)) w8 (b7+1) G2):=Lib.hid ⟨HA1.out.kept hq,HA2.out.kept hq⟩
      clear hq al2 HAL HIA HFG2 HA1 HA2 HB9 HXR HYR HY
      go_wp2
      go_roundw
      case rel=>exact ⟨k+1,HLK.out,by go_num,G2,HIN,HN1,HNB⟩
      case measure=>have:=HLK.out;simp [intOf];omega
     ·obtain rfl:k=ll.length:=by omega
      have i1:¬(ll.length:Int) < (ll.length:Int):=by omega
      clear hlt hk
      go_wp2_with fail
      refine Calls.mono (HAW.out wr) ?_
      rintro e wn3 ⟨rfl,hq⟩
      replace HB:=Lib.hid (HB.out.trans (hq.mono HB.out.size))
      clear hq
      go_wp2
      go_ret
      exact ⟨rfl,HB.out⟩
 ·have dc0:decide ((4:Int) < (sk.length:Int))=true:=decide_eq_true (by omega)
  clear hc
  go_wp2_with fail
  refine Calls.mono (HAW.out w) ?_
  rintro e wn1 ⟨rfl,hq⟩
  replace HB:=Lib.hid (HB.out.trans (hq.mono HB.out.size))
  clear hq
  go_wp2
  go_ret
  exact ⟨rfl,HB.out⟩
end Go.Proofs.Ytjbpbfhgjldliaa
