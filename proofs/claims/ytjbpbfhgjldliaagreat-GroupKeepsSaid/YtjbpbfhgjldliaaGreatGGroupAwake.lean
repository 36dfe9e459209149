/- Layer 21's laws: the document's examples. -/
import Derived.Test.YtjbpbfhgjldliaaGreatGBlocks
import Derived.Test.YtjbpbfhgjldliaaGreatGZCalm
import Derived.Test.YtjbpbfhgjldliaaGreatGWeighRef
import Derived.Test.YtjbpbfhgjldliaaGreatGGroupKin
import Derived.Test.YtjbpbfhgjldliaaGreatGWeighSmall
import Derived.Test.YtjbpbfhgjldliaaGreatGGroupOwn
import Derived.Test.YtjbpbfhgjldliaaGreatGGroupPuts
import Derived.Test.YtjbpbfhgjldliaaGreatGGroupChg
import Derived.Test.YtjbpbfhgjldliaaGreatGGroupSt
namespace Go.Proofs.YtjbpbfhgjldliaaGreat
open Go Go.RowKit
structure TwoC (w0:World) (m1 m2 s1 s2:Nat) (zs ps:List Value) (ph:Phase) (w:World):Prop where
 below:Below w0.heap.size w0 w
 one:∀ p,ph m1=some p→∃ b,p=ptrV b∧w0.heap.size≤b∧CBox w b (if (ph s1).isSome then ps else zs)
 two:∀ p,ph m2=some p→∃ b,p=ptrV b∧w0.heap.size≤b∧(ph s2=none→CBox w b zs)
 apart:∀ p,ph m1=some p→ph m2≠some p
section
variable {w0:World}{m1 m2 s1 s2:Nat}{zs ps:List Value}{ph:Phase}{w w':World}
theorem twoC_stable (w0:World)(m1 m2 s1 s2:Nat)(zs ps:List Value):∀ ph w w',Below w.heap.size w w'→TwoC w0 m1 m2 s1 s2 zs ps ph w→TwoC w0 m1 m2 s1 s2 zs ps ph w':=fun _ _ _ hb h =>
 ⟨h.below.trans (hb.mono h.below.size),fun p hp=>by
  obtain ⟨b,e,h1,h2⟩:=h.one p hp
  exact ⟨b,e,h1,h2.kept hb⟩,fun p hp=>by
  obtain ⟨b,e,h1,h2⟩:=h.two p hp
  exact ⟨b,e,h1,fun hs=>(h2 hs).kept hb⟩,h.apart⟩
theorem twoC_start (w0:World)(m1 m2 s1 s2:Nat)(zs ps:List Value):TwoC w0 m1 m2 s1 s2 zs ps (fun _=>none) w0.drew:=⟨Below.drew (.refl _ _),fun _ hp=>(by cases hp),fun _ hp=>(by cases hp),fun _ hp=>(by cases hp)⟩
theorem TwoC.first (h:TwoC w0 m1 m2 s1 s2 zs ps ph w)(hs1:ph s1=none)(hs2:ph s2=none)(n1:s1≠m1)(n2:m2≠m1)(T:TypeId):TwoC w0 m1 m2 s1 s2 zs ps (setP ph m1 (ptrV w.heap.size)) (w.alloc (.cells zs.toArray T)):=by
 have hq:=Below.alloc (.refl w.heap.size w) (Nat.le_refl _) (.cells zs.toArray T)
 refine ⟨h.below.trans (hq.mono h.below.size),fun p hp=>?_,fun p hp=>?_,fun p hp hp2=>?_⟩
 ·rw [setP_self] at hp
  obtain rfl:=Option.some.inj hp
  refine ⟨_,rfl,h.below.size,?_⟩
  rw [setP_ne _ n1,hs1]
  exact cbox_lit w T zs.toArray
 ·rw [setP_ne _ n2] at hp
  obtain ⟨b,e,h1,h2⟩:=h.two p hp
  exact ⟨b,e,h1,fun _=>(h2 hs2).kept hq⟩
 ·rw [setP_self] at hp
  obtain rfl:=Option.some.inj hp
  rw [setP_ne _ n2] at hp2
  obtain ⟨b,e,h1,h2⟩:=h.two _ hp2
  simp only [Value.pointer.injEq,Option.some.injEq,Addr.mk.injEq,and_true] at e
  have:=(h2 hs2).lt
  omega
theorem TwoC.second (h:TwoC w0 m1 m2 s1 s2 zs ps ph w)(n1:s1≠m2)(n2:m1≠m2)(T:TypeId):TwoC w0 m1 m2 s1 s2 zs ps (setP ph m2 (ptrV w.heap.size)) (w.alloc (.cells zs.toArray T)):=by
 have hq:=Below.alloc (.refl w.heap.size w) (Nat.le_refl _) (.cells zs.toArray T)
 refine ⟨h.below.trans (hq.mono h.below.size),fun p hp=>?_,fun p hp=>?_,fun p hp hp2=>?_⟩
 ·rw [setP_ne _ n2] at hp
  obtain ⟨b,e,h1,h2⟩:=h.one p hp
  refine ⟨b,e,h1,?_⟩
  rw [setP_ne _ n1]
  exact h2.kept hq
 ·rw [setP_self] at hp
  obtain rfl:=Option.some.inj hp
  exact ⟨_,rfl,h.below.size,fun _=>cbox_lit w T zs.toArray⟩
 ·rw [setP_self] at hp2
  obtain rfl:=Option.some.inj hp2
  rw [setP_ne _ n2] at hp
  obtain ⟨b,e,h1,h2⟩:=h.one _ hp
  simp only [Value.pointer.injEq,Option.some.injEq,Addr.mk.injEq,and_true] at e
  have:=h2.lt
  omega
theorem TwoC.fill {b:Nat}(h:TwoC w0 m1 m2 s1 s2 zs ps ph w)(hb:ph m1=some (ptrV b))(hs2:ph s2=none)(n1:m1≠s1)(n2:m2≠s1)(hq:Below w0.heap.size w0 w')(hg:w.grownBy w' (some b))(hc:CBox w' b ps):TwoC w0 m1 m2 s1 s2 zs ps (setP ph s1 undef) w':=by
 refine ⟨hq,fun p hp=>?_,fun p hp=>?_,fun p hp hp2=>?_⟩
 ·rw [setP_ne _ n1,hb] at hp
  obtain rfl:=Option.some.inj hp
  obtain ⟨b',e,h1,h2⟩:=h.one _ hb
  simp only [Value.pointer.injEq,Option.some.injEq,Addr.mk.injEq,and_true] at e
  subst e
  refine ⟨_,rfl,h1,?_⟩
  rw [setP_self]
  exact hc
 ·rw [setP_ne _ n2] at hp
  obtain ⟨b',e,h1,h2⟩:=h.two p hp
  refine ⟨b',e,h1,fun _=>(h2 hs2).other hg fun e2=>?_⟩
  simp only [Option.some.injEq] at e2
  subst e2
  exact h.apart p (by rw [hb,e]) hp
 ·rw [setP_ne _ n1] at hp
  rw [setP_ne _ n2] at hp2
  exact h.apart p hp hp2
theorem TwoC.last {b:Nat}(h:TwoC w0 m1 m2 s1 s2 zs ps ph w)(hb:ph m2=some (ptrV b))(n1:m1≠s2)(n2:m2≠s2)(n3:s1≠s2)(hq:Below w0.heap.size w0 w')(hg:w.grownBy w' (some b)):TwoC w0 m1 m2 s1 s2 zs ps (setP ph s2 undef) w':=by
 refine ⟨hq,fun p hp=>?_,fun p hp=>?_,fun p hp hp2=>?_⟩
 ·rw [setP_ne _ n1] at hp
  obtain ⟨b',e,h1,h2⟩:=h.one p hp
  refine ⟨b',e,h1,?_⟩
  rw [setP_ne _ n3]
  refine h2.other hg fun e2=>?_
  simp only [Option.some.injEq] at e2
  subst e2
  exact h.apart p hp (by rw [hb,e])
 ·rw [setP_ne _ n2] at hp
  obtain ⟨b',e,h1,h2⟩:=h.two p hp
  exact ⟨b',e,h1,fun hn=>by rw [setP_self] at hn;cases hn⟩
 ·rw [setP_ne _ n1] at hp
  rw [setP_ne _ n2] at hp2
  exact h.apart p hp hp2
end
def twoEndM (w0:World)(m1 m2:Nat)(ps qs:List Value):MSpec:=fun ph _ w=>∀ p q,ph m1=some p→ph m2=some q→∃ b1 b2,p=ptrV b1∧q=ptrV b2∧b1≠b2∧w0.heap.size≤b1∧w0.heap.size≤b2∧CBox w b1 ps∧CBox w b2 qs∧Below w0.heap.size w0 w
theorem stable_twoEndM {w0:World}{m1 m2:Nat}{ps qs:List Value}:StableM (twoEndM w0 m1 m2 ps qs):=fun _ _ _ _ hb h p q hp hq=>by
 obtain ⟨b1,b2,e1,e2,h1,h2,h3,h4,h5,h6⟩:=h p q hp hq
 exact ⟨b1,b2,e1,e2,h1,h2,h3,h4.kept hb,h5.kept hb,h6.trans (hb.mono h6.size)⟩
def okM:MSpec:=fun _ _ _=>True
theorem stable_okM:StableM okM:=fun _ _ _ _ _ _=>trivial
theorem keep_okM {C:Phase→World→Prop}{st:Nat→Bool}{bef aft:Nat→Nat→Bool}{E:Nat→Value→World→World→Prop}{m:Nat}:KeepAt C st bef aft E m okM:=fun _ _ _ _ _ _ _ _ _ _=>trivial
theorem below_four {B O:Nat}{w0 w:World}(hb:Below B w0 w)(h:B≤O)(a b c d:Value):Below B w0 ((((w.setCell ⟨O,0,none⟩ a).setCell ⟨O,1,none⟩ b).setCell ⟨O,2,none⟩ c).setCell ⟨O,3,none⟩ d) :=
 (below_three hb h a b c).setCell (p:=⟨O,3,none⟩) h d
def ShortG (g:GroupP):Prop:=g.key.length≤1000000∧∀ p∈g.parts,p.cells.length≤1000000∧∀ t∈p.cells,t.1.length≤1000000
set_option maxHeartbeats 4000000 in
set_option maxRecDepth 100000 in
theorem gsame_calls {w:World}{va vb:Value}{L:List GroupP}(ha:groupK.In (fun _=>True) w va L)(hb:groupK.In (fun _=>True) w vb L)(hf:∀ g∈L,ShortG g) :
  GivesAt Tryz.prog 11 #[va,vb] w (.bool true):=by
 obtain ⟨tva,A,ca,ea,rfl,_,_,hata⟩:=ha.at_
 obtain ⟨tvb,B,cb,eb,rfl,_,_,hatb⟩:=hb.at_
 have HA:=Lib.hid hata
 have HB:=Lib.hid hatb
 have HSG:=Lib.hid hf
 have hlm:L.length≤maxLen:=ha.len
 unfold maxLen at hlm
 clear ha hb hata hatb ea eb hf
 unfold GivesAt
 have d1:((L.length:Int)==(L.length:Int))=true:=by simp
 have d2:((L.length:Int) != (L.length:Int))=false:=by simp
 go_enter Tryz.func11,Tryz.ntmps11
 go_wp2
 clear d1 d2
 go_loopw [5] (fun i wr=>∃ k:Nat,k≤L.length∧i=.int .i64 k∧Hid (Below w.heap.size w wr)) (fun i _=>L.length-(intOf i).toNat)
 case atStart=>exact ⟨0,Nat.zero_le _,rfl,.refl _ _⟩
 case round =>
  obtain ⟨i,hi,rfl,HBR⟩:=hrel
  by_cases hlt:i < L.length
  ·have j1:(i:Int) < (L.length:Int):=by omega
   obtain ⟨b1,o1,rfl,hl1,hc1⟩:=HA.out i hlt
   obtain ⟨b2,o2,rfl,hl2,hc2⟩:=HB.out i hlt
   obtain ⟨⟨k1,p1,g⟩,-,-,hg1,hr1,hd1⟩:=hc1 i hlt
   change g=_ at hg1
   obtain ⟨⟨k2,p2,g2⟩,-,-,hg2,hr2,hd2⟩:=hc2 i hlt
   change g2=_ at hg2
   obtain rfl:g2=g:=hg2.trans hg1.symm
   obtain ⟨Ak1,pk1,Ap1,pp1,rfl,rfl,hk1,-,hp1⟩:=group_open hr1
   obtain ⟨Ak2,pk2,Ap2,pp2,rfl,rfl,hk2,-,hp2⟩:=group_open hr2
   have X10:Hid (∀ W,Below w.heap.size w W→W.cell? ⟨b1,o1+i*3,none⟩=some (.slice Ak1 g2.key.length pk1)):=fun W hW=>(hW.cell (p:=⟨b1,o1+i*3,none⟩) hl1).trans (hd1 0 _ rfl)
   have X11:Hid (∀ W,Below w.heap.size w W→W.cell? ⟨b1,o1+i*3+1,none⟩=some (.int .i64 g2.n)):=fun W hW=>(hW.cell (p:=⟨b1,o1+i*3+1,none⟩) hl1).trans (hd1 1 _ rfl)
   have X12:Hid (∀ W,Below w.heap.size w W→W.cell? ⟨b1,o1+i*3+2,none⟩=some (.slice Ap1 g2.parts.length pp1)):=fun W hW=>(hW.cell (p:=⟨b1,o1+i*3+2,none⟩) hl1).trans (hd1 2 _ rfl)
   have X20:Hid (∀ W,Below w.heap.size w W→W.cell? ⟨b2,o2+i*3,none⟩=some (.slice Ak2 g2.key.length pk2)):=fun W hW=>(hW.cell (p:=⟨b2,o2+i*3,none⟩) hl2).trans (hd2 0 _ rfl)
   have X21:Hid (∀ W,Below w.heap.size w W→W.cell? ⟨b2,o2+i*3+1,none⟩=some (.int .i64 g2.n)):=fun W hW=>(hW.cell (p:=⟨b2,o2+i*3+1,none⟩) hl2).trans (hd2 1 _ rfl)
   have X22:Hid (∀ W,Below w.heap.size w W→W.cell? ⟨b2,o2+i*3+2,none⟩=some (.slice Ap2 g2.parts.length pp2)):=fun W hW=>(hW.cell (p:=⟨b2,o2+i*3+2,none⟩) hl2).trans (hd2 2 _ rfl)
   have hsg:ShortG g2:=HSG.out g2 (by rw [hg1];exact List.getElem_mem hlt)
   have HQ:Hid (∀ W,Below wr.heap.size wr W→GivesAt Tryz.prog 27 #[.slice Ak1 g2.key.length pk1,.slice Ak2 g2.key.length pk2] W (.bool true)):=fun W hW=>by
    have:=same_strs (StrsIn.kept hk1 (HBR.out.trans (hW.mono HBR.out.size))) (StrsIn.kept hk2 (HBR.out.trans (hW.mono HBR.out.size))) hsg.1 hsg.1
    rwa [decide_eq_true rfl] at this
   obtain ⟨tvp,Aq,cq,ep,he1,-,-,hpat1⟩:=hp1.at_
   cases he1
   obtain ⟨tvq,Ar,cr,er,he2,-,-,hpat2⟩:=hp2.at_
   cases he2
   have HP1:=Lib.hid hpat1
   have HP2:=Lib.hid hpat2
   have HSQ:=Lib.hid hsg.2
   have hpl:g2.parts.length≤maxLen:=hp1.len
   unfold maxLen at hpl
   have EN:Hid ((g2.n==g2.n)=true):=Lib.hid (by simp)
   have EN2:Hid ((g2.n != g2.n)=false):=Lib.hid (by simp)
   have EP:Hid (((g2.parts.length:Int)==(g2.parts.length:Int))=true):=Lib.hid (by simp)
   have EP2:Hid (((g2.parts.length:Int) != (g2.parts.length:Int))=false):=Lib.hid (by simp)
   have HLI:Hid (i < L.length):=hlt
   clear hc1 hc2 hg1 hg2 hr1 hr2 hd1 hd2 hk1 hk2 hp1 hp2 hpat1 hpat2 ep er hsg
   generalize g2=g at *
   go_wp2_with fail
   refine wp_region_calm (offC wr) (fun _=>false) (fun _=>false) anyE false (by kernel_rfl) (by kernel_rfl) (by kernel_rfl) (by kernel_rfl) (by intro m hm;revert hm;simp;try omega) (offC_stable _) (offC_start _) ?_
   refine calm_fixA rfl rfl ?_
   apply Exists.intro
   refine ⟨fun a wz hc hk hf K hK=>?_,?_⟩
   ·have h0:=hk 0 (by kernel_rfl)
    clear hk hf hc
    go_simp
    exact hK _ _ (Below.refl _ _) rfl
   refine calm_fixA rfl rfl ?_
   apply Exists.intro
   refine ⟨fun a wz hc hk hf K hK=>?_,?_⟩
   ·have h5:=hk 5 (by kernel_rfl)
    clear hk hf hc
    go_simp
    exact hK _ _ (Below.refl _ _) rfl
   refine calm_fixA rfl rfl ?_
   apply Exists.intro
   refine ⟨fun a wz hc hk hf K hK=>?_,?_⟩
   ·have hb:Below wr.heap.size wr wz:=hc rfl
    have h20:=held_isV hf 1 rfl (by kernel_rfl)
    have h21:=held_isV hf 0 rfl (by kernel_rfl)
    clear hk hf hc
    have hp0:i < L.length:=HLI.out
    have hp1:(i:Int) < (L.length:Int):=by omega
    have hp2:(0:Int)≤(i:Int):=by omega
    go_simp
    exact hK _ _ (Below.refl _ _) rfl
   refine calm_fixA rfl rfl ?_
   apply Exists.intro
   refine ⟨fun a wz hc hk hf K hK=>?_,?_⟩
   ·have h22:=held_isV hf 0 rfl (by kernel_rfl)
    clear hk hf hc
    go_simp
    exact hK _ _ (Below.refl _ _) rfl
   refine calm_fixA rfl rfl ?_
   apply Exists.intro
   refine ⟨fun a wz hc hk hf K hK=>?_,?_⟩
   ·have hb:Below wr.heap.size wr wz:=hc rfl
    have h23:=held_isV hf 0 rfl (by kernel_rfl)
    clear hk hf hc
    have x0:=X11.out wz (HBR.out.trans (hb.mono HBR.out.size))
    go_simp
    exact hK _ _ (Below.refl _ _) rfl
   refine calm_fixA rfl rfl ?_
   apply Exists.intro
   refine ⟨fun a wz hc hk hf K hK=>?_,?_⟩
   ·have h1:=hk 1 (by kernel_rfl)
    clear hk hf hc
    go_simp
    exact hK _ _ (Below.refl _ _) rfl
   refine calm_fixA rfl rfl ?_
   apply Exists.intro
   refine ⟨fun a wz hc hk hf K hK=>?_,?_⟩
   ·have h5:=hk 5 (by kernel_rfl)
    clear hk hf hc
    go_simp
    exact hK _ _ (Below.refl _ _) rfl
   refine calm_fixA rfl rfl ?_
   apply Exists.intro
   refine ⟨fun a wz hc hk hf K hK=>?_,?_⟩
   ·have hb:Below wr.heap.size wr wz:=hc rfl
    have h25:=held_isV hf 1 rfl (by kernel_rfl)
    have h26:=held_isV hf 0 rfl (by kernel_rfl)
    clear hk hf hc
    have hp0:i < L.length:=HLI.out
    have hp1:(i:Int) < (L.length:Int):=by omega
    have hp2:(0:Int)≤(i:Int):=by omega
    go_simp
    exact hK _ _ (Below.refl _ _) rfl
   refine calm_fixA rfl rfl ?_
   apply Exists.intro
   refine ⟨fun a wz hc hk hf K hK=>?_,?_⟩
   ·have h27:=held_isV hf 0 rfl (by kernel_rfl)
    clear hk hf hc
    go_simp
    exact hK _ _ (Below.refl _ _) rfl
   refine calm_fixA rfl rfl ?_
   apply Exists.intro
   refine ⟨fun a wz hc hk hf K hK=>?_,?_⟩
   ·have hb:Below wr.heap.size wr wz:=hc rfl
    have h28:=held_isV hf 0 rfl (by kernel_rfl)
    clear hk hf hc
    have x0:=X21.out wz (HBR.out.trans (hb.mono HBR.out.size))
    go_simp
    exact hK _ _ (Below.refl _ _) rfl
   refine calm_fixA rfl rfl ?_
   apply Exists.intro
   refine ⟨fun a wz hc hk hf K hK=>?_,?_⟩
   ·have hb:Below wr.heap.size wr wz:=hc rfl
    have h24:=held_isV hf 5 rfl (by kernel_rfl)
    have h29:=held_isV hf 0 rfl (by kernel_rfl)
    clear hk hf hc
    have e0:=EN.out
    have e1:=EN2.out
    go_simp
    exact hK _ _ (Below.refl _ _) rfl
   refine calm_fixA rfl rfl ?_
   apply Exists.intro
   refine ⟨fun a wz hc hk hf K hK=>?_,?_⟩
   ·have h30:=held_isV hf 0 rfl (by kernel_rfl)
    clear hk hf hc
    go_simp
    exact hK _ _ (Below.refl _ _) rfl
   refine calm_fixA rfl rfl ?_
   apply Exists.intro
   refine ⟨fun a wz hc hk hf K hK=>?_,?_⟩
   ·have h0:=hk 0 (by kernel_rfl)
    have h31:=held_isV hf 0 rfl (by kernel_rfl)
    clear hk hf hc
    go_simp
    exact hK _ _ (Below.refl _ _) rfl
   refine calm_fixA rfl rfl ?_
   apply Exists.intro
   refine ⟨fun a wz hc hk hf K hK=>?_,?_⟩
   ·have h5:=hk 5 (by kernel_rfl)
    have h31:=held_isV hf 1 rfl (by kernel_rfl)
    clear hk hf hc
    go_simp
    exact hK _ _ (Below.refl _ _) rfl
   refine calm_fixA rfl rfl ?_
   apply Exists.intro
   refine ⟨fun a wz hc hk hf K hK=>?_,?_⟩
   ·have hb:Below wr.heap.size wr wz:=hc rfl
    have h32:=held_isV hf 1 rfl (by kernel_rfl)
    have h33:=held_isV hf 0 rfl (by kernel_rfl)
    have h31:=held_isV hf 2 rfl (by kernel_rfl)
    clear hk hf hc
    have hp0:i < L.length:=HLI.out
    have hp1:(i:Int) < (L.length:Int):=by omega
    have hp2:(0:Int)≤(i:Int):=by omega
    go_simp
    exact hK _ _ (Below.refl _ _) rfl
   refine calm_fixA rfl rfl ?_
   apply Exists.intro
   refine ⟨fun a wz hc hk hf K hK=>?_,?_⟩
   ·have h34:=held_isV hf 0 rfl (by kernel_rfl)
    have h31:=held_isV hf 3 rfl (by kernel_rfl)
    clear hk hf hc
    go_simp
    exact hK _ _ (Below.refl _ _) rfl
   refine calm_fixA rfl rfl ?_
   apply Exists.intro
   refine ⟨fun a wz hc hk hf K hK=>?_,?_⟩
   ·have hb:Below wr.heap.size wr wz:=hc rfl
    have h35:=held_isV hf 0 rfl (by kernel_rfl)
    have h31:=held_isV hf 4 rfl (by kernel_rfl)
    clear hk hf hc
    have x0:=X10.out wz (HBR.out.trans (hb.mono HBR.out.size))
    go_simp
    exact hK _ _ (Below.refl _ _) rfl
   refine calm_fixA rfl rfl ?_
   apply Exists.intro
   refine ⟨fun a wz hc hk hf K hK=>?_,?_⟩
   ·have h1:=hk 1 (by kernel_rfl)
    have h31:=held_isV hf 5 rfl (by kernel_rfl)
    clear hk hf hc
    go_simp
    exact hK _ _ (Below.refl _ _) rfl
   refine calm_fixA rfl rfl ?_
   apply Exists.intro
   refine ⟨fun a wz hc hk hf K hK=>?_,?_⟩
   ·have h5:=hk 5 (by kernel_rfl)
    have h31:=held_isV hf 6 rfl (by kernel_rfl)
    clear hk hf hc
    go_simp
    exact hK _ _ (Below.refl _ _) rfl
   refine calm_fixA rfl rfl ?_
   apply Exists.intro
   refine ⟨fun a wz hc hk hf K hK=>?_,?_⟩
   ·have hb:Below wr.heap.size wr wz:=hc rfl
    have h37:=held_isV hf 1 rfl (by kernel_rfl)
    have h38:=held_isV hf 0 rfl (by kernel_rfl)
    have h31:=held_isV hf 7 rfl (by kernel_rfl)
    clear hk hf hc
    have hp0:i < L.length:=HLI.out
    have hp1:(i:Int) < (L.length:Int):=by omega
    have hp2:(0:Int)≤(i:Int):=by omega
    go_simp
    exact hK _ _ (Below.refl _ _) rfl
   refine calm_fixA rfl rfl ?_
   apply Exists.intro
   refine ⟨fun a wz hc hk hf K hK=>?_,?_⟩
   ·have h39:=held_isV hf 0 rfl (by kernel_rfl)
    have h31:=held_isV hf 8 rfl (by kernel_rfl)
    clear hk hf hc
    go_simp
    exact hK _ _ (Below.refl _ _) rfl
   refine calm_fixA rfl rfl ?_
   apply Exists.intro
   refine ⟨fun a wz hc hk hf K hK=>?_,?_⟩
   ·have hb:Below wr.heap.size wr wz:=hc rfl
    have h40:=held_isV hf 0 rfl (by kernel_rfl)
    have h31:=held_isV hf 9 rfl (by kernel_rfl)
    clear hk hf hc
    have x0:=X20.out wz (HBR.out.trans (hb.mono HBR.out.size))
    go_simp
    exact hK _ _ (Below.refl _ _) rfl
   refine calm_fixA rfl rfl ?_
   apply Exists.intro
   refine ⟨fun a wz hc hk hf K hK=>?_,?_⟩
   ·have hb:Below wr.heap.size wr wz:=hc rfl
    have h36:=held_isV hf 5 rfl (by kernel_rfl)
    have h41:=held_isV hf 0 rfl (by kernel_rfl)
    have h31:=held_isV hf 10 rfl (by kernel_rfl)
    clear hk hf hc
    go_simp
    refine Calls.mono (HQ.out wz hb) ?_
    rintro e w1 ⟨rfl,hq⟩
    exact hK _ _ hq rfl
   refine calm_fixA rfl rfl ?_
   apply Exists.intro
   refine ⟨fun a wz hc hk hf K hK=>?_,?_⟩
   ·have h42:=held_isV hf 0 rfl (by kernel_rfl)
    have h31:=held_isV hf 11 rfl (by kernel_rfl)
    clear hk hf hc
    go_simp
    exact hK _ _ (Below.refl _ _) rfl
   refine calm_fixA rfl rfl ?_
   apply Exists.intro
   refine ⟨fun a wz hc hk hf K hK=>?_,?_⟩
   ·have h31:=held_isV hf 12 rfl (by kernel_rfl)
    have h43:=held_isV hf 0 rfl (by kernel_rfl)
    clear hk hf hc
    go_simp
    exact hK _ _ (Below.refl _ _) rfl
   refine calm_fixA rfl rfl ?_
   apply Exists.intro
   refine ⟨fun a wz hc hk hf K hK=>?_,?_⟩
   ·have h44:=held_isV hf 0 rfl (by kernel_rfl)
    clear hk hf hc
    go_simp
    exact hK _ _ (Below.refl _ _) rfl
   refine calm_fixA rfl rfl ?_
   apply Exists.intro
   refine ⟨fun a wz hc hk hf K hK=>?_,?_⟩
   ·have h0:=hk 0 (by kernel_rfl)
    have h45:=held_isV hf 0 rfl (by kernel_rfl)
    clear hk hf hc
    go_simp
    exact hK _ _ (Below.refl _ _) rfl
   refine calm_fixA rfl rfl ?_
   apply Exists.intro
   refine ⟨fun a wz hc hk hf K hK=>?_,?_⟩
   ·have h5:=hk 5 (by kernel_rfl)
    have h45:=held_isV hf 1 rfl (by kernel_rfl)
    clear hk hf hc
    go_simp
    exact hK _ _ (Below.refl _ _) rfl
   refine calm_fixA rfl rfl ?_
   apply Exists.intro
   refine ⟨fun a wz hc hk hf K hK=>?_,?_⟩
   ·have hb:Below wr.heap.size wr wz:=hc rfl
    have h46:=held_isV hf 1 rfl (by kernel_rfl)
    have h47:=held_isV hf 0 rfl (by kernel_rfl)
    have h45:=held_isV hf 2 rfl (by kernel_rfl)
    clear hk hf hc
    have hp0:i < L.length:=HLI.out
    have hp1:(i:Int) < (L.length:Int):=by omega
    have hp2:(0:Int)≤(i:Int):=by omega
    go_simp
    exact hK _ _ (Below.refl _ _) rfl
   refine calm_fixA rfl rfl ?_
   apply Exists.intro
   refine ⟨fun a wz hc hk hf K hK=>?_,?_⟩
   ·have h48:=held_isV hf 0 rfl (by kernel_rfl)
    have h45:=held_isV hf 3 rfl (by kernel_rfl)
    clear hk hf hc
    go_simp
    exact hK _ _ (Below.refl _ _) rfl
   refine calm_fixA rfl rfl ?_
   apply Exists.intro
   refine ⟨fun a wz hc hk hf K hK=>?_,?_⟩
   ·have hb:Below wr.heap.size wr wz:=hc rfl
    have h49:=held_isV hf 0 rfl (by kernel_rfl)
    have h45:=held_isV hf 4 rfl (by kernel_rfl)
    clear hk hf hc
    have x0:=X12.out wz (HBR.out.trans (hb.mono HBR.out.size))
    go_simp
    exact hK _ _ (Below.refl _ _) rfl
   refine calm_fixA rfl rfl ?_
   apply Exists.intro
   refine ⟨fun a wz hc hk hf K hK=>?_,?_⟩
   ·have h50:=held_isV hf 0 rfl (by kernel_rfl)
    have h45:=held_isV hf 5 rfl (by kernel_rfl)
    clear hk hf hc
    go_simp
    exact hK _ _ (Below.refl _ _) rfl
   refine calm_fixA rfl rfl ?_
   apply Exists.intro
   refine ⟨fun a wz hc hk hf K hK=>?_,?_⟩
   ·have h1:=hk 1 (by kernel_rfl)
    have h45:=held_isV hf 6 rfl (by kernel_rfl)
    clear hk hf hc
    go_simp
    exact hK _ _ (Below.refl _ _) rfl
   refine calm_fixA rfl rfl ?_
   apply Exists.intro
   refine ⟨fun a wz hc hk hf K hK=>?_,?_⟩
   ·have h5:=hk 5 (by kernel_rfl)
    have h45:=held_isV hf 7 rfl (by kernel_rfl)
    clear hk hf hc
    go_simp
    exact hK _ _ (Below.refl _ _) rfl
   refine calm_fixA rfl rfl ?_
   apply Exists.intro
   refine ⟨fun a wz hc hk hf K hK=>?_,?_⟩
   ·have hb:Below wr.heap.size wr wz:=hc rfl
    have h52:=held_isV hf 1 rfl (by kernel_rfl)
    have h53:=held_isV hf 0 rfl (by kernel_rfl)
    have h45:=held_isV hf 8 rfl (by kernel_rfl)
    clear hk hf hc
    have hp0:i < L.length:=HLI.out
    have hp1:(i:Int) < (L.length:Int):=by omega
    have hp2:(0:Int)≤(i:Int):=by omega
    go_simp
    exact hK _ _ (Below.refl _ _) rfl
   refine calm_fixA rfl rfl ?_
   apply Exists.intro
   refine ⟨fun a wz hc hk hf K hK=>?_,?_⟩
   ·have h54:=held_isV hf 0 rfl (by kernel_rfl)
    have h45:=held_isV hf 9 rfl (by kernel_rfl)
    clear hk hf hc
    go_simp
    exact hK _ _ (Below.refl _ _) rfl
   refine calm_fixA rfl rfl ?_
   apply Exists.intro
   refine ⟨fun a wz hc hk hf K hK=>?_,?_⟩
   ·have hb:Below wr.heap.size wr wz:=hc rfl
    have h55:=held_isV hf 0 rfl (by kernel_rfl)
    have h45:=held_isV hf 10 rfl (by kernel_rfl)
    clear hk hf hc
    have x0:=X22.out wz (HBR.out.trans (hb.mono HBR.out.size))
    go_simp
    exact hK _ _ (Below.refl _ _) rfl
   refine calm_fixA rfl rfl ?_
   apply Exists.intro
   refine ⟨fun a wz hc hk hf K hK=>?_,?_⟩
   ·have h56:=held_isV hf 0 rfl (by kernel_rfl)
    have h45:=held_isV hf 11 rfl (by kernel_rfl)
    clear hk hf hc
    go_simp
    exact hK _ _ (Below.refl _ _) rfl
   refine calm_fixA rfl rfl ?_
   apply Exists.intro
   refine ⟨fun a wz hc hk hf K hK=>?_,?_⟩
   ·have hb:Below wr.heap.size wr wz:=hc rfl
    have h51:=held_isV hf 6 rfl (by kernel_rfl)
    have h57:=held_isV hf 0 rfl (by kernel_rfl)
    have h45:=held_isV hf 12 rfl (by kernel_rfl)
    clear hk hf hc
    have e0:=EP.out
    have e1:=EP2.out
    go_simp
    exact hK _ _ (Below.refl _ _) rfl
   refine calm_fixA rfl rfl ?_
   apply Exists.intro
   refine ⟨fun a wz hc hk hf K hK=>?_,?_⟩
   ·have h45:=held_isV hf 13 rfl (by kernel_rfl)
    have h58:=held_isV hf 0 rfl (by kernel_rfl)
    clear hk hf hc
    go_simp
    exact hK _ _ (Below.refl _ _) rfl
   refine calm_nil ?_
   refine ⟨keeps_none,?_⟩
   intro w6 hc
   simp only [lexL,calmEnd]
   rintro _ rfl _ rfl _ rfl _ rfl _ rfl _ rfl _ rfl _ rfl _ rfl _ rfl _ rfl _ rfl _ rfl _ rfl _ rfl _ rfl _ rfl _ rfl _ rfl _ rfl _ rfl _ rfl _ rfl _ rfl _ rfl _ rfl _ rfl _ rfl _ rfl _ rfl _ rfl _ rfl _ rfl _ rfl _ rfl _ rfl _ rfl _ rfl _ rfl _ rfl
   have hb6:Below wr.heap.size wr w6:=hc rfl
   clear hc
   simp only [Act.put,List.setIfInBounds_toArray,List.set_cons_zero,List.set_cons_succ]
   have HB6:=Lib.hid (HBR.out.trans (hb6.mono HBR.out.size))
   clear hb6 HQ EN EN2 EP EP2 HBR
   go_wp2
   go_loopw [6] (fun j ws=>∃ k:Nat,k≤g.parts.length∧j=.int .i64 k∧Hid (Below w.heap.size w ws)) (fun j _=>g.parts.length-(intOf j).toNat)
   case atStart=>exact ⟨0,Nat.zero_le _,rfl,HB6.out⟩
   case round =>
    obtain ⟨k,hk,rfl,HBS⟩:=hrel
    have x12:=X12.out wr HBS.out
    have x22:=X22.out wr HBS.out
    have hp0:i < L.length:=HLI.out
    have j1:(i:Int) < (L.length:Int):=by omega
    by_cases hkl:k < g.parts.length
    ·have j2:(k:Int) < (g.parts.length:Int):=by omega
     obtain ⟨c1,u1,rfl,hcl1,hcc1⟩:=HP1.out k hkl
     obtain ⟨c2,u2,rfl,hcl2,hcc2⟩:=HP2.out k hkl
     obtain ⟨⟨cv1,q⟩,-,-,hq1,hr1,hd1⟩:=hcc1 k hkl
     change q=_ at hq1
     obtain ⟨⟨cv2,q2⟩,-,-,hq2,hr2,hd2⟩:=hcc2 k hkl
     change q2=_ at hq2
     obtain rfl:q2=q:=hq2.trans hq1.symm
     change timesK.In _ w cv1 q2.cells at hr1
     change timesK.In _ w cv2 q2.cells at hr2
     obtain ⟨C1,pc1,rfl⟩:=hr1.slice
     obtain ⟨C2,pc2,rfl⟩:=hr2.slice
     have hsq:=HSQ.out q2 (by rw [hq1];exact List.getElem_mem hkl)
     have HT:Hid (∀ W,Below w.heap.size w W→GivesAt Tryz.prog 12 #[.slice C1 q2.cells.length pc1,.slice C2 q2.cells.length pc2] W (.bool true)):=fun W hW=>by
      have:=same_times (timesK_times (hr1.kept hW)) (timesK_times (hr2.kept hW)) hsq.1 hsq.2 hsq.2
      rwa [decide_eq_true rfl] at this
     obtain ⟨⟨s1,s2⟩,hss⟩:∃ s,toW q2.s=s:=⟨_,rfl⟩
     have Y10:Hid (∀ W,Below w.heap.size w W→W.cell? ⟨c1,u1+k*4,none⟩=some (.int .i64 q2.n)):=fun W hW=>(hW.cell (p:=⟨c1,u1+k*4+0,none⟩) hcl1).trans ((hd1 0 _ rfl).trans (by rfl))
     have Y11:Hid (∀ W,Below w.heap.size w W→W.cell? ⟨c1,u1+k*4+1,none⟩=some (.int .i64 s1)):=fun W hW=>(hW.cell (p:=⟨c1,u1+k*4+1,none⟩) hcl1).trans ((hd1 1 _ rfl).trans (by simp only [hss]))
     have Y12:Hid (∀ W,Below w.heap.size w W→W.cell? ⟨c1,u1+k*4+2,none⟩=some (.int .u64 s2)):=fun W hW=>(hW.cell (p:=⟨c1,u1+k*4+2,none⟩) hcl1).trans ((hd1 2 _ rfl).trans (by simp only [hss]))
     have Y13:Hid (∀ W,Below w.heap.size w W→W.cell? ⟨c1,u1+k*4+3,none⟩=some (.slice C1 q2.cells.length pc1)):=fun W hW=>(hW.cell (p:=⟨c1,u1+k*4+3,none⟩) hcl1).trans ((hd1 3 _ rfl).trans (by rfl))
     have Y20:Hid (∀ W,Below w.heap.size w W→W.cell? ⟨c2,u2+k*4,none⟩=some (.int .i64 q2.n)):=fun W hW=>(hW.cell (p:=⟨c2,u2+k*4+0,none⟩) hcl2).trans ((hd2 0 _ rfl).trans (by rfl))
     have Y21:Hid (∀ W,Below w.heap.size w W→W.cell? ⟨c2,u2+k*4+1,none⟩=some (.int .i64 s1)):=fun W hW=>(hW.cell (p:=⟨c2,u2+k*4+1,none⟩) hcl2).trans ((hd2 1 _ rfl).trans (by simp only [hss]))
     have Y22:Hid (∀ W,Below w.heap.size w W→W.cell? ⟨c2,u2+k*4+2,none⟩=some (.int .u64 s2)):=fun W hW=>(hW.cell (p:=⟨c2,u2+k*4+2,none⟩) hcl2).trans ((hd2 2 _ rfl).trans (by simp only [hss]))
     have Y23:Hid (∀ W,Below w.heap.size w W→W.cell? ⟨c2,u2+k*4+3,none⟩=some (.slice C2 q2.cells.length pc2)):=fun W hW=>(hW.cell (p:=⟨c2,u2+k*4+3,none⟩) hcl2).trans ((hd2 3 _ rfl).trans (by rfl))
     have HLK:Hid (k < g.parts.length):=hkl
     clear hcc1 hcc2 hq1 hq2 hr1 hr2 hd1 hd2 hss hsq
     generalize q2=q at *
     go_wp2_with fail
     clear x12 x22
     refine wp_region_m (TwoC wr 16 17 18 19 [.int .i64 0,.int .i64 0,.int .u64 0,.slice none 0 0] [.int .i64 q.n,.int .i64 s1,.int .u64 s2,.slice C1 q.cells.length pc1]) (fun k=>k==16||k==17||k==18||k==19) (fun k m=>(m==16&&[].contains k)||(m==17&&[].contains k)||(m==18&&[0,1,2,3,4,5,6,7,16,17].contains k)||(m==19&&[0,1,2,3,4,5,6,7,8,9,10,11,12,13,14,15,16,17,18].contains k)) (fun k m=>(m==16&&[18,19].contains k)||(m==17&&[18,19].contains k)||(m==18&&[19].contains k)||(m==19&&[].contains k)) (fun m v w w1=>if m=16∨m=17 then Below w.heap.size w w1∧v=ptrV w.heap.size else True) (by kernel_rfl) (by kernel_rfl) (by kernel_rfl) (by kernel_rfl) (by intro m hm;revert hm;simp;try omega) (twoC_stable wr 16 17 18 19 [.int .i64 0,.int .i64 0,.int .u64 0,.slice none 0 0] [.int .i64 q.n,.int .i64 s1,.int .u64 s2,.slice C1 q.cells.length pc1]) (twoC_start wr 16 17 18 19 [.int .i64 0,.int .i64 0,.int .u64 0,.slice none 0 0] [.int .i64 q.n,.int .i64 s1,.int .u64 s2,.slice C1 q.cells.length pc1]) ?_
     refine m_fix rfl ?_
     apply Exists.intro
     refine ⟨fun ph a wz hp hc hk hf K hK=>?_,?_⟩
     ·have h0:=hk 0 (by kernel_rfl)
      clear hk hf hc
      go_simp
      exact hK _ _ (Below.refl _ _) rfl
     refine m_fix rfl ?_
     apply Exists.intro
     refine ⟨fun ph a wz hp hc hk hf K hK=>?_,?_⟩
     ·have h5:=hk 5 (by kernel_rfl)
      clear hk hf hc
      go_simp
      exact hK _ _ (Below.refl _ _) rfl
     refine m_fix rfl ?_
     apply Exists.intro
     refine ⟨fun ph a wz hp hc hk hf K hK=>?_,?_⟩
     ·have hb:Below wr.heap.size wr wz:=hc.below
      have h70:=mheld_isV hf 1 rfl (by kernel_rfl)
      have h71:=mheld_isV hf 0 rfl (by kernel_rfl)
      clear hk hf hc
      have hp0:i < L.length:=HLI.out
      have hp1:(i:Int) < (L.length:Int):=by omega
      have hp2:(0:Int)≤(i:Int):=by omega
      go_simp
      exact hK _ _ (Below.refl _ _) rfl
     refine m_fix rfl ?_
     apply Exists.intro
     refine ⟨fun ph a wz hp hc hk hf K hK=>?_,?_⟩
     ·have h72:=mheld_isV hf 0 rfl (by kernel_rfl)
      clear hk hf hc
      go_simp
      exact hK _ _ (Below.refl _ _) rfl
     refine m_fix rfl ?_
     apply Exists.intro
     refine ⟨fun ph a wz hp hc hk hf K hK=>?_,?_⟩
     ·have hb:Below wr.heap.size wr wz:=hc.below
      have h73:=mheld_isV hf 0 rfl (by kernel_rfl)
      clear hk hf hc
      have x0:=X12.out wz (HBS.out.trans (hb.mono HBS.out.size))
      go_simp
      exact hK _ _ (Below.refl _ _) rfl
     refine m_fix rfl ?_
     apply Exists.intro
     refine ⟨fun ph a wz hp hc hk hf K hK=>?_,?_⟩
     ·have h6:=hk 6 (by kernel_rfl)
      clear hk hf hc
      go_simp
      exact hK _ _ (Below.refl _ _) rfl
     refine m_fix rfl ?_
     apply Exists.intro
     refine ⟨fun ph a wz hp hc hk hf K hK=>?_,?_⟩
     ·have hb:Below wr.heap.size wr wz:=hc.below
      have h74:=mheld_isV hf 1 rfl (by kernel_rfl)
      have h75:=mheld_isV hf 0 rfl (by kernel_rfl)
      clear hk hf hc
      have hp0:k < g.parts.length:=HLK.out
      have hp1:(k:Int) < (g.parts.length:Int):=by omega
      have hp2:(0:Int)≤(k:Int):=by omega
      go_simp
      exact hK _ _ (Below.refl _ _) rfl
     refine m_fix rfl ?_
     apply Exists.intro
     refine ⟨fun ph a wz hp hc hk hf K hK=>?_,?_⟩
     ·have hb:Below wr.heap.size wr wz:=hc.below
      have h76:=mheld_isV hf 0 rfl (by kernel_rfl)
      clear hk hf hc
      have y0:=Y10.out wz (HBS.out.trans (hb.mono HBS.out.size))
      have y1:=Y11.out wz (HBS.out.trans (hb.mono HBS.out.size))
      have y2:=Y12.out wz (HBS.out.trans (hb.mono HBS.out.size))
      have y3:=Y13.out wz (HBS.out.trans (hb.mono HBS.out.size))
      go_simp
      exact hK _ _ (Below.refl _ _) rfl
     refine m_fix rfl ?_
     apply Exists.intro
     refine ⟨fun ph a wz hp hc hk hf K hK=>?_,?_⟩
     ·have h1:=hk 1 (by kernel_rfl)
      clear hk hf hc
      go_simp
      exact hK _ _ (Below.refl _ _) rfl
     refine m_fix rfl ?_
     apply Exists.intro
     refine ⟨fun ph a wz hp hc hk hf K hK=>?_,?_⟩
     ·have h5:=hk 5 (by kernel_rfl)
      clear hk hf hc
      go_simp
      exact hK _ _ (Below.refl _ _) rfl
     refine m_fix rfl ?_
     apply Exists.intro
     refine ⟨fun ph a wz hp hc hk hf K hK=>?_,?_⟩
     ·have hb:Below wr.heap.size wr wz:=hc.below
      have h78:=mheld_isV hf 1 rfl (by kernel_rfl)
      have h79:=mheld_isV hf 0 rfl (by kernel_rfl)
      clear hk hf hc
      have hp0:i < L.length:=HLI.out
      have hp1:(i:Int) < (L.length:Int):=by omega
      have hp2:(0:Int)≤(i:Int):=by omega
      go_simp
      exact hK _ _ (Below.refl _ _) rfl
     refine m_fix rfl ?_
     apply Exists.intro
     refine ⟨fun ph a wz hp hc hk hf K hK=>?_,?_⟩
     ·have h80:=mheld_isV hf 0 rfl (by kernel_rfl)
      clear hk hf hc
      go_simp
      exact hK _ _ (Below.refl _ _) rfl
     refine m_fix rfl ?_
     apply Exists.intro
     refine ⟨fun ph a wz hp hc hk hf K hK=>?_,?_⟩
     ·have hb:Below wr.heap.size wr wz:=hc.below
      have h81:=mheld_isV hf 0 rfl (by kernel_rfl)
      clear hk hf hc
      have x0:=X22.out wz (HBS.out.trans (hb.mono HBS.out.size))
      go_simp
      exact hK _ _ (Below.refl _ _) rfl
     refine m_fix rfl ?_
     apply Exists.intro
     refine ⟨fun ph a wz hp hc hk hf K hK=>?_,?_⟩
     ·have h6:=hk 6 (by kernel_rfl)
      clear hk hf hc
      go_simp
      exact hK _ _ (Below.refl _ _) rfl
     refine m_fix rfl ?_
     apply Exists.intro
     refine ⟨fun ph a wz hp hc hk hf K hK=>?_,?_⟩
     ·have hb:Below wr.heap.size wr wz:=hc.below
      have h82:=mheld_isV hf 1 rfl (by kernel_rfl)
      have h83:=mheld_isV hf 0 rfl (by kernel_rfl)
      clear hk hf hc
      have hp0:k < g.parts.length:=HLK.out
      have hp1:(k:Int) < (g.parts.length:Int):=by omega
      have hp2:(0:Int)≤(k:Int):=by omega
      go_simp
      exact hK _ _ (Below.refl _ _) rfl
     refine m_fix rfl ?_
     apply Exists.intro
     refine ⟨fun ph a wz hp hc hk hf K hK=>?_,?_⟩
     ·have hb:Below wr.heap.size wr wz:=hc.below
      have h84:=mheld_isV hf 0 rfl (by kernel_rfl)
      clear hk hf hc
      have y0:=Y20.out wz (HBS.out.trans (hb.mono HBS.out.size))
      have y1:=Y21.out wz (HBS.out.trans (hb.mono HBS.out.size))
      have y2:=Y22.out wz (HBS.out.trans (hb.mono HBS.out.size))
      have y3:=Y23.out wz (HBS.out.trans (hb.mono HBS.out.size))
      go_simp
      exact hK _ _ (Below.refl _ _) rfl
     refine m_store (bxM 16) rfl stable_bxM (fun ph a wz hp hph hc hk hf K hK=>?_) ?_
     ·have hb:Below wr.heap.size wr wz:=hc.below
      clear hk hf
      go_simp
      refine hK _ _ ⟨Below.alloc (.refl _ _) (Nat.le_refl _) _,rfl⟩ (hc.first (hp.1 18 rfl rfl) (hp.1 19 rfl rfl) (by decide) (by decide) 72) (setP_self _ _ _)
     refine m_store (bxM 17) rfl stable_bxM (fun ph a wz hp hph hc hk hf K hK=>?_) ?_
     ·have hb:Below wr.heap.size wr wz:=hc.below
      clear hk hf
      go_simp
      refine hK _ _ ⟨Below.alloc (.refl _ _) (Nat.le_refl _) _,rfl⟩ (hc.second (by decide) (by decide) 72) (setP_self _ _ _)
     refine m_store okM rfl stable_okM (fun ph a wz hp hph hc hk hf K hK=>?_) ?_
     ·have hb:Below wr.heap.size wr wz:=hc.below
      obtain ⟨v7,h7,S7⟩:=mheld_at hf 1 rfl (by kernel_rfl)
      have h77:=mheld_isV hf 10 rfl (by kernel_rfl)
      clear hk hf
      obtain ⟨b,rfl,hb1,hbx⟩:=hc.one _ S7
      rw [hph] at hbx
      obtain ⟨⟨c0,c1,c2,c3⟩,f0,f1,f2,f3⟩:=CBox.four hbx
      have HF:=Lib.hid (hc.fill S7 (hp.1 19 rfl rfl) (by decide) (by decide) (below_four hb hb1 (.int .i64 q.n) (.int .i64 s1) (.int .u64 s2) (.slice C1 q.cells.length pc1)) (four_grown wz b (.int .i64 q.n) (.int .i64 s1) (.int .u64 s2) (.slice C1 q.cells.length pc1)) (CBox.four_put hbx))
      clear hbx S7 hc hp
      go_simp
      exact hK undef _ trivial HF.out trivial
     refine m_store (twoEndM wr 16 17 [.int .i64 q.n,.int .i64 s1,.int .u64 s2,.slice C1 q.cells.length pc1] [.int .i64 q.n,.int .i64 s1,.int .u64 s2,.slice C2 q.cells.length pc2]) rfl stable_twoEndM (fun ph a wz hp hph hc hk hf K hK=>?_) ?_
     ·have hb:Below wr.heap.size wr wz:=hc.below
      obtain ⟨v8,h8,S8⟩:=mheld_at hf 1 rfl (by kernel_rfl)
      have h85:=mheld_isV hf 3 rfl (by kernel_rfl)
      clear hk hf
      obtain ⟨b,rfl,hb1,hbx0⟩:=hc.two _ S8
      have hbx:=hbx0 hph
      have h16:=hp.2 16 rfl rfl
      have h18:=hp.2 18 rfl rfl
      obtain ⟨z,hz⟩:=Option.isSome_iff_exists.1 h16
      obtain ⟨a,rfl,ha1,hax⟩:=hc.one _ hz
      rw [h18] at hax
      have hne:a≠b:=fun e=>by subst e;exact hc.apart _ hz S8
      obtain ⟨⟨c0,c1,c2,c3⟩,f0,f1,f2,f3⟩:=CBox.four hbx
      have hgw:=four_grown wz b (.int .i64 q.n) (.int .i64 s1) (.int .u64 s2) (.slice C2 q.cells.length pc2)
      have hbe:=below_four hb hb1 (.int .i64 q.n) (.int .i64 s1) (.int .u64 s2) (.slice C2 q.cells.length pc2)
      have HF:=Lib.hid (hc.last S8 (by decide) (by decide) (by decide) hbe hgw)
      have HE:Hid (twoEndM wr 16 17 [.int .i64 q.n,.int .i64 s1,.int .u64 s2,.slice C1 q.cells.length pc1] [.int .i64 q.n,.int .i64 s1,.int .u64 s2,.slice C2 q.cells.length pc2] (setP ph 19 undef) undef _):=Lib.hid (fun p q' hp1 hq1=>by
       rw [setP_ne _ (by decide),hz] at hp1
       rw [setP_ne _ (by decide),S8] at hq1
       obtain rfl:=Option.some.inj hp1
       obtain rfl:=Option.some.inj hq1
       exact ⟨a,b,rfl,rfl,hne,ha1,hb1,CBox.other hax hgw (fun e=>hne (Option.some.inj e).symm),CBox.four_put hbx,hbe⟩)
      clear hbx hbx0 hax S8 hc hp hz h16 h18 hgw hbe
      go_simp
      exact hK undef _ trivial HF.out HE.out
     refine m_nil ?_
     refine ⟨keeps_m (fun m hm=>?_),?_⟩
     ·have hm2:m=16∨m=17∨m=18∨m=19:=by simpa [or_assoc] using hm
      rcases hm2 with rfl|rfl|rfl|rfl
      ·exact ⟨.inr (.inr (keep_isV _)),.inr (.inr (keep_isV _)),.inr (.inr (keep_isV _)),.inr (.inr (keep_isV _)),.inr (.inr (keep_isV _)),.inr (.inr (keep_isV _)),.inr (.inr (keep_isV _)),.inr (.inr (keep_isV _)),.inr (.inr (keep_isV _)),.inr (.inr (keep_isV _)),.inr (.inr (keep_isV _)),.inr (.inr (keep_isV _)),.inr (.inr (keep_isV _)),.inr (.inr (keep_isV _)),.inr (.inr (keep_isV _)),.inr (.inr (keep_isV _)),.inl rfl,.inr (.inr (keep_bx (by decide))),.inr (.inl rfl),.inr (.inl rfl),trivial⟩
      ·exact ⟨.inr (.inr (keep_isV _)),.inr (.inr (keep_isV _)),.inr (.inr (keep_isV _)),.inr (.inr (keep_isV _)),.inr (.inr (keep_isV _)),.inr (.inr (keep_isV _)),.inr (.inr (keep_isV _)),.inr (.inr (keep_isV _)),.inr (.inr (keep_isV _)),.inr (.inr (keep_isV _)),.inr (.inr (keep_isV _)),.inr (.inr (keep_isV _)),.inr (.inr (keep_isV _)),.inr (.inr (keep_isV _)),.inr (.inr (keep_isV _)),.inr (.inr (keep_isV _)),.inr (.inr (keep_bx (by decide))),.inl rfl,.inr (.inl rfl),.inr (.inl rfl),trivial⟩
      ·exact ⟨.inr (.inr (keep_isV _)),.inr (.inr (keep_isV _)),.inr (.inr (keep_isV _)),.inr (.inr (keep_isV _)),.inr (.inr (keep_isV _)),.inr (.inr (keep_isV _)),.inr (.inr (keep_isV _)),.inr (.inr (keep_isV _)),.inr (.inr (keep_isV _)),.inr (.inr (keep_isV _)),.inr (.inr (keep_isV _)),.inr (.inr (keep_isV _)),.inr (.inr (keep_isV _)),.inr (.inr (keep_isV _)),.inr (.inr (keep_isV _)),.inr (.inr (keep_isV _)),.inr (.inr (keep_bx (by decide))),.inr (.inr (keep_bx (by decide))),.inl rfl,.inr (.inl rfl),trivial⟩
      ·exact ⟨.inr (.inr (keep_isV _)),.inr (.inr (keep_isV _)),.inr (.inr (keep_isV _)),.inr (.inr (keep_isV _)),.inr (.inr (keep_isV _)),.inr (.inr (keep_isV _)),.inr (.inr (keep_isV _)),.inr (.inr (keep_isV _)),.inr (.inr (keep_isV _)),.inr (.inr (keep_isV _)),.inr (.inr (keep_isV _)),.inr (.inr (keep_isV _)),.inr (.inr (keep_isV _)),.inr (.inr (keep_isV _)),.inr (.inr (keep_isV _)),.inr (.inr (keep_isV _)),.inr (.inr (keep_bx (by decide))),.inr (.inr (keep_bx (by decide))),.inr (.inr keep_okM),.inl rfl,trivial⟩
     intro ph w7 hps hc
     simp only [mlexL,mEnd]
     rintro _ rfl _ rfl _ rfl _ rfl _ rfl _ rfl _ rfl _ rfl _ rfl _ rfl _ rfl _ rfl _ rfl _ rfl _ rfl _ rfl v7 S7 v8 S8 _ hst18 _ hst19
     obtain ⟨e1,e2,rfl,rfl,hne,he1,he2,hx1,hx2,hb7⟩:=hst19 v7 v8 S7 S8
     clear hst19 S7 S8 hst18 hc hps
     simp only [Act.put,List.setIfInBounds_toArray,List.set_cons_zero,List.set_cons_succ]
     have HB7:=Lib.hid (HBS.out.trans (hb7.mono HBS.out.size))
     obtain ⟨⟨z10,z11,z12,z13⟩,-⟩:=CBox.four hx1
     obtain ⟨⟨z20,z21,z22,z23⟩,-⟩:=CBox.four hx2
     have n1:(q.n==q.n)=true:=by simp
     have n2:(q.n != q.n)=false:=by simp
     have n3:(s1==s1)=true:=by simp
     have n4:(s2==s2)=true:=by simp
     have HT7:=Lib.hid (HT.out w7 HB7.out)
     clear hx1 hx2 hb7 HBS HT he1 he2 hne
     go_wp2_with (go_at_call 12;refine Calls.mono HT7.out ?_;rintro e w8 ⟨rfl,hq8⟩;have HB8:=Lib.hid (HB7.out.trans (hq8.mono HB7.out.size));clear hq8 z10 z11 z12 z13 z20 z21 z22 z23 HT7)
     go_roundw
     case rel=>exact ⟨k+1,HLK.out,by go_num,HB8.out⟩
     case measure=>have:=HLK.out;simp [intOf];omega
    ·have hkk:k=g.parts.length:=by omega
     subst hkk
     have j2:¬(g.parts.length:Int) < (g.parts.length:Int):=by omega
     go_wp2
     go_roundw
     case rel=>exact ⟨i+1,hp0,by go_num,HBS.out⟩
     case measure=>simp [intOf];omega
  ·have hii:i=L.length:=by omega
   subst hii
   have j1:¬(L.length:Int) < (L.length:Int):=by omega
   go_wp2
   go_ret
   exact ⟨rfl,HBR.out⟩
set_option maxHeartbeats 8000000 in
set_option maxRecDepth 100000 in
theorem awake21_calls:Gives Tryz.prog 5 #[] (.bool true):=by
 intro w
 obtain ⟨hb,hB⟩:=start w
 clear hB
 go_enter Tryz.func5,Tryz.ntmps5
 go_wp2_with fail
 have HZ:Hid (w.heap.size=w.heap.size):=Lib.hid rfl
 have hq:Below w.heap.size w (w.alloc (.cells #[.int .i64 1,.int .i64 0,.int .i64 2,.int .i64 1,.int .i64 3,.int .i64 1] 28)):=Below.alloc (.refl _ _) (Nat.le_refl _) _
 have h:=lit_on w 28 gs21 (by show 3≤1000;decide)
 rw [HZ.out] at h
 have HO:Hid (OnIn (w.alloc (.cells #[.int .i64 1,.int .i64 0,.int .i64 2,.int .i64 1,.int .i64 3,.int .i64 1] 28)) (.slice (some ⟨w.heap.size,0,none⟩) 3 3) gs21):=h
 replace HZ:Hid ((w.alloc (.cells #[.int .i64 1,.int .i64 0,.int .i64 2,.int .i64 1,.int .i64 3,.int .i64 1] 28)).heap.size=w.heap.size+1):=by show _=_;rw [←HZ.out];simp
 clear h
 replace hb:=hb.trans (hq.mono hb.size)
 clear hq
 generalize World.alloc w _=w1 at *
 clear HZ
 have hc:=int_calls 5 (by decide) (by decide) w1
 refine hc.mono ?_
 clear hc
 rintro e w2 ⟨rfl,hq⟩
 replace HO:=Lib.hid (HO.out.kept hq)
 replace hb:=hb.trans (hq.mono hb.size)
 clear hq
 go_wp2_with fail
 have HZ:Hid (w2.heap.size=w2.heap.size):=Lib.hid rfl
 have hq:Below w2.heap.size w2 (w2.alloc (.cells #[.string ⟨#[116,97]⟩,.string (cellInt 5)] 9)):=Below.alloc (.refl _ _) (Nat.le_refl _) _
 have h:=lit_strs w2 9 [⟨#[116,97]⟩,(cellInt 5)] (by show 2≤1000;decide)
 rw [HZ.out] at h
 have HR1:Hid (StrsIn (w2.alloc (.cells #[.string ⟨#[116,97]⟩,.string (cellInt 5)] 9)) (.slice (some ⟨w2.heap.size,0,none⟩) 2 2) [⟨#[116,97]⟩,(cellInt 5)]):=h
 replace HZ:Hid ((w2.alloc (.cells #[.string ⟨#[116,97]⟩,.string (cellInt 5)] 9)).heap.size=w2.heap.size+1):=by show _=_;rw [←HZ.out];simp
 clear h
 replace HO:=Lib.hid (HO.out.kept hq)
 replace hb:=hb.trans (hq.mono hb.size)
 clear hq
 generalize World.alloc w2 _=w3 at *
 have hq:Below w3.heap.size w3 (w3.alloc (.cells #[.int .i64 0] 3)):=Below.alloc (.refl _ _) (Nat.le_refl _) _
 have h:=lit_ones (Value.int .i64) w3 3 [0] (by show 1≤1000;decide)
 rw [HZ.out] at h
 have HI:Hid (IntsIn (w3.alloc (.cells #[.int .i64 0] 3)) (.slice (some ⟨w2.heap.size+1,0,none⟩) 1 1) [0]):=h
 replace HZ:Hid ((w3.alloc (.cells #[.int .i64 0] 3)).heap.size=w2.heap.size+1+1):=by show _=_;rw [←HZ.out];simp
 clear h
 replace HO:=Lib.hid (HO.out.kept hq)
 replace HR1:=Lib.hid (StrsIn.kept HR1.out hq)
 replace hb:=hb.trans (hq.mono hb.size)
 clear hq
 generalize World.alloc w3 _=w4 at *
 clear HZ
 have hc:=int_calls 3 (by decide) (by decide) w4
 refine hc.mono ?_
 clear hc
 rintro e w5 ⟨rfl,hq⟩
 replace HO:=Lib.hid (HO.out.kept hq)
 replace HR1:=Lib.hid (StrsIn.kept HR1.out hq)
 replace HI:=Lib.hid (IntsIn.kept HI.out hq)
 replace hb:=hb.trans (hq.mono hb.size)
 clear hq
 go_wp2_with fail
 have HZ:Hid (w5.heap.size=w5.heap.size):=Lib.hid rfl
 have hq:Below w5.heap.size w5 (w5.alloc (.cells #[.string ⟨#[116,97]⟩,.string (cellInt 3)] 9)):=Below.alloc (.refl _ _) (Nat.le_refl _) _
 have h:=lit_strs w5 9 [⟨#[116,97]⟩,(cellInt 3)] (by show 2≤1000;decide)
 rw [HZ.out] at h
 have HR2:Hid (StrsIn (w5.alloc (.cells #[.string ⟨#[116,97]⟩,.string (cellInt 3)] 9)) (.slice (some ⟨w5.heap.size,0,none⟩) 2 2) [⟨#[116,97]⟩,(cellInt 3)]):=h
 replace HZ:Hid ((w5.alloc (.cells #[.string ⟨#[116,97]⟩,.string (cellInt 3)] 9)).heap.size=w5.heap.size+1):=by show _=_;rw [←HZ.out];simp
 clear h
 replace HO:=Lib.hid (HO.out.kept hq)
 replace HR1:=Lib.hid (StrsIn.kept HR1.out hq)
 replace HI:=Lib.hid (IntsIn.kept HI.out hq)
 replace hb:=hb.trans (hq.mono hb.size)
 clear hq
 generalize World.alloc w5 _=w6 at *
 have hq:Below w6.heap.size w6 (w6.alloc (.cells #[.slice (some ⟨w2.heap.size,0,none⟩) 2 2,.int .i64 2,.slice (some ⟨w5.heap.size,0,none⟩) 2 2,.int .i64 1] 49)):=Below.alloc (.refl _ _) (Nat.le_refl _) _
 have h:=lit_times w6 49 [((.slice (some ⟨w2.heap.size,0,none⟩) 2 2),2),((.slice (some ⟨w5.heap.size,0,none⟩) 2 2),1)] m1_21 ⟨⟨HR1.out,rfl⟩,⟨⟨HR2.out,rfl⟩,trivial⟩⟩ (by show 2≤1000;decide)
 rw [HZ.out] at h
 have HL:Hid (TimesIn (w6.alloc (.cells #[.slice (some ⟨w2.heap.size,0,none⟩) 2 2,.int .i64 2,.slice (some ⟨w5.heap.size,0,none⟩) 2 2,.int .i64 1] 49)) (.slice (some ⟨w5.heap.size+1,0,none⟩) 2 2) m1_21):=h
 replace HZ:Hid ((w6.alloc (.cells #[.slice (some ⟨w2.heap.size,0,none⟩) 2 2,.int .i64 2,.slice (some ⟨w5.heap.size,0,none⟩) 2 2,.int .i64 1] 49)).heap.size=w5.heap.size+1+1):=by show _=_;rw [←HZ.out];simp
 clear h
 replace HO:=Lib.hid (HO.out.kept hq)
 replace HR1:=Lib.hid (StrsIn.kept HR1.out hq)
 replace HI:=Lib.hid (IntsIn.kept HI.out hq)
 replace HR2:=Lib.hid (StrsIn.kept HR2.out hq)
 replace hb:=hb.trans (hq.mono hb.size)
 clear hq
 generalize World.alloc w6 _=w7 at *
 clear HZ
 clear HR2
 have hc:=gchange_calls (lv:=.slice none 0 0) (Kin.In.nil_ _ _ _ _ trivial) (.nil) HI.out HO.out HL.out (fun g hg=>absurd hg (by simp)) (by decide) (by decide) (by decide) (by decide)
 refine hc.mono ?_
 clear hc
 intro e w8 hend
 obtain ⟨gv,rv,rfl,hG,hT,hq⟩:=change_new hend aw_key1 (by decide) (by decide) aw_row1
 clear hend
 rw [aw_d1] at hT
 have HG:Hid (groupK.In (fun _=>True) w8 gv [(grpL [tA21] gs21 m1_21)]):=hG
 obtain ⟨tvg,Ag,cg,etg,eg,-,-,hatg⟩:=hG.at_
 obtain ⟨bg,og,rfl,hbg,hcg⟩:=hatg 0 (by decide)
 have eg2:gv=.slice (some ⟨bg,og,none⟩) 1 cg:=eg
 subst eg2
 obtain ⟨⟨kv,pv,g1⟩,-,-,hg1,hr1,hd1⟩:=hcg 0 (by decide)
 change g1=(grpL [tA21] gs21 m1_21) at hg1
 subst hg1
 have HGI:Hid (groupK.R (fun _=>True) w8 (kv,pv,(grpL [tA21] gs21 m1_21))):=hr1
 obtain ⟨Akv,pkv,Apv,ppv,rfl,rfl,-,-,-⟩:=group_open hr1
 have X0:Hid (w8.cell? ⟨bg,og,none⟩=some (.slice Akv 1 pkv)):=Lib.hid (hd1 0 _ rfl)
 have X1:Hid (w8.cell? ⟨bg,og+1,none⟩=some (.int .i64 3)):=Lib.hid (hd1 1 _ rfl)
 have X2:Hid (w8.cell? ⟨bg,og+2,none⟩=some (.slice Apv 3 ppv)):=Lib.hid (hd1 2 _ rfl)
 clear hG hatg hcg hr1 hd1 hbg eg etg
 obtain ⟨bd,od,cd,e1⟩:=times_some hT (by decide)
 have e2:rv=.slice (some ⟨bd,od,none⟩) 1 cd:=e1
 subst e2
 clear e1
 obtain ⟨_,_,_,X1⟩:=times_cellAt hT 0 (by decide)
 have Yd:Hid (w8.cell? ⟨bd,od+1,none⟩=some (.int .i64 1)):=by
  show _=_
  rw [Nat.zero_mul,Nat.add_zero] at X1
  exact X1
 clear X1 hT
 replace HO:=Lib.hid (HO.out.kept hq)
 replace HR1:=Lib.hid (StrsIn.kept HR1.out hq)
 replace HI:=Lib.hid (IntsIn.kept HI.out hq)
 replace HL:=Lib.hid (HL.out.kept hq)
 replace hb:=hb.trans (hq.mono hb.size)
 clear hq
 clear HI HL
 have x0:=X0.out
 have x1:=X1.out
 have x2:=X2.out
 go_wp2_with fail
 clear x0 x1 x2
 clear X0 X1 X2
 have hc:=growg_calls (gv:=groupA (.slice Akv 1 pkv) (.slice Apv 3 ppv) 3) (G:=(grpL [tA21] gs21 m1_21)) ⟨_,_,rfl,HGI.out⟩ HO.out (by decide) (by decide) (by decide) (by decide)
 rw [aw_row1] at hc
 unfold groupA at hc
 refine hc.mono ?_
 clear hc
 intro e w9 hend
 obtain ⟨⟨xv,rfl,hX,-⟩,hq⟩:=show (∃ v,e=.returned (.tuple #[v,.int .i64 0])∧StrsIn _ v row1_21∧Fresh _ v)∧_ from hend
 clear hend
 obtain ⟨Ax,cx,ex,hxat⟩:=one_at hX
 obtain ⟨bx,ox,rfl,-,hcx⟩:=hxat 0 (by decide)
 have ex2:xv=.slice (some ⟨bx,ox,none⟩) 4 cx:=ex
 subst ex2
 have Z1:Hid (w9.cell? ⟨bx,ox+1,none⟩=some (.string (cellInt 3))):=Lib.hid (hcx 1 (by decide))
 have Z2:Hid (w9.cell? ⟨bx,ox+2,none⟩=some (.string (cellInt 13))):=Lib.hid (hcx 2 (by decide))
 have Z3:Hid (w9.cell? ⟨bx,ox+3,none⟩=some (.string (cellInt 3))):=Lib.hid (hcx 3 (by decide))
 clear ex hxat hcx hX
 replace HO:=Lib.hid (HO.out.kept hq)
 replace HR1:=Lib.hid (StrsIn.kept HR1.out hq)
 replace HG:=Lib.hid (HG.out.kept hq)
 replace HGI:=Lib.hid (groupK.kept HGI.out hq)
 replace Yd:=Lib.hid (cell_kept Yd.out hq)
 replace hb:=hb.trans (hq.mono hb.size)
 clear hq
 clear HGI
 go_wp2_with fail
 have HZ:Hid (w9.heap.size=w9.heap.size):=Lib.hid rfl
 have hq:Below w9.heap.size w9 (w9.alloc (.cells #[.string ⟨#[116,97]⟩] 9)):=Below.alloc (.refl _ _) (Nat.le_refl _) _
 have h:=lit_strs w9 9 [⟨#[116,97]⟩] (by show 1≤1000;decide)
 rw [HZ.out] at h
 have HF:Hid (StrsIn (w9.alloc (.cells #[.string ⟨#[116,97]⟩] 9)) (.slice (some ⟨w9.heap.size,0,none⟩) 1 1) [⟨#[116,97]⟩]):=h
 replace HZ:Hid ((w9.alloc (.cells #[.string ⟨#[116,97]⟩] 9)).heap.size=w9.heap.size+1):=by show _=_;rw [←HZ.out];simp
 clear h
 replace HO:=Lib.hid (HO.out.kept hq)
 replace HR1:=Lib.hid (StrsIn.kept HR1.out hq)
 replace HG:=Lib.hid (HG.out.kept hq)
 replace Yd:=Lib.hid (cell_kept Yd.out hq)
 replace Z1:=Lib.hid (cell_kept Z1.out hq)
 replace Z2:=Lib.hid (cell_kept Z2.out hq)
 replace Z3:=Lib.hid (cell_kept Z3.out hq)
 replace hb:=hb.trans (hq.mono hb.size)
 clear hq
 generalize World.alloc w9 _=w10 at *
 clear HZ
 have hc:=gfind_calls HG.out (List.pairwise_singleton _ _) HF.out (by decide)
 refine hc.mono ?_
 clear hc
 intro e w11 hend
 obtain ⟨rfl,hq⟩:=find_yes hend rfl
 clear hend
 replace HO:=Lib.hid (HO.out.kept hq)
 replace HR1:=Lib.hid (StrsIn.kept HR1.out hq)
 replace HG:=Lib.hid (HG.out.kept hq)
 replace Yd:=Lib.hid (cell_kept Yd.out hq)
 replace Z1:=Lib.hid (cell_kept Z1.out hq)
 replace Z2:=Lib.hid (cell_kept Z2.out hq)
 replace Z3:=Lib.hid (cell_kept Z3.out hq)
 replace HF:=Lib.hid (StrsIn.kept HF.out hq)
 replace hb:=hb.trans (hq.mono hb.size)
 clear hq
 clear HF
 go_wp2_with fail
 have HZ:Hid (w11.heap.size=w11.heap.size):=Lib.hid rfl
 have hq:Below w11.heap.size w11 (w11.alloc (.cells #[.string ⟨#[116,98]⟩] 9)):=Below.alloc (.refl _ _) (Nat.le_refl _) _
 have h:=lit_strs w11 9 [⟨#[116,98]⟩] (by show 1≤1000;decide)
 rw [HZ.out] at h
 have HF:Hid (StrsIn (w11.alloc (.cells #[.string ⟨#[116,98]⟩] 9)) (.slice (some ⟨w11.heap.size,0,none⟩) 1 1) [⟨#[116,98]⟩]):=h
 replace HZ:Hid ((w11.alloc (.cells #[.string ⟨#[116,98]⟩] 9)).heap.size=w11.heap.size+1):=by show _=_;rw [←HZ.out];simp
 clear h
 replace HO:=Lib.hid (HO.out.kept hq)
 replace HR1:=Lib.hid (StrsIn.kept HR1.out hq)
 replace HG:=Lib.hid (HG.out.kept hq)
 replace Yd:=Lib.hid (cell_kept Yd.out hq)
 replace Z1:=Lib.hid (cell_kept Z1.out hq)
 replace Z2:=Lib.hid (cell_kept Z2.out hq)
 replace Z3:=Lib.hid (cell_kept Z3.out hq)
 replace hb:=hb.trans (hq.mono hb.size)
 clear hq
 generalize World.alloc w11 _=w12 at *
 clear HZ
 have hc:=gfind_calls HG.out (List.pairwise_singleton _ _) HF.out (by decide)
 refine hc.mono ?_
 clear hc
 intro e w13 hend
 obtain ⟨kno,rfl,hq⟩:=find_no hend (by decide)
 clear hend
 replace HO:=Lib.hid (HO.out.kept hq)
 replace HR1:=Lib.hid (StrsIn.kept HR1.out hq)
 replace HG:=Lib.hid (HG.out.kept hq)
 replace Yd:=Lib.hid (cell_kept Yd.out hq)
 replace Z1:=Lib.hid (cell_kept Z1.out hq)
 replace Z2:=Lib.hid (cell_kept Z2.out hq)
 replace Z3:=Lib.hid (cell_kept Z3.out hq)
 replace HF:=Lib.hid (StrsIn.kept HF.out hq)
 replace hb:=hb.trans (hq.mono hb.size)
 clear hq
 clear HF
 go_wp2_with fail
 have HZ:Hid (w13.heap.size=w13.heap.size):=Lib.hid rfl
 have hq:Below w13.heap.size w13 (w13.alloc (.cells #[.int .i64 0] 3)):=Below.alloc (.refl _ _) (Nat.le_refl _) _
 have h:=lit_ones (Value.int .i64) w13 3 [0] (by show 1≤1000;decide)
 rw [HZ.out] at h
 have HI:Hid (IntsIn (w13.alloc (.cells #[.int .i64 0] 3)) (.slice (some ⟨w13.heap.size,0,none⟩) 1 1) [0]):=h
 replace HZ:Hid ((w13.alloc (.cells #[.int .i64 0] 3)).heap.size=w13.heap.size+1):=by show _=_;rw [←HZ.out];simp
 clear h
 replace HO:=Lib.hid (HO.out.kept hq)
 replace HR1:=Lib.hid (StrsIn.kept HR1.out hq)
 replace HG:=Lib.hid (HG.out.kept hq)
 replace Yd:=Lib.hid (cell_kept Yd.out hq)
 replace Z1:=Lib.hid (cell_kept Z1.out hq)
 replace Z2:=Lib.hid (cell_kept Z2.out hq)
 replace Z3:=Lib.hid (cell_kept Z3.out hq)
 replace hb:=hb.trans (hq.mono hb.size)
 clear hq
 generalize World.alloc w13 _=w14 at *
 clear HZ
 have hc:=int_calls 3 (by decide) (by decide) w14
 refine hc.mono ?_
 clear hc
 rintro e w15 ⟨rfl,hq⟩
 replace HO:=Lib.hid (HO.out.kept hq)
 replace HR1:=Lib.hid (StrsIn.kept HR1.out hq)
 replace HG:=Lib.hid (HG.out.kept hq)
 replace Yd:=Lib.hid (cell_kept Yd.out hq)
 replace Z1:=Lib.hid (cell_kept Z1.out hq)
 replace Z2:=Lib.hid (cell_kept Z2.out hq)
 replace Z3:=Lib.hid (cell_kept Z3.out hq)
 replace HI:=Lib.hid (IntsIn.kept HI.out hq)
 replace hb:=hb.trans (hq.mono hb.size)
 clear hq
 go_wp2_with fail
 have HZ:Hid (w15.heap.size=w15.heap.size):=Lib.hid rfl
 have hq:Below w15.heap.size w15 (w15.alloc (.cells #[.string ⟨#[116,97]⟩,.string (cellInt 3)] 9)):=Below.alloc (.refl _ _) (Nat.le_refl _) _
 have h:=lit_strs w15 9 [⟨#[116,97]⟩,(cellInt 3)] (by show 2≤1000;decide)
 rw [HZ.out] at h
 have HR2:Hid (StrsIn (w15.alloc (.cells #[.string ⟨#[116,97]⟩,.string (cellInt 3)] 9)) (.slice (some ⟨w15.heap.size,0,none⟩) 2 2) [⟨#[116,97]⟩,(cellInt 3)]):=h
 replace HZ:Hid ((w15.alloc (.cells #[.string ⟨#[116,97]⟩,.string (cellInt 3)] 9)).heap.size=w15.heap.size+1):=by show _=_;rw [←HZ.out];simp
 clear h
 replace HO:=Lib.hid (HO.out.kept hq)
 replace HR1:=Lib.hid (StrsIn.kept HR1.out hq)
 replace HG:=Lib.hid (HG.out.kept hq)
 replace Yd:=Lib.hid (cell_kept Yd.out hq)
 replace Z1:=Lib.hid (cell_kept Z1.out hq)
 replace Z2:=Lib.hid (cell_kept Z2.out hq)
 replace Z3:=Lib.hid (cell_kept Z3.out hq)
 replace HI:=Lib.hid (IntsIn.kept HI.out hq)
 replace hb:=hb.trans (hq.mono hb.size)
 clear hq
 generalize World.alloc w15 _=w16 at *
 have hq:Below w16.heap.size w16 (w16.alloc (.cells #[.slice (some ⟨w15.heap.size,0,none⟩) 2 2,.int .i64 (-1)] 49)):=Below.alloc (.refl _ _) (Nat.le_refl _) _
 have h:=lit_times w16 49 [((.slice (some ⟨w15.heap.size,0,none⟩) 2 2),-1)] [(rB21,-1)] ⟨⟨HR2.out,rfl⟩,trivial⟩ (by show 1≤1000;decide)
 rw [HZ.out] at h
 have HL:Hid (TimesIn (w16.alloc (.cells #[.slice (some ⟨w15.heap.size,0,none⟩) 2 2,.int .i64 (-1)] 49)) (.slice (some ⟨w15.heap.size+1,0,none⟩) 1 1) [(rB21,-1)]):=h
 replace HZ:Hid ((w16.alloc (.cells #[.slice (some ⟨w15.heap.size,0,none⟩) 2 2,.int .i64 (-1)] 49)).heap.size=w15.heap.size+1+1):=by show _=_;rw [←HZ.out];simp
 clear h
 replace HO:=Lib.hid (HO.out.kept hq)
 replace HR1:=Lib.hid (StrsIn.kept HR1.out hq)
 replace HG:=Lib.hid (HG.out.kept hq)
 replace Yd:=Lib.hid (cell_kept Yd.out hq)
 replace Z1:=Lib.hid (cell_kept Z1.out hq)
 replace Z2:=Lib.hid (cell_kept Z2.out hq)
 replace Z3:=Lib.hid (cell_kept Z3.out hq)
 replace HI:=Lib.hid (IntsIn.kept HI.out hq)
 replace HR2:=Lib.hid (StrsIn.kept HR2.out hq)
 replace hb:=hb.trans (hq.mono hb.size)
 clear hq
 generalize World.alloc w16 _=w17 at *
 clear HZ
 clear HR2
 have hc:=gchange_calls (lv:=.slice (some ⟨bg,og,none⟩) 1 cg) (HG.out) (List.pairwise_singleton _ _) HI.out HO.out HL.out (fun g hg=>by
  rw [List.mem_singleton.1 hg]
  exact ⟨fit_grp _ _ (by decide) (by decide) (by decide),by decide,by decide⟩) (by decide) (by decide) (by decide) (by decide)
 refine hc.mono ?_
 clear hc
 intro e w18 hend
 obtain ⟨hv,ev,rfl,hG,hT,hq⟩:=change_more hend aw_key2 (by decide) aw_row1 (by decide) aw_row2
 clear hend
 rw [aw_same] at hG
 have HH:Hid (groupK.In (fun _=>True) w18 hv [(grpL [tA21] gs21 [(rA21,2)])]):=hG
 obtain ⟨Ah,ch,eh⟩:=hG.slice
 have eh2:hv=.slice Ah 1 ch:=eh
 subst eh2
 obtain ⟨Ae,ce,ee⟩:=times_slice hT
 rw [aw_d2] at ee
 subst ee
 clear hG hT eh
 replace HO:=Lib.hid (HO.out.kept hq)
 replace HR1:=Lib.hid (StrsIn.kept HR1.out hq)
 replace HG:=Lib.hid (HG.out.kept hq)
 replace Yd:=Lib.hid (cell_kept Yd.out hq)
 replace Z1:=Lib.hid (cell_kept Z1.out hq)
 replace Z2:=Lib.hid (cell_kept Z2.out hq)
 replace Z3:=Lib.hid (cell_kept Z3.out hq)
 replace HI:=Lib.hid (IntsIn.kept HI.out hq)
 replace HL:=Lib.hid (HL.out.kept hq)
 replace hb:=hb.trans (hq.mono hb.size)
 clear hq
 clear HI HL
 go_wp2_with fail
 have HZ:Hid (w18.heap.size=w18.heap.size):=Lib.hid rfl
 have hq:Below w18.heap.size w18 (w18.alloc (.cells #[.int .i64 0] 3)):=Below.alloc (.refl _ _) (Nat.le_refl _) _
 have h:=lit_ones (Value.int .i64) w18 3 [0] (by show 1≤1000;decide)
 rw [HZ.out] at h
 have HI:Hid (IntsIn (w18.alloc (.cells #[.int .i64 0] 3)) (.slice (some ⟨w18.heap.size,0,none⟩) 1 1) [0]):=h
 replace HZ:Hid ((w18.alloc (.cells #[.int .i64 0] 3)).heap.size=w18.heap.size+1):=by show _=_;rw [←HZ.out];simp
 clear h
 replace HO:=Lib.hid (HO.out.kept hq)
 replace HR1:=Lib.hid (StrsIn.kept HR1.out hq)
 replace HG:=Lib.hid (HG.out.kept hq)
 replace Yd:=Lib.hid (cell_kept Yd.out hq)
 replace Z1:=Lib.hid (cell_kept Z1.out hq)
 replace Z2:=Lib.hid (cell_kept Z2.out hq)
 replace Z3:=Lib.hid (cell_kept Z3.out hq)
 replace HH:=Lib.hid (HH.out.kept hq)
 replace hb:=hb.trans (hq.mono hb.size)
 clear hq
 generalize World.alloc w18 _=w19 at *
 have hq:Below w19.heap.size w19 (w19.alloc (.cells #[.slice (some ⟨w2.heap.size,0,none⟩) 2 2,.int .i64 (-2)] 49)):=Below.alloc (.refl _ _) (Nat.le_refl _) _
 have h:=lit_times w19 49 [((.slice (some ⟨w2.heap.size,0,none⟩) 2 2),-2)] [(rA21,-2)] ⟨⟨HR1.out,rfl⟩,trivial⟩ (by show 1≤1000;decide)
 rw [HZ.out] at h
 have HL:Hid (TimesIn (w19.alloc (.cells #[.slice (some ⟨w2.heap.size,0,none⟩) 2 2,.int .i64 (-2)] 49)) (.slice (some ⟨w18.heap.size+1,0,none⟩) 1 1) [(rA21,-2)]):=h
 replace HZ:Hid ((w19.alloc (.cells #[.slice (some ⟨w2.heap.size,0,none⟩) 2 2,.int .i64 (-2)] 49)).heap.size=w18.heap.size+1+1):=by show _=_;rw [←HZ.out];simp
 clear h
 replace HO:=Lib.hid (HO.out.kept hq)
 replace HR1:=Lib.hid (StrsIn.kept HR1.out hq)
 replace HG:=Lib.hid (HG.out.kept hq)
 replace Yd:=Lib.hid (cell_kept Yd.out hq)
 replace Z1:=Lib.hid (cell_kept Z1.out hq)
 replace Z2:=Lib.hid (cell_kept Z2.out hq)
 replace Z3:=Lib.hid (cell_kept Z3.out hq)
 replace HH:=Lib.hid (HH.out.kept hq)
 replace HI:=Lib.hid (IntsIn.kept HI.out hq)
 replace hb:=hb.trans (hq.mono hb.size)
 clear hq
 generalize World.alloc w19 _=w20 at *
 clear HZ
 have hc:=gchange_calls (lv:=.slice Ah 1 ch) (HH.out) (List.pairwise_singleton _ _) HI.out HO.out HL.out (fun g hg=>by
  rw [List.mem_singleton.1 hg]
  exact ⟨fit_grp _ _ (by decide) (by decide) (by decide),by decide,by decide⟩) (by decide) (by decide) (by decide) (by decide)
 refine hc.mono ?_
 clear hc
 intro e w21 hend
 obtain ⟨ov,fv,rfl,hG,hT,hq⟩:=change_gone hend aw_key3 (by decide) aw_row2b (by decide)
 clear hend
 rw [aw_d3] at hT
 obtain ⟨Ao,co,eo⟩:=hG.slice
 have eo2:ov=.slice Ao 0 co:=eo
 subst eo2
 clear hG eo
 obtain ⟨bf,of,cf,e1⟩:=times_some hT (by decide)
 have e2:fv=.slice (some ⟨bf,of,none⟩) 1 cf:=e1
 subst e2
 clear e1
 obtain ⟨_,_,_,X1⟩:=times_cellAt hT 0 (by decide)
 have Yf:Hid (w21.cell? ⟨bf,of+1,none⟩=some (.int .i64 (-1))):=by
  show _=_
  rw [Nat.zero_mul,Nat.add_zero] at X1
  exact X1
 clear X1 hT
 replace HO:=Lib.hid (HO.out.kept hq)
 replace HR1:=Lib.hid (StrsIn.kept HR1.out hq)
 replace HG:=Lib.hid (HG.out.kept hq)
 replace Yd:=Lib.hid (cell_kept Yd.out hq)
 replace Z1:=Lib.hid (cell_kept Z1.out hq)
 replace Z2:=Lib.hid (cell_kept Z2.out hq)
 replace Z3:=Lib.hid (cell_kept Z3.out hq)
 replace HH:=Lib.hid (HH.out.kept hq)
 replace HI:=Lib.hid (IntsIn.kept HI.out hq)
 replace HL:=Lib.hid (HL.out.kept hq)
 replace hb:=hb.trans (hq.mono hb.size)
 clear hq
 clear HI HL
 go_wp2_with fail
 have HZ:Hid (w21.heap.size=w21.heap.size):=Lib.hid rfl
 have hq:Below w21.heap.size w21 (w21.alloc (.cells #[.int .i64 0] 3)):=Below.alloc (.refl _ _) (Nat.le_refl _) _
 have h:=lit_ones (Value.int .i64) w21 3 [0] (by show 1≤1000;decide)
 rw [HZ.out] at h
 have HI:Hid (IntsIn (w21.alloc (.cells #[.int .i64 0] 3)) (.slice (some ⟨w21.heap.size,0,none⟩) 1 1) [0]):=h
 replace HZ:Hid ((w21.alloc (.cells #[.int .i64 0] 3)).heap.size=w21.heap.size+1):=by show _=_;rw [←HZ.out];simp
 clear h
 replace HO:=Lib.hid (HO.out.kept hq)
 replace HR1:=Lib.hid (StrsIn.kept HR1.out hq)
 replace HG:=Lib.hid (HG.out.kept hq)
 replace Yd:=Lib.hid (cell_kept Yd.out hq)
 replace Z1:=Lib.hid (cell_kept Z1.out hq)
 replace Z2:=Lib.hid (cell_kept Z2.out hq)
 replace Z3:=Lib.hid (cell_kept Z3.out hq)
 replace HH:=Lib.hid (HH.out.kept hq)
 replace Yf:=Lib.hid (cell_kept Yf.out hq)
 replace hb:=hb.trans (hq.mono hb.size)
 clear hq
 generalize World.alloc w21 _=w22 at *
 clear HZ
 have hc:=int_calls 9223372036854775807 (by decide) (by decide) w22
 refine hc.mono ?_
 clear hc
 rintro e w23 ⟨rfl,hq⟩
 replace HO:=Lib.hid (HO.out.kept hq)
 replace HR1:=Lib.hid (StrsIn.kept HR1.out hq)
 replace HG:=Lib.hid (HG.out.kept hq)
 replace Yd:=Lib.hid (cell_kept Yd.out hq)
 replace Z1:=Lib.hid (cell_kept Z1.out hq)
 replace Z2:=Lib.hid (cell_kept Z2.out hq)
 replace Z3:=Lib.hid (cell_kept Z3.out hq)
 replace HH:=Lib.hid (HH.out.kept hq)
 replace Yf:=Lib.hid (cell_kept Yf.out hq)
 replace HI:=Lib.hid (IntsIn.kept HI.out hq)
 replace hb:=hb.trans (hq.mono hb.size)
 clear hq
 go_wp2_with fail
 have HZ:Hid (w23.heap.size=w23.heap.size):=Lib.hid rfl
 have hq:Below w23.heap.size w23 (w23.alloc (.cells #[.string ⟨#[116,97]⟩,.string (cellInt 9223372036854775807)] 9)):=Below.alloc (.refl _ _) (Nat.le_refl _) _
 have h:=lit_strs w23 9 [⟨#[116,97]⟩,(cellInt 9223372036854775807)] (by show 2≤1000;decide)
 rw [HZ.out] at h
 have HR2:Hid (StrsIn (w23.alloc (.cells #[.string ⟨#[116,97]⟩,.string (cellInt 9223372036854775807)] 9)) (.slice (some ⟨w23.heap.size,0,none⟩) 2 2) [⟨#[116,97]⟩,(cellInt 9223372036854775807)]):=h
 replace HZ:Hid ((w23.alloc (.cells #[.string ⟨#[116,97]⟩,.string (cellInt 9223372036854775807)] 9)).heap.size=w23.heap.size+1):=by show _=_;rw [←HZ.out];simp
 clear h
 replace HO:=Lib.hid (HO.out.kept hq)
 replace HR1:=Lib.hid (StrsIn.kept HR1.out hq)
 replace HG:=Lib.hid (HG.out.kept hq)
 replace Yd:=Lib.hid (cell_kept Yd.out hq)
 replace Z1:=Lib.hid (cell_kept Z1.out hq)
 replace Z2:=Lib.hid (cell_kept Z2.out hq)
 replace Z3:=Lib.hid (cell_kept Z3.out hq)
 replace HH:=Lib.hid (HH.out.kept hq)
 replace Yf:=Lib.hid (cell_kept Yf.out hq)
 replace HI:=Lib.hid (IntsIn.kept HI.out hq)
 replace hb:=hb.trans (hq.mono hb.size)
 clear hq
 generalize World.alloc w23 _=w24 at *
 have hq:Below w24.heap.size w24 (w24.alloc (.cells #[.slice (some ⟨w23.heap.size,0,none⟩) 2 2,.int .i64 1] 49)):=Below.alloc (.refl _ _) (Nat.le_refl _) _
 have h:=lit_times w24 49 [((.slice (some ⟨w23.heap.size,0,none⟩) 2 2),1)] [(rM21,1)] ⟨⟨HR2.out,rfl⟩,trivial⟩ (by show 1≤1000;decide)
 rw [HZ.out] at h
 have HL:Hid (TimesIn (w24.alloc (.cells #[.slice (some ⟨w23.heap.size,0,none⟩) 2 2,.int .i64 1] 49)) (.slice (some ⟨w23.heap.size+1,0,none⟩) 1 1) [(rM21,1)]):=h
 replace HZ:Hid ((w24.alloc (.cells #[.slice (some ⟨w23.heap.size,0,none⟩) 2 2,.int .i64 1] 49)).heap.size=w23.heap.size+1+1):=by show _=_;rw [←HZ.out];simp
 clear h
 replace HO:=Lib.hid (HO.out.kept hq)
 replace HR1:=Lib.hid (StrsIn.kept HR1.out hq)
 replace HG:=Lib.hid (HG.out.kept hq)
 replace Yd:=Lib.hid (cell_kept Yd.out hq)
 replace Z1:=Lib.hid (cell_kept Z1.out hq)
 replace Z2:=Lib.hid (cell_kept Z2.out hq)
 replace Z3:=Lib.hid (cell_kept Z3.out hq)
 replace HH:=Lib.hid (HH.out.kept hq)
 replace Yf:=Lib.hid (cell_kept Yf.out hq)
 replace HI:=Lib.hid (IntsIn.kept HI.out hq)
 replace HR2:=Lib.hid (StrsIn.kept HR2.out hq)
 replace hb:=hb.trans (hq.mono hb.size)
 clear hq
 generalize World.alloc w24 _=w25 at *
 clear HZ
 clear HR2
 have hc:=gchange_calls (lv:=.slice (some ⟨bg,og,none⟩) 1 cg) (HG.out) (List.pairwise_singleton _ _) HI.out HO.out HL.out (fun g hg=>by
  rw [List.mem_singleton.1 hg]
  exact ⟨fit_grp _ _ (by decide) (by decide) (by decide),by decide,by decide⟩) (by decide) (by decide) (by decide) (by decide)
 refine hc.mono ?_
 clear hc
 intro e w26 hend
 obtain ⟨rfl,hq⟩:=change_over hend aw_key4 (by decide) (by decide) aw_over
 clear hend
 replace HO:=Lib.hid (HO.out.kept hq)
 replace HR1:=Lib.hid (StrsIn.kept HR1.out hq)
 replace HG:=Lib.hid (HG.out.kept hq)
 replace Yd:=Lib.hid (cell_kept Yd.out hq)
 replace Z1:=Lib.hid (cell_kept Z1.out hq)
 replace Z2:=Lib.hid (cell_kept Z2.out hq)
 replace Z3:=Lib.hid (cell_kept Z3.out hq)
 replace HH:=Lib.hid (HH.out.kept hq)
 replace Yf:=Lib.hid (cell_kept Yf.out hq)
 replace HI:=Lib.hid (IntsIn.kept HI.out hq)
 replace HL:=Lib.hid (HL.out.kept hq)
 replace hb:=hb.trans (hq.mono hb.size)
 clear hq
 clear HI HL HG
 go_wp2_with fail
 have HZ:Hid (w26.heap.size=w26.heap.size):=Lib.hid rfl
 have hq:Below w26.heap.size w26 (w26.alloc (.cells #[.string ⟨#[116,97]⟩] 9)):=Below.alloc (.refl _ _) (Nat.le_refl _) _
 have h:=lit_strs w26 9 [⟨#[116,97]⟩] (by show 1≤1000;decide)
 rw [HZ.out] at h
 have HF:Hid (StrsIn (w26.alloc (.cells #[.string ⟨#[116,97]⟩] 9)) (.slice (some ⟨w26.heap.size,0,none⟩) 1 1) [⟨#[116,97]⟩]):=h
 replace HZ:Hid ((w26.alloc (.cells #[.string ⟨#[116,97]⟩] 9)).heap.size=w26.heap.size+1):=by show _=_;rw [←HZ.out];simp
 clear h
 replace HO:=Lib.hid (HO.out.kept hq)
 replace HR1:=Lib.hid (StrsIn.kept HR1.out hq)
 replace Yd:=Lib.hid (cell_kept Yd.out hq)
 replace Z1:=Lib.hid (cell_kept Z1.out hq)
 replace Z2:=Lib.hid (cell_kept Z2.out hq)
 replace Z3:=Lib.hid (cell_kept Z3.out hq)
 replace HH:=Lib.hid (HH.out.kept hq)
 replace Yf:=Lib.hid (cell_kept Yf.out hq)
 replace hb:=hb.trans (hq.mono hb.size)
 clear hq
 generalize World.alloc w26 _=w27 at *
 clear HZ
 have hc:=gput_calls (gv:=groupA (.slice (some ⟨w26.heap.size,0,none⟩) 1 1) (.slice none 0 0) 0) (G:=bareG [tA21]) (n:=2) ⟨_,_,rfl,⟨HF.out,trivial⟩,Kin.In.nil_ _ _ _ _ trivial⟩ HO.out HR1.out ⟨by decide,by decide,fun p hp=>absurd hp (by simp [bareG])⟩ (by decide) (by decide)
 unfold groupA at hc
 refine hc.mono ?_
 clear hc
 intro e w28 hend
 obtain ⟨kp,pp,rfl,hR,hq⟩:=hend
 have hR2:groupK.R (fun _=>True) w28 (kp,pp,(grpL [tA21] gs21 [(rA21,2)])):=by
  have h3:=groupK.mono hR (Q':=fun _=>True) fun _ _=>trivial
  have h4:withG (bareG [tA21]) gs21 [(rA21,2)]=(grpL [tA21] gs21 [(rA21,2)]):=with_is (g:=bareG [tA21]) (bare_is _ _) _
  rw [show ([(⟨#[116,97]⟩:ByteArray),cellInt 5]:List ByteArray)=rA21 from rfl] at h3
  rw [h4] at h3
  exact h3
 have HP:Hid (groupK.R (fun _=>True) w28 (kp,pp,(grpL [tA21] gs21 [(rA21,2)]))):=hR2
 obtain ⟨Akp,pkp,App,ppp,rfl,rfl,-,-,-⟩:=group_open hR2
 clear hR hR2
 replace HO:=Lib.hid (HO.out.kept hq)
 replace HR1:=Lib.hid (StrsIn.kept HR1.out hq)
 replace Yd:=Lib.hid (cell_kept Yd.out hq)
 replace Z1:=Lib.hid (cell_kept Z1.out hq)
 replace Z2:=Lib.hid (cell_kept Z2.out hq)
 replace Z3:=Lib.hid (cell_kept Z3.out hq)
 replace HH:=Lib.hid (HH.out.kept hq)
 replace Yf:=Lib.hid (cell_kept Yf.out hq)
 replace HF:=Lib.hid (StrsIn.kept HF.out hq)
 replace hb:=hb.trans (hq.mono hb.size)
 clear hq
 clear HF HR1 HO
 have q9:(withG (bareG [tA21]) gs21 [([⟨#[116,97]⟩,cellInt 5],2)]).n=2:=by decide +kernel
 rw [show groupA (.slice Akp (grpL [tA21] gs21 [(rA21,2)]).key.length pkp) (.slice App (grpL [tA21] gs21 [(rA21,2)]).parts.length ppp) (withG (bareG [tA21]) gs21 [([⟨#[116,97]⟩,cellInt 5],2)]).n=.agg #[.slice Akp 1 pkp,.int .i64 2,.slice App 3 ppp] by rw [q9];rfl]
 clear q9
 go_wp2_with fail
 have hq:Below w28.heap.size w28 (w28.alloc (.cells #[.slice Akp 1 pkp,.int .i64 2,.slice App 3 ppp] 46)):=Below.alloc (.refl _ _) (Nat.le_refl _) _
 have hbx:=cbox_lit w28 46 #[.slice Akp 1 pkp,.int .i64 2,.slice App 3 ppp]
 have HBX:Hid (CBox (w28.alloc (.cells #[.slice Akp 1 pkp,.int .i64 2,.slice App 3 ppp] 46)) w28.heap.size [.slice Akp 1 pkp,.int .i64 2,.slice App 3 ppp]):=hbx
 clear hbx
 replace Yd:=Lib.hid (cell_kept Yd.out hq)
 replace Z1:=Lib.hid (cell_kept Z1.out hq)
 replace Z2:=Lib.hid (cell_kept Z2.out hq)
 replace Z3:=Lib.hid (cell_kept Z3.out hq)
 replace HH:=Lib.hid (HH.out.kept hq)
 replace Yf:=Lib.hid (cell_kept Yf.out hq)
 replace HP:=Lib.hid (groupK.kept HP.out hq)
 replace hb:=hb.trans (hq.mono hb.size)
 clear hq
 generalize World.alloc w28 _=w29 at *
 generalize w28.heap.size=b9 at *
 have HBB:=Lib.hid hb
 clear hb
 refine wp_region_calm (offC w29) (fun _=>false) (fun _=>false) anyE false (by kernel_rfl) (by kernel_rfl) (by kernel_rfl) (by kernel_rfl) (by intro m hm;revert hm;simp;try omega) (offC_stable _) (offC_start _) ?_
 simp only [List.append_eq,List.cons_append,List.nil_append]
 refine calm_fixA rfl rfl ?_
 apply Exists.intro
 refine ⟨fun a wz hc hk hf K hK=>?_,?_⟩
 ·have h6:=hk 6 (by kernel_rfl)
  clear hk hf hc
  go_simp
  exact hK _ _ (Below.refl _ _) rfl
 refine calm_fixA rfl rfl ?_
 apply Exists.intro
 refine ⟨fun a wz hc hk hf K hK=>?_,?_⟩
 ·have h118:=held_isV hf 0 rfl (by kernel_rfl)
  clear hk hf hc
  go_simp
  exact hK _ _ (Below.refl _ _) rfl
 refine calm_fixA rfl rfl ?_
 apply Exists.intro
 refine ⟨fun a wz hc hk hf K hK=>?_,?_⟩
 ·have h119:=held_isV hf 0 rfl (by kernel_rfl)
  clear hk hf hc
  go_simp
  exact hK _ _ (Below.refl _ _) rfl
 refine calm_fixA rfl rfl ?_
 apply Exists.intro
 refine ⟨fun a wz hc hk hf K hK=>?_,?_⟩
 ·have h5:=hk 5 (by kernel_rfl)
  have h120:=held_isV hf 0 rfl (by kernel_rfl)
  clear hk hf hc
  go_simp
  exact hK _ _ (Below.refl _ _) rfl
 refine calm_fixA rfl rfl ?_
 apply Exists.intro
 refine ⟨fun a wz hc hk hf K hK=>?_,?_⟩
 ·have h121:=held_isV hf 0 rfl (by kernel_rfl)
  have h120:=held_isV hf 1 rfl (by kernel_rfl)
  clear hk hf hc
  go_simp
  exact hK _ _ (Below.refl _ _) rfl
 refine calm_fixA rfl rfl ?_
 apply Exists.intro
 refine ⟨fun a wz hc hk hf K hK=>?_,?_⟩
 ·have h120:=held_isV hf 2 rfl (by kernel_rfl)
  have h122:=held_isV hf 0 rfl (by kernel_rfl)
  clear hk hf hc
  go_simp
  exact hK _ _ (Below.refl _ _) rfl
 refine calm_fixA rfl rfl ?_
 apply Exists.intro
 refine ⟨fun a wz hc hk hf K hK=>?_,?_⟩
 ·have h123:=held_isV hf 0 rfl (by kernel_rfl)
  clear hk hf hc
  go_simp
  exact hK _ _ (Below.refl _ _) rfl
 refine calm_fixA rfl rfl ?_
 apply Exists.intro
 refine ⟨fun a wz hc hk hf K hK=>?_,?_⟩
 ·have h4:=hk 4 (by kernel_rfl)
  have h124:=held_isV hf 0 rfl (by kernel_rfl)
  clear hk hf hc
  go_simp
  exact hK _ _ (Below.refl _ _) rfl
 refine calm_fixA rfl rfl ?_
 apply Exists.intro
 refine ⟨fun a wz hc hk hf K hK=>?_,?_⟩
 ·have h125:=held_isV hf 0 rfl (by kernel_rfl)
  have h124:=held_isV hf 1 rfl (by kernel_rfl)
  clear hk hf hc
  go_simp
  exact hK _ _ (Below.refl _ _) rfl
 refine calm_fixA rfl rfl ?_
 apply Exists.intro
 refine ⟨fun a wz hc hk hf K hK=>?_,?_⟩
 ·have h126:=held_isV hf 0 rfl (by kernel_rfl)
  have h124:=held_isV hf 2 rfl (by kernel_rfl)
  clear hk hf hc
  go_simp
  exact hK _ _ (Below.refl _ _) rfl
 refine calm_fixA rfl rfl ?_
 apply Exists.intro
 refine ⟨fun a wz hc hk hf K hK=>?_,?_⟩
 ·have hb:Below w29.heap.size w29 wz:=hc rfl
  have h127:=held_isV hf 0 rfl (by kernel_rfl)
  have h124:=held_isV hf 3 rfl (by kernel_rfl)
  clear hk hf hc
  have yd:=cell_kept Yd.out hb
  have yf:=cell_kept Yf.out hb
  have z1:=cell_kept Z1.out hb
  have z2:=cell_kept Z2.out hb
  have z3:=cell_kept Z3.out hb
  obtain ⟨⟨c0,c1,c2⟩,-⟩:=(HBX.out.kept hb).three
  go_simp
  exact hK _ _ (Below.refl _ _) rfl
 refine calm_fixA rfl rfl ?_
 apply Exists.intro
 refine ⟨fun a wz hc hk hf K hK=>?_,?_⟩
 ·have h128:=held_isV hf 0 rfl (by kernel_rfl)
  have h124:=held_isV hf 4 rfl (by kernel_rfl)
  clear hk hf hc
  go_simp
  exact hK _ _ (Below.refl _ _) rfl
 refine calm_fixA rfl rfl ?_
 apply Exists.intro
 refine ⟨fun a wz hc hk hf K hK=>?_,?_⟩
 ·have h124:=held_isV hf 5 rfl (by kernel_rfl)
  have h129:=held_isV hf 0 rfl (by kernel_rfl)
  clear hk hf hc
  go_simp
  exact hK _ _ (Below.refl _ _) rfl
 refine calm_fixA rfl rfl ?_
 apply Exists.intro
 refine ⟨fun a wz hc hk hf K hK=>?_,?_⟩
 ·have h130:=held_isV hf 0 rfl (by kernel_rfl)
  clear hk hf hc
  go_simp
  exact hK _ _ (Below.refl _ _) rfl
 refine calm_fixA rfl rfl ?_
 apply Exists.intro
 refine ⟨fun a wz hc hk hf K hK=>?_,?_⟩
 ·have h8:=hk 8 (by kernel_rfl)
  have h131:=held_isV hf 0 rfl (by kernel_rfl)
  clear hk hf hc
  go_simp
  exact hK _ _ (Below.refl _ _) rfl
 refine calm_fixA rfl rfl ?_
 apply Exists.intro
 refine ⟨fun a wz hc hk hf K hK=>?_,?_⟩
 ·have h132:=held_isV hf 0 rfl (by kernel_rfl)
  have h131:=held_isV hf 1 rfl (by kernel_rfl)
  clear hk hf hc
  go_simp
  exact hK _ _ (Below.refl _ _) rfl
 refine calm_fixA rfl rfl ?_
 apply Exists.intro
 refine ⟨fun a wz hc hk hf K hK=>?_,?_⟩
 ·have h131:=held_isV hf 2 rfl (by kernel_rfl)
  have h133:=held_isV hf 0 rfl (by kernel_rfl)
  clear hk hf hc
  go_simp
  exact hK _ _ (Below.refl _ _) rfl
 refine calm_fixA rfl rfl ?_
 apply Exists.intro
 refine ⟨fun a wz hc hk hf K hK=>?_,?_⟩
 ·have h134:=held_isV hf 0 rfl (by kernel_rfl)
  clear hk hf hc
  go_simp
  exact hK _ _ (Below.refl _ _) rfl
 refine calm_fixA rfl rfl ?_
 apply Exists.intro
 refine ⟨fun a wz hc hk hf K hK=>?_,?_⟩
 ·have h7:=hk 7 (by kernel_rfl)
  have h135:=held_isV hf 0 rfl (by kernel_rfl)
  clear hk hf hc
  go_simp
  exact hK _ _ (Below.refl _ _) rfl
 refine calm_fixA rfl rfl ?_
 apply Exists.intro
 refine ⟨fun a wz hc hk hf K hK=>?_,?_⟩
 ·have h136:=held_isV hf 0 rfl (by kernel_rfl)
  have h135:=held_isV hf 1 rfl (by kernel_rfl)
  clear hk hf hc
  go_simp
  exact hK _ _ (Below.refl _ _) rfl
 refine calm_fixA rfl rfl ?_
 apply Exists.intro
 refine ⟨fun a wz hc hk hf K hK=>?_,?_⟩
 ·have h137:=held_isV hf 0 rfl (by kernel_rfl)
  have h135:=held_isV hf 2 rfl (by kernel_rfl)
  clear hk hf hc
  go_simp
  exact hK _ _ (Below.refl _ _) rfl
 refine calm_fixA rfl rfl ?_
 apply Exists.intro
 refine ⟨fun a wz hc hk hf K hK=>?_,?_⟩
 ·have h135:=held_isV hf 3 rfl (by kernel_rfl)
  have h138:=held_isV hf 0 rfl (by kernel_rfl)
  clear hk hf hc
  go_simp
  exact hK _ _ (Below.refl _ _) rfl
 refine calm_fixA rfl rfl ?_
 apply Exists.intro
 refine ⟨fun a wz hc hk hf K hK=>?_,?_⟩
 ·have h139:=held_isV hf 0 rfl (by kernel_rfl)
  clear hk hf hc
  go_simp
  exact hK _ _ (Below.refl _ _) rfl
 refine calm_fixA rfl rfl ?_
 apply Exists.intro
 refine ⟨fun a wz hc hk hf K hK=>?_,?_⟩
 ·have h7:=hk 7 (by kernel_rfl)
  have h140:=held_isV hf 0 rfl (by kernel_rfl)
  clear hk hf hc
  go_simp
  exact hK _ _ (Below.refl _ _) rfl
 refine calm_fixA rfl rfl ?_
 apply Exists.intro
 refine ⟨fun a wz hc hk hf K hK=>?_,?_⟩
 ·have h141:=held_isV hf 0 rfl (by kernel_rfl)
  have h140:=held_isV hf 1 rfl (by kernel_rfl)
  clear hk hf hc
  go_simp
  exact hK _ _ (Below.refl _ _) rfl
 refine calm_fixA rfl rfl ?_
 apply Exists.intro
 refine ⟨fun a wz hc hk hf K hK=>?_,?_⟩
 ·have hb:Below w29.heap.size w29 wz:=hc rfl
  have h142:=held_isV hf 0 rfl (by kernel_rfl)
  have h140:=held_isV hf 2 rfl (by kernel_rfl)
  clear hk hf hc
  have yd:=cell_kept Yd.out hb
  have yf:=cell_kept Yf.out hb
  have z1:=cell_kept Z1.out hb
  have z2:=cell_kept Z2.out hb
  have z3:=cell_kept Z3.out hb
  obtain ⟨⟨c0,c1,c2⟩,-⟩:=(HBX.out.kept hb).three
  go_simp
  exact hK _ _ (Below.refl _ _) rfl
 refine calm_fixA rfl rfl ?_
 apply Exists.intro
 refine ⟨fun a wz hc hk hf K hK=>?_,?_⟩
 ·have hb:Below w29.heap.size w29 wz:=hc rfl
  have h140:=held_isV hf 3 rfl (by kernel_rfl)
  clear hk hf hc
  go_simp
  refine Calls.mono (int_calls 3 (by decide) (by decide) wz) ?_
  rintro e w1 ⟨rfl,hq⟩
  exact hK _ _ hq rfl
 refine calm_fixA rfl rfl ?_
 apply Exists.intro
 refine ⟨fun a wz hc hk hf K hK=>?_,?_⟩
 ·have h143:=held_isV hf 1 rfl (by kernel_rfl)
  have h144:=held_isV hf 0 rfl (by kernel_rfl)
  have h140:=held_isV hf 4 rfl (by kernel_rfl)
  clear hk hf hc
  go_simp
  exact hK _ _ (Below.refl _ _) rfl
 refine calm_fixA rfl rfl ?_
 apply Exists.intro
 refine ⟨fun a wz hc hk hf K hK=>?_,?_⟩
 ·have h140:=held_isV hf 5 rfl (by kernel_rfl)
  have h145:=held_isV hf 0 rfl (by kernel_rfl)
  clear hk hf hc
  go_simp
  exact hK _ _ (Below.refl _ _) rfl
 refine calm_fixA rfl rfl ?_
 apply Exists.intro
 refine ⟨fun a wz hc hk hf K hK=>?_,?_⟩
 ·have h146:=held_isV hf 0 rfl (by kernel_rfl)
  clear hk hf hc
  go_simp
  exact hK _ _ (Below.refl _ _) rfl
 refine calm_fixA rfl rfl ?_
 apply Exists.intro
 refine ⟨fun a wz hc hk hf K hK=>?_,?_⟩
 ·have h7:=hk 7 (by kernel_rfl)
  have h147:=held_isV hf 0 rfl (by kernel_rfl)
  clear hk hf hc
  go_simp
  exact hK _ _ (Below.refl _ _) rfl
 refine calm_fixA rfl rfl ?_
 apply Exists.intro
 refine ⟨fun a wz hc hk hf K hK=>?_,?_⟩
 ·have h148:=held_isV hf 0 rfl (by kernel_rfl)
  have h147:=held_isV hf 1 rfl (by kernel_rfl)
  clear hk hf hc
  go_simp
  exact hK _ _ (Below.refl _ _) rfl
 refine calm_fixA rfl rfl ?_
 apply Exists.intro
 refine ⟨fun a wz hc hk hf K hK=>?_,?_⟩
 ·have hb:Below w29.heap.size w29 wz:=hc rfl
  have h149:=held_isV hf 0 rfl (by kernel_rfl)
  have h147:=held_isV hf 2 rfl (by kernel_rfl)
  clear hk hf hc
  have yd:=cell_kept Yd.out hb
  have yf:=cell_kept Yf.out hb
  have z1:=cell_kept Z1.out hb
  have z2:=cell_kept Z2.out hb
  have z3:=cell_kept Z3.out hb
  obtain ⟨⟨c0,c1,c2⟩,-⟩:=(HBX.out.kept hb).three
  go_simp
  exact hK _ _ (Below.refl _ _) rfl
 refine calm_fixA rfl rfl ?_
 apply Exists.intro
 refine ⟨fun a wz hc hk hf K hK=>?_,?_⟩
 ·have hb:Below w29.heap.size w29 wz:=hc rfl
  have h147:=held_isV hf 3 rfl (by kernel_rfl)
  clear hk hf hc
  go_simp
  refine Calls.mono (int_calls 13 (by decide) (by decide) wz) ?_
  rintro e w1 ⟨rfl,hq⟩
  exact hK _ _ hq rfl
 refine calm_fixA rfl rfl ?_
 apply Exists.intro
 refine ⟨fun a wz hc hk hf K hK=>?_,?_⟩
 ·have h150:=held_isV hf 1 rfl (by kernel_rfl)
  have h151:=held_isV hf 0 rfl (by kernel_rfl)
  have h147:=held_isV hf 4 rfl (by kernel_rfl)
  clear hk hf hc
  go_simp
  exact hK _ _ (Below.refl _ _) rfl
 refine calm_fixA rfl rfl ?_
 apply Exists.intro
 refine ⟨fun a wz hc hk hf K hK=>?_,?_⟩
 ·have h147:=held_isV hf 5 rfl (by kernel_rfl)
  have h152:=held_isV hf 0 rfl (by kernel_rfl)
  clear hk hf hc
  go_simp
  exact hK _ _ (Below.refl _ _) rfl
 refine calm_fixA rfl rfl ?_
 apply Exists.intro
 refine ⟨fun a wz hc hk hf K hK=>?_,?_⟩
 ·have h153:=held_isV hf 0 rfl (by kernel_rfl)
  clear hk hf hc
  go_simp
  exact hK _ _ (Below.refl _ _) rfl
 refine calm_fixA rfl rfl ?_
 apply Exists.intro
 refine ⟨fun a wz hc hk hf K hK=>?_,?_⟩
 ·have h7:=hk 7 (by kernel_rfl)
  have h154:=held_isV hf 0 rfl (by kernel_rfl)
  clear hk hf hc
  go_simp
  exact hK _ _ (Below.refl _ _) rfl
 refine calm_fixA rfl rfl ?_
 apply Exists.intro
 refine ⟨fun a wz hc hk hf K hK=>?_,?_⟩
 ·have h155:=held_isV hf 0 rfl (by kernel_rfl)
  have h154:=held_isV hf 1 rfl (by kernel_rfl)
  clear hk hf hc
  go_simp
  exact hK _ _ (Below.refl _ _) rfl
 refine calm_fixA rfl rfl ?_
 apply Exists.intro
 refine ⟨fun a wz hc hk hf K hK=>?_,?_⟩
 ·have hb:Below w29.heap.size w29 wz:=hc rfl
  have h156:=held_isV hf 0 rfl (by kernel_rfl)
  have h154:=held_isV hf 2 rfl (by kernel_rfl)
  clear hk hf hc
  have yd:=cell_kept Yd.out hb
  have yf:=cell_kept Yf.out hb
  have z1:=cell_kept Z1.out hb
  have z2:=cell_kept Z2.out hb
  have z3:=cell_kept Z3.out hb
  obtain ⟨⟨c0,c1,c2⟩,-⟩:=(HBX.out.kept hb).three
  go_simp
  exact hK _ _ (Below.refl _ _) rfl
 refine calm_fixA rfl rfl ?_
 apply Exists.intro
 refine ⟨fun a wz hc hk hf K hK=>?_,?_⟩
 ·have hb:Below w29.heap.size w29 wz:=hc rfl
  have h154:=held_isV hf 3 rfl (by kernel_rfl)
  clear hk hf hc
  go_simp
  refine Calls.mono (int_calls 3 (by decide) (by decide) wz) ?_
  rintro e w1 ⟨rfl,hq⟩
  exact hK _ _ hq rfl
 refine calm_fixA rfl rfl ?_
 apply Exists.intro
 refine ⟨fun a wz hc hk hf K hK=>?_,?_⟩
 ·have h157:=held_isV hf 1 rfl (by kernel_rfl)
  have h158:=held_isV hf 0 rfl (by kernel_rfl)
  have h154:=held_isV hf 4 rfl (by kernel_rfl)
  clear hk hf hc
  go_simp
  exact hK _ _ (Below.refl _ _) rfl
 refine calm_fixA rfl rfl ?_
 apply Exists.intro
 refine ⟨fun a wz hc hk hf K hK=>?_,?_⟩
 ·have h154:=held_isV hf 5 rfl (by kernel_rfl)
  have h159:=held_isV hf 0 rfl (by kernel_rfl)
  clear hk hf hc
  go_simp
  exact hK _ _ (Below.refl _ _) rfl
 refine calm_fixA rfl rfl ?_
 apply Exists.intro
 refine ⟨fun a wz hc hk hf K hK=>?_,?_⟩
 ·have h160:=held_isV hf 0 rfl (by kernel_rfl)
  clear hk hf hc
  go_simp
  exact hK _ _ (Below.refl _ _) rfl
 refine calm_fixA rfl rfl ?_
 apply Exists.intro
 refine ⟨fun a wz hc hk hf K hK=>?_,?_⟩
 ·have h10:=hk 10 (by kernel_rfl)
  have h161:=held_isV hf 0 rfl (by kernel_rfl)
  clear hk hf hc
  go_simp
  exact hK _ _ (Below.refl _ _) rfl
 refine calm_fixA rfl rfl ?_
 apply Exists.intro
 refine ⟨fun a wz hc hk hf K hK=>?_,?_⟩
 ·have h161:=held_isV hf 1 rfl (by kernel_rfl)
  have h162:=held_isV hf 0 rfl (by kernel_rfl)
  clear hk hf hc
  go_simp
  exact hK _ _ (Below.refl _ _) rfl
 refine calm_fixA rfl rfl ?_
 apply Exists.intro
 refine ⟨fun a wz hc hk hf K hK=>?_,?_⟩
 ·have h163:=held_isV hf 0 rfl (by kernel_rfl)
  clear hk hf hc
  go_simp
  exact hK _ _ (Below.refl _ _) rfl
 refine calm_fixA rfl rfl ?_
 apply Exists.intro
 refine ⟨fun a wz hc hk hf K hK=>?_,?_⟩
 ·have h9:=hk 9 (by kernel_rfl)
  have h164:=held_isV hf 0 rfl (by kernel_rfl)
  clear hk hf hc
  go_simp
  exact hK _ _ (Below.refl _ _) rfl
 refine calm_fixA rfl rfl ?_
 apply Exists.intro
 refine ⟨fun a wz hc hk hf K hK=>?_,?_⟩
 ·have h165:=held_isV hf 0 rfl (by kernel_rfl)
  have h164:=held_isV hf 1 rfl (by kernel_rfl)
  clear hk hf hc
  go_simp
  exact hK _ _ (Below.refl _ _) rfl
 refine calm_fixA rfl rfl ?_
 apply Exists.intro
 refine ⟨fun a wz hc hk hf K hK=>?_,?_⟩
 ·have h164:=held_isV hf 2 rfl (by kernel_rfl)
  have h166:=held_isV hf 0 rfl (by kernel_rfl)
  clear hk hf hc
  go_simp
  exact hK _ _ (Below.refl _ _) rfl
 refine calm_fixA rfl rfl ?_
 apply Exists.intro
 refine ⟨fun a wz hc hk hf K hK=>?_,?_⟩
 ·have h167:=held_isV hf 0 rfl (by kernel_rfl)
  clear hk hf hc
  go_simp
  exact hK _ _ (Below.refl _ _) rfl
 refine calm_fixA rfl rfl ?_
 apply Exists.intro
 refine ⟨fun a wz hc hk hf K hK=>?_,?_⟩
 ·have h12:=hk 12 (by kernel_rfl)
  have h168:=held_isV hf 0 rfl (by kernel_rfl)
  clear hk hf hc
  go_simp
  exact hK _ _ (Below.refl _ _) rfl
 refine calm_fixA rfl rfl ?_
 apply Exists.intro
 refine ⟨fun a wz hc hk hf K hK=>?_,?_⟩
 ·have h169:=held_isV hf 0 rfl (by kernel_rfl)
  have h168:=held_isV hf 1 rfl (by kernel_rfl)
  clear hk hf hc
  go_simp
  exact hK _ _ (Below.refl _ _) rfl
 refine calm_fixA rfl rfl ?_
 apply Exists.intro
 refine ⟨fun a wz hc hk hf K hK=>?_,?_⟩
 ·have h168:=held_isV hf 2 rfl (by kernel_rfl)
  have h170:=held_isV hf 0 rfl (by kernel_rfl)
  clear hk hf hc
  go_simp
  exact hK _ _ (Below.refl _ _) rfl
 refine calm_fixA rfl rfl ?_
 apply Exists.intro
 refine ⟨fun a wz hc hk hf K hK=>?_,?_⟩
 ·have h171:=held_isV hf 0 rfl (by kernel_rfl)
  clear hk hf hc
  go_simp
  exact hK _ _ (Below.refl _ _) rfl
 refine calm_fixA rfl rfl ?_
 apply Exists.intro
 refine ⟨fun a wz hc hk hf K hK=>?_,?_⟩
 ·have h16:=hk 16 (by kernel_rfl)
  have h172:=held_isV hf 0 rfl (by kernel_rfl)
  clear hk hf hc
  go_simp
  exact hK _ _ (Below.refl _ _) rfl
 refine calm_fixA rfl rfl ?_
 apply Exists.intro
 refine ⟨fun a wz hc hk hf K hK=>?_,?_⟩
 ·have h173:=held_isV hf 0 rfl (by kernel_rfl)
  have h172:=held_isV hf 1 rfl (by kernel_rfl)
  clear hk hf hc
  go_simp
  exact hK _ _ (Below.refl _ _) rfl
 refine calm_fixA rfl rfl ?_
 apply Exists.intro
 refine ⟨fun a wz hc hk hf K hK=>?_,?_⟩
 ·have h172:=held_isV hf 2 rfl (by kernel_rfl)
  have h174:=held_isV hf 0 rfl (by kernel_rfl)
  clear hk hf hc
  go_simp
  exact hK _ _ (Below.refl _ _) rfl
 refine calm_fixA rfl rfl ?_
 apply Exists.intro
 refine ⟨fun a wz hc hk hf K hK=>?_,?_⟩
 ·have h175:=held_isV hf 0 rfl (by kernel_rfl)
  clear hk hf hc
  go_simp
  exact hK _ _ (Below.refl _ _) rfl
 refine calm_fixA rfl rfl ?_
 apply Exists.intro
 refine ⟨fun a wz hc hk hf K hK=>?_,?_⟩
 ·have h15:=hk 15 (by kernel_rfl)
  have h176:=held_isV hf 0 rfl (by kernel_rfl)
  clear hk hf hc
  go_simp
  exact hK _ _ (Below.refl _ _) rfl
 refine calm_fixA rfl rfl ?_
 apply Exists.intro
 refine ⟨fun a wz hc hk hf K hK=>?_,?_⟩
 ·have h177:=held_isV hf 0 rfl (by kernel_rfl)
  have h176:=held_isV hf 1 rfl (by kernel_rfl)
  clear hk hf hc
  go_simp
  exact hK _ _ (Below.refl _ _) rfl
 refine calm_fixA rfl rfl ?_
 apply Exists.intro
 refine ⟨fun a wz hc hk hf K hK=>?_,?_⟩
 ·have h176:=held_isV hf 2 rfl (by kernel_rfl)
  have h178:=held_isV hf 0 rfl (by kernel_rfl)
  clear hk hf hc
  go_simp
  exact hK _ _ (Below.refl _ _) rfl
 refine calm_fixA rfl rfl ?_
 apply Exists.intro
 refine ⟨fun a wz hc hk hf K hK=>?_,?_⟩
 ·have h179:=held_isV hf 0 rfl (by kernel_rfl)
  clear hk hf hc
  go_simp
  exact hK _ _ (Below.refl _ _) rfl
 refine calm_fixA rfl rfl ?_
 apply Exists.intro
 refine ⟨fun a wz hc hk hf K hK=>?_,?_⟩
 ·have h14:=hk 14 (by kernel_rfl)
  have h180:=held_isV hf 0 rfl (by kernel_rfl)
  clear hk hf hc
  go_simp
  exact hK _ _ (Below.refl _ _) rfl
 refine calm_fixA rfl rfl ?_
 apply Exists.intro
 refine ⟨fun a wz hc hk hf K hK=>?_,?_⟩
 ·have h181:=held_isV hf 0 rfl (by kernel_rfl)
  have h180:=held_isV hf 1 rfl (by kernel_rfl)
  clear hk hf hc
  go_simp
  exact hK _ _ (Below.refl _ _) rfl
 refine calm_fixA rfl rfl ?_
 apply Exists.intro
 refine ⟨fun a wz hc hk hf K hK=>?_,?_⟩
 ·have h182:=held_isV hf 0 rfl (by kernel_rfl)
  have h180:=held_isV hf 2 rfl (by kernel_rfl)
  clear hk hf hc
  go_simp
  exact hK _ _ (Below.refl _ _) rfl
 refine calm_fixA rfl rfl ?_
 apply Exists.intro
 refine ⟨fun a wz hc hk hf K hK=>?_,?_⟩
 ·have h180:=held_isV hf 3 rfl (by kernel_rfl)
  have h183:=held_isV hf 0 rfl (by kernel_rfl)
  clear hk hf hc
  go_simp
  exact hK _ _ (Below.refl _ _) rfl
 refine calm_fixA rfl rfl ?_
 apply Exists.intro
 refine ⟨fun a wz hc hk hf K hK=>?_,?_⟩
 ·have h184:=held_isV hf 0 rfl (by kernel_rfl)
  clear hk hf hc
  go_simp
  exact hK _ _ (Below.refl _ _) rfl
 refine calm_fixA rfl rfl ?_
 apply Exists.intro
 refine ⟨fun a wz hc hk hf K hK=>?_,?_⟩
 ·have h20:=hk 20 (by kernel_rfl)
  have h185:=held_isV hf 0 rfl (by kernel_rfl)
  clear hk hf hc
  go_simp
  exact hK _ _ (Below.refl _ _) rfl
 refine calm_fixA rfl rfl ?_
 apply Exists.intro
 refine ⟨fun a wz hc hk hf K hK=>?_,?_⟩
 ·have h186:=held_isV hf 0 rfl (by kernel_rfl)
  have h185:=held_isV hf 1 rfl (by kernel_rfl)
  clear hk hf hc
  go_simp
  exact hK _ _ (Below.refl _ _) rfl
 refine calm_fixA rfl rfl ?_
 apply Exists.intro
 refine ⟨fun a wz hc hk hf K hK=>?_,?_⟩
 ·have h185:=held_isV hf 2 rfl (by kernel_rfl)
  have h187:=held_isV hf 0 rfl (by kernel_rfl)
  clear hk hf hc
  go_simp
  exact hK _ _ (Below.refl _ _) rfl
 refine calm_fixA rfl rfl ?_
 apply Exists.intro
 refine ⟨fun a wz hc hk hf K hK=>?_,?_⟩
 ·have h188:=held_isV hf 0 rfl (by kernel_rfl)
  clear hk hf hc
  go_simp
  exact hK _ _ (Below.refl _ _) rfl
 refine calm_fixA rfl rfl ?_
 apply Exists.intro
 refine ⟨fun a wz hc hk hf K hK=>?_,?_⟩
 ·have h17:=hk 17 (by kernel_rfl)
  have h189:=held_isV hf 0 rfl (by kernel_rfl)
  clear hk hf hc
  go_simp
  exact hK _ _ (Below.refl _ _) rfl
 refine calm_fixA rfl rfl ?_
 apply Exists.intro
 refine ⟨fun a wz hc hk hf K hK=>?_,?_⟩
 ·have h190:=held_isV hf 0 rfl (by kernel_rfl)
  have h189:=held_isV hf 1 rfl (by kernel_rfl)
  clear hk hf hc
  go_simp
  exact hK _ _ (Below.refl _ _) rfl
 refine calm_fixA rfl rfl ?_
 apply Exists.intro
 refine ⟨fun a wz hc hk hf K hK=>?_,?_⟩
 ·have h191:=held_isV hf 0 rfl (by kernel_rfl)
  have h189:=held_isV hf 2 rfl (by kernel_rfl)
  clear hk hf hc
  go_simp
  exact hK _ _ (Below.refl _ _) rfl
 refine calm_fixA rfl rfl ?_
 apply Exists.intro
 refine ⟨fun a wz hc hk hf K hK=>?_,?_⟩
 ·have h189:=held_isV hf 3 rfl (by kernel_rfl)
  have h192:=held_isV hf 0 rfl (by kernel_rfl)
  clear hk hf hc
  go_simp
  exact hK _ _ (Below.refl _ _) rfl
 refine calm_fixA rfl rfl ?_
 apply Exists.intro
 refine ⟨fun a wz hc hk hf K hK=>?_,?_⟩
 ·have h193:=held_isV hf 0 rfl (by kernel_rfl)
  clear hk hf hc
  go_simp
  exact hK _ _ (Below.refl _ _) rfl
 refine calm_fixA rfl rfl ?_
 apply Exists.intro
 refine ⟨fun a wz hc hk hf K hK=>?_,?_⟩
 ·have h18:=hk 18 (by kernel_rfl)
  have h194:=held_isV hf 0 rfl (by kernel_rfl)
  clear hk hf hc
  go_simp
  exact hK _ _ (Below.refl _ _) rfl
 refine calm_fixA rfl rfl ?_
 apply Exists.intro
 refine ⟨fun a wz hc hk hf K hK=>?_,?_⟩
 ·have h195:=held_isV hf 0 rfl (by kernel_rfl)
  have h194:=held_isV hf 1 rfl (by kernel_rfl)
  clear hk hf hc
  go_simp
  exact hK _ _ (Below.refl _ _) rfl
 refine calm_fixA rfl rfl ?_
 apply Exists.intro
 refine ⟨fun a wz hc hk hf K hK=>?_,?_⟩
 ·have h196:=held_isV hf 0 rfl (by kernel_rfl)
  have h194:=held_isV hf 2 rfl (by kernel_rfl)
  clear hk hf hc
  go_simp
  exact hK _ _ (Below.refl _ _) rfl
 refine calm_fixA rfl rfl ?_
 apply Exists.intro
 refine ⟨fun a wz hc hk hf K hK=>?_,?_⟩
 ·have h194:=held_isV hf 3 rfl (by kernel_rfl)
  have h197:=held_isV hf 0 rfl (by kernel_rfl)
  clear hk hf hc
  go_simp
  exact hK _ _ (Below.refl _ _) rfl
 refine calm_fixA rfl rfl ?_
 apply Exists.intro
 refine ⟨fun a wz hc hk hf K hK=>?_,?_⟩
 ·have h198:=held_isV hf 0 rfl (by kernel_rfl)
  clear hk hf hc
  go_simp
  exact hK _ _ (Below.refl _ _) rfl
 refine calm_fixA rfl rfl ?_
 apply Exists.intro
 refine ⟨fun a wz hc hk hf K hK=>?_,?_⟩
 ·have h18:=hk 18 (by kernel_rfl)
  have h199:=held_isV hf 0 rfl (by kernel_rfl)
  clear hk hf hc
  go_simp
  exact hK _ _ (Below.refl _ _) rfl
 refine calm_fixA rfl rfl ?_
 apply Exists.intro
 refine ⟨fun a wz hc hk hf K hK=>?_,?_⟩
 ·have h200:=held_isV hf 0 rfl (by kernel_rfl)
  have h199:=held_isV hf 1 rfl (by kernel_rfl)
  clear hk hf hc
  go_simp
  exact hK _ _ (Below.refl _ _) rfl
 refine calm_fixA rfl rfl ?_
 apply Exists.intro
 refine ⟨fun a wz hc hk hf K hK=>?_,?_⟩
 ·have h201:=held_isV hf 0 rfl (by kernel_rfl)
  have h199:=held_isV hf 2 rfl (by kernel_rfl)
  clear hk hf hc
  go_simp
  exact hK _ _ (Below.refl _ _) rfl
 refine calm_fixA rfl rfl ?_
 apply Exists.intro
 refine ⟨fun a wz hc hk hf K hK=>?_,?_⟩
 ·have hb:Below w29.heap.size w29 wz:=hc rfl
  have h202:=held_isV hf 0 rfl (by kernel_rfl)
  have h199:=held_isV hf 3 rfl (by kernel_rfl)
  clear hk hf hc
  have yd:=cell_kept Yd.out hb
  have yf:=cell_kept Yf.out hb
  have z1:=cell_kept Z1.out hb
  have z2:=cell_kept Z2.out hb
  have z3:=cell_kept Z3.out hb
  obtain ⟨⟨c0,c1,c2⟩,-⟩:=(HBX.out.kept hb).three
  go_simp
  exact hK _ _ (Below.refl _ _) rfl
 refine calm_fixA rfl rfl ?_
 apply Exists.intro
 refine ⟨fun a wz hc hk hf K hK=>?_,?_⟩
 ·have h203:=held_isV hf 0 rfl (by kernel_rfl)
  have h199:=held_isV hf 4 rfl (by kernel_rfl)
  clear hk hf hc
  go_simp
  exact hK _ _ (Below.refl _ _) rfl
 refine calm_fixA rfl rfl ?_
 apply Exists.intro
 refine ⟨fun a wz hc hk hf K hK=>?_,?_⟩
 ·have h199:=held_isV hf 5 rfl (by kernel_rfl)
  have h204:=held_isV hf 0 rfl (by kernel_rfl)
  clear hk hf hc
  go_simp
  exact hK _ _ (Below.refl _ _) rfl
 refine calm_fixA rfl rfl ?_
 apply Exists.intro
 refine ⟨fun a wz hc hk hf K hK=>?_,?_⟩
 ·have h205:=held_isV hf 0 rfl (by kernel_rfl)
  clear hk hf hc
  go_simp
  exact hK _ _ (Below.refl _ _) rfl
 refine calm_fixA rfl rfl ?_
 apply Exists.intro
 refine ⟨fun a wz hc hk hf K hK=>?_,?_⟩
 ·have h24:=hk 24 (by kernel_rfl)
  have h206:=held_isV hf 0 rfl (by kernel_rfl)
  clear hk hf hc
  go_simp
  exact hK _ _ (Below.refl _ _) rfl
 refine calm_fixA rfl rfl ?_
 apply Exists.intro
 refine ⟨fun a wz hc hk hf K hK=>?_,?_⟩
 ·have h207:=held_isV hf 0 rfl (by kernel_rfl)
  have h206:=held_isV hf 1 rfl (by kernel_rfl)
  clear hk hf hc
  go_simp
  exact hK _ _ (Below.refl _ _) rfl
 refine calm_fixA rfl rfl ?_
 apply Exists.intro
 refine ⟨fun a wz hc hk hf K hK=>?_,?_⟩
 ·have h206:=held_isV hf 2 rfl (by kernel_rfl)
  have h208:=held_isV hf 0 rfl (by kernel_rfl)
  clear hk hf hc
  go_simp
  exact hK _ _ (Below.refl _ _) rfl
 refine calm_fixA rfl rfl ?_
 apply Exists.intro
 refine ⟨fun a wz hc hk hf K hK=>?_,?_⟩
 ·have h209:=held_isV hf 0 rfl (by kernel_rfl)
  clear hk hf hc
  go_simp
  exact hK _ _ (Below.refl _ _) rfl
 refine calm_fixA rfl rfl ?_
 apply Exists.intro
 refine ⟨fun a wz hc hk hf K hK=>?_,?_⟩
 ·have h13:=hk 13 (by kernel_rfl)
  have h210:=held_isV hf 0 rfl (by kernel_rfl)
  clear hk hf hc
  go_simp
  exact hK _ _ (Below.refl _ _) rfl
 refine calm_fixA rfl rfl ?_
 apply Exists.intro
 refine ⟨fun a wz hc hk hf K hK=>?_,?_⟩
 ·have hb:Below w29.heap.size w29 wz:=hc rfl
  have h25:=hk 25 (by kernel_rfl)
  have h210:=held_isV hf 1 rfl (by kernel_rfl)
  clear hk hf hc
  have yd:=cell_kept Yd.out hb
  have yf:=cell_kept Yf.out hb
  have z1:=cell_kept Z1.out hb
  have z2:=cell_kept Z2.out hb
  have z3:=cell_kept Z3.out hb
  obtain ⟨⟨c0,c1,c2⟩,-⟩:=(HBX.out.kept hb).three
  go_simp
  exact hK _ _ (Below.refl _ _) rfl
 refine calm_varA (fun v wy=>∃ c:Nat,groupK.In (fun _=>True) wy v [(grpL [tA21] gs21 [(rA21,2)])]∧∃ A,v=.slice A 1 c) rfl rfl (fun _ _ _ hb h=>h.elim fun c h=>⟨c,h.1.kept hb,h.2⟩) (fun a wz hc hk hf K hK=>?_) ?_
 ·have hb:Below w29.heap.size w29 wz:=hc rfl
  have h212:=held_isV hf 0 rfl (by kernel_rfl)
  have h210:=held_isV hf 2 rfl (by kernel_rfl)
  clear hk hf hc
  have yd:=cell_kept Yd.out hb
  have yf:=cell_kept Yf.out hb
  have z1:=cell_kept Z1.out hb
  have z2:=cell_kept Z2.out hb
  have z3:=cell_kept Z3.out hb
  obtain ⟨⟨c0,c1,c2⟩,-⟩:=(HBX.out.kept hb).three
  go_simp
  exact hK _ _ (Below.alloc (.refl _ _) (Nat.le_refl _) _) (fun _=>⟨1,Kin.lit_in groupK wz 46 [(.slice Akp 1 pkp,.slice App 3 ppp,(grpL [tA21] gs21 [(rA21,2)]))] (fun t ht=>by
   rw [List.mem_singleton.1 ht]
   exact groupK.kept HP.out hb) (by show 1≤1000;decide) trivial,_,rfl⟩)
 refine calm_fixA rfl rfl ?_
 apply Exists.intro
 refine ⟨fun a wz hc hk hf K hK=>?_,?_⟩
 ·have hb:Below w29.heap.size w29 wz:=hc rfl
  have h211:=held_isV hf 2 rfl (by kernel_rfl)
  obtain ⟨v213,h213,S213⟩:=held_at hf 0 rfl (by kernel_rfl)
  have h210:=held_isV hf 3 rfl (by kernel_rfl)
  clear hk hf hc
  have yd:=cell_kept Yd.out hb
  have yf:=cell_kept Yf.out hb
  have z1:=cell_kept Z1.out hb
  have z2:=cell_kept Z2.out hb
  have z3:=cell_kept Z3.out hb
  obtain ⟨⟨c0,c1,c2⟩,-⟩:=(HBX.out.kept hb).three
  obtain ⟨c9,hone,A9,rfl⟩:=S213 rfl
  go_simp
  refine Calls.mono (gsame_calls (HH.out.kept hb) hone (fun g hg=>by
   rw [List.mem_singleton.1 hg]
   exact short_grp _ (fit_grp _ _ (by decide) (by decide) (by decide)))) ?_
  rintro e w1 ⟨rfl,hq⟩
  exact hK _ _ hq rfl
 refine calm_fixA rfl rfl ?_
 apply Exists.intro
 refine ⟨fun a wz hc hk hf K hK=>?_,?_⟩
 ·have h210:=held_isV hf 4 rfl (by kernel_rfl)
  have h214:=held_isV hf 0 rfl (by kernel_rfl)
  clear hk hf hc
  go_simp
  exact hK _ _ (Below.refl _ _) rfl
 refine calm_fixA rfl rfl ?_
 apply Exists.intro
 refine ⟨fun a wz hc hk hf K hK=>?_,?_⟩
 ·have h215:=held_isV hf 0 rfl (by kernel_rfl)
  clear hk hf hc
  go_simp
  exact hK _ _ (Below.refl _ _) rfl
 refine calm_nil ?_
 refine ⟨keeps_none,?_⟩
 intro w40 hc
 simp only [lexL,calmEnd]
 rintro _ rfl _ rfl _ rfl _ rfl _ rfl _ rfl _ rfl _ rfl _ rfl _ rfl _ rfl _ rfl _ rfl _ rfl _ rfl _ rfl _ rfl _ rfl _ rfl _ rfl _ rfl _ rfl _ rfl _ rfl _ rfl _ rfl _ rfl _ rfl _ rfl _ rfl _ rfl _ rfl _ rfl _ rfl _ rfl _ rfl _ rfl _ rfl _ rfl _ rfl _ rfl _ rfl _ rfl _ rfl _ rfl _ rfl _ rfl _ rfl _ rfl _ rfl _ rfl _ rfl _ rfl _ rfl _ rfl _ rfl _ rfl _ rfl _ rfl _ rfl _ rfl _ rfl _ rfl _ rfl _ rfl _ rfl _ rfl _ rfl _ rfl _ rfl _ rfl _ rfl _ rfl _ rfl _ rfl _ rfl _ rfl _ rfl _ rfl _ rfl _ rfl _ rfl _ rfl _ rfl _ rfl _ rfl _ rfl _ rfl _ rfl _ rfl _ rfl _ rfl _ rfl _ rfl _ rfl v213 S213 _ rfl _ rfl _ rfl
 have HB9:=Lib.hid (HBB.out.trans ((show Below w29.heap.size w29 w40 from hc rfl).mono HBB.out.size))
 clear hc
 simp only [Act.put,List.setIfInBounds_toArray,List.set_cons_zero,List.set_cons_succ]
 go_simp
 go_wp2
 go_ret
 exact ⟨rfl,HB9.out⟩
end Go.Proofs.YtjbpbfhgjldliaaGreat
