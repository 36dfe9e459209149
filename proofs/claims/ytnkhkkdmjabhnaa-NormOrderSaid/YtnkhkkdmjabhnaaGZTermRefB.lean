/- The contracts of layer 15's answer: Size, Same; and of its laws: great, small. -/
import Derived.Test.YtnkhkkdmjabhnaaGZTermRef
namespace Go.Proofs.Ytnkhkkdmjabhnaa
open Go Go.RowKit
def RefSameAt (t:Trm):Prop:=∀ (w:World)(v u:Value),TermIn w v t→TermIn w u t→GivesAt Try.prog 15 #[v,u] w (.bool true)
set_option maxHeartbeats 2000000 in
theorem ref_same15_calls (t:Trm):RefSameAt t:=by
 refine Trm.ind (P:=RefSameAt) (fun t ih=>?_) t
 intro w v u ht hu
 obtain ⟨kv,rfl,ho,hk⟩:=ht
 obtain ⟨ku,rfl,-,hku⟩:=hu
 have hm:=hk.len
 unfold maxLen at hm
 obtain ⟨A,cap,rfl,hat⟩:=kids_at hk
 obtain ⟨D,dap,rfl,had⟩:=kids_at hku
 have HAT:=Lib.hid hat
 have HAD:=Lib.hid had
 have HIH:=Lib.hid ih
 have ha1:=Below.alloc (.refl w.heap.size w) (Nat.le_refl _) (.cells #[.int .u8 (t).op,.int .i64 (t).col,.string (t).cell,.slice A (t).kids.length cap] 24)
 have ha2:=Below.alloc (.refl (w.alloc (.cells #[.int .u8 (t).op,.int .i64 (t).col,.string (t).cell,.slice A (t).kids.length cap] 24)).heap.size (w.alloc (.cells #[.int .u8 (t).op,.int .i64 (t).col,.string (t).cell,.slice A (t).kids.length cap] 24))) (Nat.le_refl _) (.cells #[.int .u8 (t).op,.int .i64 (t).col,.string (t).cell,.slice D (t).kids.length dap] 24)
 have HB2:=Lib.hid (ha1.trans (ha2.mono ha1.size))
 have HX:=Lib.hid ((trmbox_lit w 24 t.op t.col t.cell (.slice A t.kids.length cap)).later ha2)
 have hy:=trmbox_lit (w.alloc (.cells #[.int .u8 (t).op,.int .i64 (t).col,.string (t).cell,.slice A (t).kids.length cap] 24)) 24 t.op t.col t.cell (.slice D t.kids.length dap)
 rw [show (w.alloc (.cells #[.int .u8 (t).op,.int .i64 (t).col,.string (t).cell,.slice A (t).kids.length cap] 24)).heap.size=w.heap.size+1 by simp] at hy
 have HY:=Lib.hid hy
 dsimp only [trmA]
 unfold GivesAt
 clear ho hk hku hat had ih ha1 ha2 hy
 go_enter Try.func15,Try.ntmps15
 go_wp2
 generalize World.alloc (World.alloc w _) _=w2 at *
 go_loopw [5] (fun i wr=>∃ j:Nat,j≤t.kids.length∧i=.int .i64 j∧Below w2.heap.size w2 wr) (fun i _=>t.kids.length-(intOf i).toNat)
 case atStart=>exact ⟨0,Nat.zero_le _,rfl,.refl _ _⟩
 case round =>
  obtain ⟨j,hj,rfl,hb⟩:=hrel
  have hB:=hb.size
  have hbw:=HB2.out.trans (hb.mono HB2.out.size)
  obtain ⟨y0,y1,y2,y3,_⟩:=(HX.out.later hb).cells
  obtain ⟨z0,z1,z2,z3,_⟩:=(HY.out.later hb).cells
  by_cases hlt:j < t.kids.length
  ·obtain ⟨b,off,ea,hb0,hc⟩:=HAT.out j hlt
   subst ea
   obtain ⟨kkv,ok,hkk,c0,c1,c2,c3⟩:=hc j hlt
   obtain ⟨b',off',ea,hb0',hc'⟩:=HAD.out j hlt
   subst ea
   obtain ⟨kku,-,hkku,d0,d1,d2,d3⟩:=hc' j hlt
   have HBW:=Lib.hid hbw
   have HBR:=Lib.hid hb
   have HC0:=Lib.hid c0
   have HC1:=Lib.hid c1
   have HC2:=Lib.hid c2
   have HC3:=Lib.hid c3
   have HD0:=Lib.hid d0
   have HD1:=Lib.hid d1
   have HD2:=Lib.hid d2
   have HD3:=Lib.hid d3
   have HL1:=Lib.hid hb0
   have HL2:=Lib.hid hb0'
   have HC:Hid (∀ W,Below w.heap.size w W→GivesAt Try.prog 15 #[.agg #[.int .u8 t.kids[j].op,.int .i64 t.kids[j].col,.string t.kids[j].cell,kkv],.agg #[.int .u8 t.kids[j].op,.int .i64 t.kids[j].col,.string t.kids[j].cell,kku]] W (.bool true)) :=
    fun W hW=>HIH.out t.kids[j] (List.getElem_mem hlt) W (trmA (kkv,t.kids[j])) (trmA (kku,t.kids[j])) ⟨kkv,rfl,ok,hkk.kept hW⟩ ⟨kku,rfl,ok,hkku.kept hW⟩
   obtain ⟨Ak,pk,rfl,-⟩:=kids_at hkk
   obtain ⟨Au,pu,rfl,-⟩:=kids_at hkku
   have i0:(0:Int)≤(j:Int):=by omega
   have i1:(j:Int) < (t.kids.length:Int):=by omega
   clear hc c0 c1 c2 c3 hkk ok hc' d0 d1 d2 d3 hkku hbw
   generalize t.kids[j].kids.length=nk at *
   generalize t.kids[j].op=ok1 at *
   generalize t.kids[j].col=ok2 at *
   generalize t.kids[j].cell=ok3 at *
   go_wp2_with fail
   clear y0 y1 y2 y3 z0 z1 z2 z3
   refine wp_region_calm (offC wr) (fun _=>false) (fun _=>false) anyE false (by kernel_rfl) (by kernel_rfl) (by kernel_rfl) (by kernel_rfl) (by intro m hm;revert hm;simp;try omega) (offC_stable _) (offC_start _) ?_
   refine calm_fixA rfl rfl ?_
   apply Exists.intro
   refine ⟨fun a wz hc hk hf K hK=>?_,?_⟩
   ·have h2:=hk 2 (by kernel_rfl)
    clear hk hf hc
    go_simp
    exact hK _ _ (Below.refl _ _) rfl
   refine calm_fixA rfl rfl ?_
   apply Exists.intro
   refine ⟨fun a wz hc hk hf K hK=>?_,?_⟩
   ·have hb:Below wr.heap.size wr wz:=hc rfl
    have h41:=held_isV hf 0 rfl (by kernel_rfl)
    clear hk hf hc
    obtain ⟨y0,y1,y2,y3,_⟩:=(HX.out.later (HBR.out.trans (hb.mono HBR.out.size))).cells
    go_simp
    exact hK _ _ (Below.refl _ _) rfl
   refine calm_fixA rfl rfl ?_
   apply Exists.intro
   refine ⟨fun a wz hc hk hf K hK=>?_,?_⟩
   ·have h5:=hk 5 (by kernel_rfl)
    clear hk hf hc
    go_simp
    exact hK _ _ (Below.refl _ _) rfl
   refine calm_fixA rfl rfl ?_
   apply Exists.intro
   refine ⟨fun a wz hc hk hf K hK=>?_,?_⟩
   ·have h42:=held_isV hf 1 rfl (by kernel_rfl)
    have h43:=held_isV hf 0 rfl (by kernel_rfl)
    clear hk hf hc
    go_simp
    exact hK _ _ (Below.refl _ _) rfl
   refine calm_fixA rfl rfl ?_
   apply Exists.intro
   refine ⟨fun a wz hc hk hf K hK=>?_,?_⟩
   ·have hb:Below wr.heap.size wr wz:=hc rfl
    have h44:=held_isV hf 0 rfl (by kernel_rfl)
    clear hk hf hc
    have hw:=HBW.out.trans (hb.mono HBW.out.size)
    have x0:=(hw.cell (p:=⟨b,off+j*4,none⟩) HL1.out).trans HC0.out
    have x1:=(hw.cell (p:=⟨b,off+j*4+1,none⟩) HL1.out).trans HC1.out
    have x2:=(hw.cell (p:=⟨b,off+j*4+2,none⟩) HL1.out).trans HC2.out
    have x3:=(hw.cell (p:=⟨b,off+j*4+3,none⟩) HL1.out).trans HC3.out
    go_simp
    exact hK _ _ (Below.refl _ _) rfl
   refine calm_fixA rfl rfl ?_
   apply Exists.intro
   refine ⟨fun a wz hc hk hf K hK=>?_,?_⟩
   ·have h3:=hk 3 (by kernel_rfl)
    clear hk hf hc
    go_simp
    exact hK _ _ (Below.refl _ _) rfl
   refine calm_fixA rfl rfl ?_
   apply Exists.intro
   refine ⟨fun a wz hc hk hf K hK=>?_,?_⟩
   ·have hb:Below wr.heap.size wr wz:=hc rfl
    have h46:=held_isV hf 0 rfl (by kernel_rfl)
    clear hk hf hc
    obtain ⟨z0,z1,z2,z3,_⟩:=(HY.out.later (HBR.out.trans (hb.mono HBR.out.size))).cells
    go_simp
    exact hK _ _ (Below.refl _ _) rfl
   refine calm_fixA rfl rfl ?_
   apply Exists.intro
   refine ⟨fun a wz hc hk hf K hK=>?_,?_⟩
   ·have h5:=hk 5 (by kernel_rfl)
    clear hk hf hc
    go_simp
    exact hK _ _ (Below.refl _ _) rfl
   refine calm_fixA rfl rfl ?_
   apply Exists.intro
   refine ⟨fun a wz hc hk hf K hK=>?_,?_⟩
   ·have h47:=held_isV hf 1 rfl (by kernel_rfl)
    have h48:=held_isV hf 0 rfl (by kernel_rfl)
    clear hk hf hc
    go_simp
    exact hK _ _ (Below.refl _ _) rfl
   refine calm_fixA rfl rfl ?_
   apply Exists.intro
   refine ⟨fun a wz hc hk hf K hK=>?_,?_⟩
   ·have hb:Below wr.heap.size wr wz:=hc rfl
    have h49:=held_isV hf 0 rfl (by kernel_rfl)
    clear hk hf hc
    have hw:=HBW.out.trans (hb.mono HBW.out.size)
    have x0:=(hw.cell (p:=⟨b',off'+j*4,none⟩) HL2.out).trans HD0.out
    have x1:=(hw.cell (p:=⟨b',off'+j*4+1,none⟩) HL2.out).trans HD1.out
    have x2:=(hw.cell (p:=⟨b',off'+j*4+2,none⟩) HL2.out).trans HD2.out
    have x3:=(hw.cell (p:=⟨b',off'+j*4+3,none⟩) HL2.out).trans HD3.out
    go_simp
    exact hK _ _ (Below.refl _ _) rfl
   refine calm_fixA rfl rfl ?_
   apply Exists.intro
   refine ⟨fun a wz hc hk hf K hK=>?_,?_⟩
   ·have hb:Below wr.heap.size wr wz:=hc rfl
    have h45:=held_isV hf 5 rfl (by kernel_rfl)
    have h50:=held_isV hf 0 rfl (by kernel_rfl)
    clear hk hf hc
    go_simp
    refine Calls.mono (HC.out wz (HBW.out.trans (hb.mono HBW.out.size))) ?_
    rintro e w1 ⟨rfl,hq⟩
    exact hK _ _ hq rfl
   refine calm_fixA rfl rfl ?_
   apply Exists.intro
   refine ⟨fun a wz hc hk hf K hK=>?_,?_⟩
   ·have h51:=held_isV hf 0 rfl (by kernel_rfl)
    clear hk hf hc
    go_simp
    exact hK _ _ (Below.refl _ _) rfl
   refine calm_nil ?_
   refine ⟨keeps_none,?_⟩
   intro w3 hc
   simp only [lexL,calmEnd]
   rintro _ rfl _ rfl _ rfl _ rfl _ rfl _ rfl _ rfl _ rfl _ rfl _ rfl _ rfl _ rfl
   have hb3:Below w2.heap.size w2 w3:=HBR.out.trans (Below.mono (hc rfl) HBR.out.size)
   clear hc
   simp only [Act.put,List.setIfInBounds_toArray,List.set_cons_zero,List.set_cons_succ]
   go_wp2
   go_roundw
   case rel=>exact ⟨j+1,by omega,by go_num,hb3⟩
   case measure=>simp [intOf];omega
  ·obtain rfl:j=t.kids.length:=by omega
   go_wp2
   go_ret
   exact ⟨rfl,hbw⟩
end Go.Proofs.Ytnkhkkdmjabhnaa
