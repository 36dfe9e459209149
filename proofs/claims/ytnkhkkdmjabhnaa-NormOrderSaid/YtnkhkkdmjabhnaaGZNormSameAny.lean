/- The answer's Same of any two terms: true only of a term and itself. -/
import Derived.Test.YtnkhkkdmjabhnaaGZNormTells
namespace Go.Proofs.Ytnkhkkdmjabhnaa
open Go Go.RowKit
def SameEnd (w:World)(t u:Trm)(e:Ending)(w':World):Prop:=∃ r:Bool,e=.returned (.bool r)∧(r=true→t=u)∧Below w.heap.size w w'
def SameAnyAt (t:Trm):Prop:=∀ (u:Trm)(w:World)(v1 v2:Value),TermIn w v1 t→TermIn w v2 u→Calls Try.prog 15 #[v1,v2] w (SameEnd w t u)
set_option maxHeartbeats 4000000 in
set_option maxRecDepth 100000 in
theorem same_any_at (t:Trm):SameAnyAt t:=by
 refine Trm.ind (P:=SameAnyAt) (fun t ih=>?_) t
 intro u w v1 v2 ht hu
 have HIH:=Lib.hid ih
 obtain ⟨k1,rfl,-,hk1⟩:=ht
 obtain ⟨k2,rfl,-,hk2⟩:=hu
 have hm1:=hk1.len
 have hm2:=hk2.len
 unfold maxLen at hm1 hm2
 have HK1:=Lib.hid hk1
 have HK2:=Lib.hid hk2
 obtain ⟨A,cap,rfl,-⟩:=kids_at hk1
 obtain ⟨D,dap,rfl,-⟩:=kids_at hk2
 obtain ⟨op1,col1,cell1,ks⟩:=t
 obtain ⟨op2,col2,cell2,ls⟩:=u
 dsimp only [trmA,Trm.op,Trm.col,Trm.cell,Trm.kids] at *
 obtain ⟨n,hn⟩:∃ n,ks.length=n:=⟨_,rfl⟩
 have HN:Hid (ks.length=n):=hn
 obtain ⟨m,hm⟩:∃ m,ls.length=m:=⟨_,rfl⟩
 have HM:Hid (ls.length=m):=hm
 rw [hn] at HK1 hm1 ⊢
 rw [hm] at HK2 hm2 ⊢
 clear hn hm
 have ha1:=Below.alloc (.refl w.heap.size w) (Nat.le_refl _) (.cells #[.int .u8 op1,.int .i64 col1,.string cell1,.slice A n cap] 24)
 have ha2:=Below.alloc (.refl (w.alloc (.cells #[.int .u8 op1,.int .i64 col1,.string cell1,.slice A n cap] 24)).heap.size (w.alloc (.cells #[.int .u8 op1,.int .i64 col1,.string cell1,.slice A n cap] 24))) (Nat.le_refl _) (.cells #[.int .u8 op2,.int .i64 col2,.string cell2,.slice D m dap] 24)
 have HB:=Lib.hid (ha1.trans (ha2.mono ha1.size))
 have HX:=Lib.hid ((trmbox_lit w 24 op1 col1 cell1 (.slice A n cap)).later ha2)
 have hy:=trmbox_lit (w.alloc (.cells #[.int .u8 op1,.int .i64 col1,.string cell1,.slice A n cap] 24)) 24 op2 col2 cell2 (.slice D m dap)
 rw [show (w.alloc (.cells #[.int .u8 op1,.int .i64 col1,.string cell1,.slice A n cap] 24)).heap.size=w.heap.size+1 by simp] at hy
 have HY:=Lib.hid hy
 obtain ⟨x0,x1,x2,x3,-⟩:=HX.out.cells
 obtain ⟨y0,y1,y2,y3,-⟩:=HY.out.cells
 clear hk1 hk2 ih ha1 ha2 hy
 by_cases h1:op1=op2
 ·subst h1
  by_cases h2:col1=col2
  ·subst h2
   by_cases h3:cell1=cell2
   ·subst h3
    by_cases h4:n=m
    ·subst h4
     go_enter Try.func15,Try.ntmps15
     go_wp2
     generalize World.alloc (World.alloc w _) _=w2 at *
     clear x0 x1 x2 x3 y0 y1 y2 y3
     go_loopw [5] (fun ix wr=>∃ i:Nat,i≤n∧ix=.int .i64 i∧Hid (ks.take i=ls.take i)∧Hid (Below w2.heap.size w2 wr)) (fun ix _=>n-(intOf ix).toNat)
     case atStart=>exact ⟨0,Nat.zero_le _,rfl,(show Hid _ from rfl),Lib.hid (.refl _ _)⟩
     case round =>
      obtain ⟨i,hi,rfl,HE,HBR⟩:=hrel
      have HBW:=Lib.hid (HB.out.trans (HBR.out.mono HB.out.size))
      obtain ⟨x0,x1,x2,x3,-⟩:=(HX.out.later HBR.out).cells
      obtain ⟨y0,y1,y2,y3,-⟩:=(HY.out.later HBR.out).cells
      by_cases hlt:i < n
      ·have hil:i < ks.length:=by rw [HN.out];exact hlt
       have hil2:i < ls.length:=by rw [HM.out];exact hlt
       obtain ⟨b,off,A1,p1,ea,hb0,hc,htk⟩:=kid_cells HK1.out hil
       subst ea
       obtain ⟨b',off',A2,p2,ea,hb0',hc',htk'⟩:=kid_cells HK2.out hil2
       subst ea
       have HC1:=Lib.hid hc
       have HC2:=Lib.hid hc'
       have HS:=Lib.hid fun W (hW:Below w.heap.size w W)=>HIH.out ks[i] (List.getElem_mem hil) ls[i] W _ _ (htk.kept hW) (htk'.kept hW)
       have HE2:Hid (ks[i]=ls[i]→ks.take (i+1)=ls.take (i+1)):=fun e=>by rw [List.take_add_one,List.take_add_one,HE.out,List.getElem?_eq_getElem hil,List.getElem?_eq_getElem hil2,e]
       have HNE:Hid (ks[i]≠ls[i]→Trm.mk op1 col1 cell1 ks=.mk op1 col1 cell1 ls→False):=fun h e=>by
        injection e with _ _ _ e
        subst e
        exact h rfl
       have i0:(0:Int)≤(i:Int):=by omega
       have i1:(i:Int) < (n:Int):=by omega
       have HLT:Hid (i < n):=hlt
       clear hc hc' htk htk' hlt hi
       obtain ⟨tk,htk⟩:∃ x,ks[i]=x:=⟨_,rfl⟩
       obtain ⟨tl,htl⟩:∃ x,ls[i]=x:=⟨_,rfl⟩
       rw [htk,htl] at HS HE2 HNE
       rw [htk] at HC1
       rw [htl] at HC2
       clear htk htl
       obtain ⟨n1,hn1⟩:∃ x,tk.kids.length=x:=⟨_,rfl⟩
       generalize tk.kids.length=nk at *
       generalize tk.op=ok1 at *
       generalize tk.col=ok2 at *
       generalize tk.cell=ok3 at *
       generalize tl.kids.length=nk' at *
       generalize tl.op=od1 at *
       generalize tl.col=od2 at *
       generalize tl.cell=od3 at *
       clear hil hil2 hn1
       go_wp2_with fail
       clear x0 x1 x2 x3 y0 y1 y2 y3
       refine wp_region_calm (offC wr) (fun _=>false) (fun _=>false) anyE false (by kernel_rfl) (by kernel_rfl) (by kernel_rfl) (by kernel_rfl) (by intro m hm;revert hm;simp;try omega) (offC_stable _) (offC_start _) ?_
       refine calm_fixA rfl rfl ?_
       apply Exists.intro
       refine ⟨fun a wz hc hk hf K hK=>?_,?_⟩
       ·have h2:=hk 2 (by kernel_rfl)
        clear hk hf hc
        go_simp
        exact hK _ _ (Below.refl _ _) rfl
       refine calm_fixA rfl rfl ?_
       apply Exists.intro
       refine ⟨fun a wz hc hk hf K hK=>?_,?_⟩
       ·have hb:Below wr.heap.size wr wz:=hc rfl
        have h41:=held_isV hf 0 rfl (by kernel_rfl)
        clear hk hf hc
        obtain ⟨x0,x1,x2,x3,-⟩:=(HX.out.later (HBR.out.trans (hb.mono HBR.out.size))).cells
        go_simp
        exact hK _ _ (Below.refl _ _) rfl
       refine calm_fixA rfl rfl ?_
       apply Exists.intro
       refine ⟨fun a wz hc hk hf K hK=>?_,?_⟩
       ·have h5:=hk 5 (by kernel_rfl)
        clear hk hf hc
        go_simp
        exact hK _ _ (Below.refl _ _) rfl
       refine calm_fixA rfl rfl ?_
       apply Exists.intro
       refine ⟨fun a wz hc hk hf K hK=>?_,?_⟩
       ·have h42:=held_isV hf 1 rfl (by kernel_rfl)
        have h43:=held_isV hf 0 rfl (by kernel_rfl)
        clear hk hf hc
        go_simp
        exact hK _ _ (Below.refl _ _) rfl
       refine calm_fixA rfl rfl ?_
       apply Exists.intro
       refine ⟨fun a wz hc hk hf K hK=>?_,?_⟩
       ·have hb:Below wr.heap.size wr wz:=hc rfl
        have h44:=held_isV hf 0 rfl (by kernel_rfl)
        clear hk hf hc
        obtain ⟨k0,k1,k2,k3⟩:=HC1.out.kept hb0 (HBW.out.trans (hb.mono HBW.out.size))
        go_simp
        exact hK _ _ (Below.refl _ _) rfl
       refine calm_fixA rfl rfl ?_
       apply Exists.intro
       refine ⟨fun a wz hc hk hf K hK=>?_,?_⟩
       ·have h3:=hk 3 (by kernel_rfl)
        clear hk hf hc
        go_simp
        exact hK _ _ (Below.refl _ _) rfl
       refine calm_fixA rfl rfl ?_
       apply Exists.intro
       refine ⟨fun a wz hc hk hf K hK=>?_,?_⟩
       ·have hb:Below wr.heap.size wr wz:=hc rfl
        have h46:=held_isV hf 0 rfl (by kernel_rfl)
        clear hk hf hc
        obtain ⟨y0,y1,y2,y3,-⟩:=(HY.out.later (HBR.out.trans (hb.mono HBR.out.size))).cells
        go_simp
        exact hK _ _ (Below.refl _ _) rfl
       refine calm_fixA rfl rfl ?_
       apply Exists.intro
       refine ⟨fun a wz hc hk hf K hK=>?_,?_⟩
       ·have h5:=hk 5 (by kernel_rfl)
        clear hk hf hc
        go_simp
        exact hK _ _ (Below.refl _ _) rfl
       refine calm_fixA rfl rfl ?_
       apply Exists.intro
       refine ⟨fun a wz hc hk hf K hK=>?_,?_⟩
       ·have h47:=held_isV hf 1 rfl (by kernel_rfl)
        have h48:=held_isV hf 0 rfl (by kernel_rfl)
        clear hk hf hc
        go_simp
        exact hK _ _ (Below.refl _ _) rfl
       refine calm_fixA rfl rfl ?_
       apply Exists.intro
       refine ⟨fun a wz hc hk hf K hK=>?_,?_⟩
       ·have hb:Below wr.heap.size wr wz:=hc rfl
        have h49:=held_isV hf 0 rfl (by kernel_rfl)
        clear hk hf hc
        obtain ⟨k0,k1,k2,k3⟩:=HC2.out.kept hb0' (HBW.out.trans (hb.mono HBW.out.size))
        go_simp
        exact hK _ _ (Below.refl _ _) rfl
       refine calm_varA (fun u _=>∃ r,u=.bool r∧(r=true→tk=tl)) rfl rfl (fun _ _ _ _ h=>h) (fun a wz hc hk hf K hK=>?_) ?_
       ·have hb:Below wr.heap.size wr wz:=hc rfl
        have h45:=held_isV hf 5 rfl (by kernel_rfl)
        have h50:=held_isV hf 0 rfl (by kernel_rfl)
        clear hk hf hc
        go_simp
        refine Calls.mono (HS.out wz (HBW.out.trans (hb.mono HBW.out.size))) ?_
        rintro e w1 ⟨r,rfl,hr,hq⟩
        exact hK _ _ hq (fun _=>⟨r,rfl,hr⟩)
       refine calm_varA (fun u _=>∃ r,u=.bool (!r)∧(r=true→tk=tl)) rfl rfl (fun _ _ _ _ h=>h) (fun a wz hc hk hf K hK=>?_) ?_
       ·have hb:Below wr.heap.size wr wz:=hc rfl
        obtain ⟨v51,h51,S51⟩:=held_at hf 0 rfl (by kernel_rfl)
        clear hk hf hc
        obtain ⟨r,rfl,hr⟩:=S51 rfl
        go_simp
        exact hK _ _ (Below.refl _ _) fun _=>⟨r,rfl,hr⟩
       refine calm_nil ?_
       refine ⟨keeps_none,?_⟩
       intro w9 hc
       simp only [lexL,calmEnd]
       rintro _ rfl _ rfl _ rfl _ rfl _ rfl _ rfl _ rfl _ rfl _ rfl _ rfl v51 S51 v52 S52
       have hq:Below wr.heap.size wr w9:=hc rfl
       have HBN:=Lib.hid (HBR.out.trans (hq.mono HBR.out.size))
       obtain ⟨r,rfl,hr⟩:=S52 rfl
       clear hc hq HBW S51 HNE
       simp only [Act.put,List.setIfInBounds_toArray,List.set_cons_zero,List.set_cons_succ]
       cases r with
       | true =>
        have HEN:=Lib.hid (HE2.out (hr rfl))
        clear hr
        go_wp2
        go_roundw
        case rel=>exact ⟨i+1,HLT.out,by go_num,HEN,HBN⟩
        case measure=>have:=HLT.out;simp [intOf];omega
       | false =>
        have HBE:=Lib.hid (HB.out.trans (HBN.out.mono HB.out.size))
        clear hr
        go_wp2
        go_ret
        exact ⟨false,rfl,(fun h=>absurd h (by decide)),HBE.out⟩
      ·obtain rfl:i=n:=by omega
       have HEQ:Hid (ks=ls):=by
        have h:=HE.out
        rwa [List.take_of_length_le (by rw [HN.out];exact Nat.le_refl _),List.take_of_length_le (by rw [HM.out];exact Nat.le_refl _)] at h
       clear hlt hi HE
       go_wp2
       go_ret
       exact ⟨true,rfl,fun _=>by rw [HEQ.out],HBW.out⟩
    ·have d1:((n:Int) != (m:Int))=true:=by simp;omega
     have d2:(n==m)=false:=by simp;omega
     have HE:Hid (Trm.mk op1 col1 cell1 ks≠.mk op1 col1 cell1 ls):=fun e=>by
      injection e with _ _ _ e
      subst e
      exact h4 (HN.out.symm.trans HM.out)
     go_enter Try.func15,Try.ntmps15
     go_wp2
     go_ret
     exact ⟨false,rfl,(fun h=>absurd h (by decide)),HB.out⟩
   ·have d1:(cell1.toList==cell2.toList)=false:=by
     rw [beq_eq_false_iff_ne]
     intro e
     rw [ByteArray.toList_eq,ByteArray.toList_eq] at e
     exact h3 (bytes_ext e)
    go_enter Try.func15,Try.ntmps15
    go_wp2
    go_ret
    exact ⟨false,rfl,(fun h=>absurd h (by decide)),HB.out⟩
  ·have d1:(col1 != col2)=true:=by simp [h2]
   go_enter Try.func15,Try.ntmps15
   go_wp2
   go_ret
   exact ⟨false,rfl,(fun h=>absurd h (by decide)),HB.out⟩
 ·have d1:(op1 != op2)=true:=by simp [h1]
  go_enter Try.func15,Try.ntmps15
  go_wp2
  go_ret
  exact ⟨false,rfl,(fun h=>absurd h (by decide)),HB.out⟩
end Go.Proofs.Ytnkhkkdmjabhnaa
