/- The law NormMeans of layer 17. -/
import Derived.Test.YtnkhkkdmjabhnaaGZTermRef
import Derived.Test.YtnkhkkdmjabhnaaGZNormTells
namespace Go.Proofs.Ytnkhkkdmjabhnaa
open Go Go.RowKit
theorem yes17_calls (s:ByteArray)(w:World):GivesAt Try.prog 20 #[.string s] w (.bool (decide (s=yesC))):=by
 have h:=yes_calls s w
 rw [yes_at] at h
 exact h
theorem str_at17 {w:World}{v:Value}{l:List ByteArray}(h:StrsIn w v l):∃ A p,v=.slice A l.length p∧∀ i (hi:i < l.length),∃ b off,A=some ⟨b,off,none⟩∧b < w.heap.size∧w.cell? ⟨b,off+i,none⟩=some (.string l[i]):=by
 obtain ⟨A,p,e,hat⟩:=SliceOf.at_ h
 refine ⟨A,p,e,fun i hi=>?_⟩
 obtain ⟨b,off,ea,hb,hc⟩:=hat (by omega)
 exact ⟨b,off,ea,hb,hc i _ (by rw [List.getElem?_map,List.getElem?_eq_getElem hi];rfl)⟩
def allY (row:List ByteArray)(l:List Trm):Bool:=l.all fun x=>decide (evalT row x=yesC)
theorem allY_snoc (row:List ByteArray)(l:List Trm)(i:Nat)(h:i < l.length):allY row (l.take (i+1))=(allY row (l.take i)&&decide (evalT row l[i]=yesC)):=by
 unfold allY
 rw [List.take_add_one,List.getElem?_eq_getElem h,List.all_append]
 simp
theorem allY_iff (row:List ByteArray)(l:List Trm):allY row l=true↔∀ x∈l,evalT row x=yesC:=by
 unfold allY
 rw [List.all_eq_true]
 exact ⟨fun h x hx=>of_decide_eq_true (h x hx),fun h x hx=>decide_eq_true (h x hx)⟩
theorem parts_gt (t:Trm){i:Nat}(h:i+1 < (partsT t).length):Op.bytesLess (printL (partsT t)[i]) (printL (partsT t)[i+1])=true :=
 List.pairwise_iff_getElem.1 (parts_rise t) i (i+1) (by omega) h (by omega)
theorem parts_few {t:Trm}(h:¬t.op=38):(partsT t).length≤1:=by
 rw [parts_other fun h2=>h h2.1]
 split <;> simp
set_option maxHeartbeats 8000000 in
set_option maxRecDepth 100000 in
theorem normMeans_calls {w:World}{vt vr:Value}{t:Trm}{row:List ByteArray}(ht:TermIn w vt t)(hr:StrsIn w vr row):GivesAt Try.prog 4 #[vt,vr] w (.bool true):=by
 have hml:=hr.len
 unfold maxLen at hml
 have HAW:=Lib.hid awake17_calls
 have HT:=Lib.hid ht
 have HR:=Lib.hid hr
 have HG:Hid (∀ W,Below w.heap.size w W→GivesAt Try.prog 8 #[vt,.int .i64 0] W (.bool (greatN 0 t))):=fun W hW=>great17_calls t W vt 0 (by decide) (ht.kept hW)
 have HSM:=Lib.hid fun (h:greatN 0 t=false)=>greatN_sm ht (by decide) h
 obtain ⟨A,cap,rfl⟩:=ht.parts15
 obtain ⟨Ar,pr,rfl,hrat⟩:=str_at17 hr
 have HRA:=Lib.hid hrat
 have hb:Below w.heap.size w (w.alloc (.cells #[.int .u8 t.op,.int .i64 t.col,.string t.cell,.slice A t.kids.length cap] 24)):=Below.alloc (.refl w.heap.size w) (Nat.le_refl _) _
 have hB:=hb.size
 have HX:=Lib.hid (trmbox_lit w 24 t.op t.col t.cell (.slice A t.kids.length cap))
 clear ht hr hrat
 unfold GivesAt
 cases hg:greatN 0 t with
 | true =>
  rw [hg] at HG
  clear hg HSM
  go_enter Try.func4,Try.ntmps4
  go_wp2_with (first|(go_at_call 8;refine (HG.out _ hb).step (w0:=w) (B:=w.heap.size) hb hB ?_;clear hb hB;intro wg hb hB)|(go_at_call 9;refine (HAW.out _).step (w0:=w) (B:=w.heap.size) hb hB ?_;clear hb hB;intro wa hb hB))
  go_ret
  exact ⟨rfl,hb⟩
 | false =>
  replace HSM:=Lib.hid (HSM.out hg)
  rw [hg] at HG
  clear hg
  by_cases h8:row.length≤20
  ·have d8:decide ((20:Int) < (row.length:Int))=false:=decide_eq_false (by omega)
   go_enter Try.func4,Try.ntmps4
   go_wp2_with fail
   refine (HG.out _ hb).stepB (w0:=w) (B:=w.heap.size) hb hB ?_
   clear hb hB h8
   intro w1 hb hB hq
   have HX1:=Lib.hid (HX.out.later hq)
   have HB1:=Lib.hid hb
   clear hq hb hB HX HG
   go_wp2
   go_loopw [5] (fun ix wr=>∃ i:Nat,i≤row.length∧ix=.int .i64 i∧Hid (Below w1.heap.size w1 wr)) (fun ix _=>row.length-(intOf ix).toNat)
   case atStart=>exact ⟨0,Nat.zero_le _,rfl,Lib.hid (.refl _ _)⟩
   case round =>
    obtain ⟨i,hi,rfl,HBR⟩:=hrel
    have HB:=Lib.hid (HB1.out.trans (HBR.out.mono HB1.out.size))
    by_cases hlt:i < row.length
    ·obtain ⟨b,off,ea,hb0,hc⟩:=HRA.out i hlt
     subst ea
     have k0:=(HB.out.cell (p:=⟨b,off+i,none⟩) hb0).trans hc
     have i1:(i:Int) < (row.length:Int):=by omega
     have HLT:Hid (i < row.length):=hlt
     have hb:Below w.heap.size w wr:=HB.out
     have hB:=hb.size
     generalize row[i]=cc at *
     clear hc hlt hi
     by_cases hz:100 < cc.size
     ·have dz:decide ((100:Int) < (cc.size:Int))=true:=decide_eq_true (by omega)
      go_wp2_with (go_at_call 9;refine (HAW.out _).step (w0:=w) (B:=w.heap.size) hb hB ?_;clear hb hB k0;intro wa hb hB)
      go_ret
      exact ⟨rfl,hb⟩
     ·have dz:decide ((100:Int) < (cc.size:Int))=false:=decide_eq_false (by omega)
      clear hb hB hz
      go_wp2
      go_roundw
      case rel=>exact ⟨i+1,HLT.out,by go_num,HBR⟩
      case measure=>have:=HLT.out;simp [intOf];omega
    ·obtain rfl:i=row.length:=by omega
     have HXR:=Lib.hid (HX1.out.later HBR.out)
     clear HBR HX1 hlt hi HRA
     obtain ⟨x0,x1,x2,x3,-⟩:=HXR.out.cells
     go_wp2_with fail
     refine (parts17_calls (HT.out.kept HB.out) HSM.out.2.2).mono ?_
     rintro e w2 ⟨uP,rfl,hk2,hb2⟩
     have HP2:=Lib.hid hk2
     have HB2:=Lib.hid (HB.out.trans (hb2.mono HB.out.size))
     have HX2:=Lib.hid (HXR.out.later hb2)
     obtain ⟨AP,pP,eP,-⟩:=kids_at hk2
     subst eP
     clear hk2 hb2 HXR HB x0 x1 x2 x3 HB1
     have HGT:Hid (∀ i (h:i+1 < (partsT t).length) (h':i < (partsT t).length),Op.bytesLess (printL ((partsT t)[i]'h')) (printL ((partsT t)[i+1]'h))=true):=fun i h h'=>parts_gt t h
     have HFW:=Lib.hid (parts_few (t:=t))
     have HPS:=Lib.hid fun x (hx:x∈partsT t)=>sm_parts HSM.out.2.2 hx
     have HPL:Hid ((partsT t).length≤512):=Nat.le_trans (parts_le t) HSM.out.2.1
     obtain ⟨Y,HY⟩:∃ Y:Bool,Hid (decide (evalT row t=yesC)=Y):=⟨_,rfl⟩
     have HYA:Hid (allY row (partsT t)=Y):=by
      show _=_
      rw [←HY.out,Bool.eq_iff_iff,allY_iff,decide_eq_true_iff]
      exact (eval_parts row HSM.out.2.2.okA).symm
     have HYJ:Hid (decide (evalT row (joinT (partsT t))=yesC)=Y):=by
      show _=_
      rw [←HYA.out,Bool.eq_iff_iff,allY_iff,decide_eq_true_iff]
      exact eval_join row _
     obtain ⟨m,hm⟩:∃ m,(partsT t).length=m:=⟨_,rfl⟩
     have HM:Hid ((partsT t).length=m):=hm
     rw [hm] at HP2 HFW HPL ⊢
     clear hm
     generalize partsT t=P at *
     go_wp2
     go_loopw [7,8] (fun ax ix wr=>∃ i:Nat,i≤m∧ix=.int .i64 i∧ax=.bool (allY row (P.take i))∧Hid (Below w2.heap.size w2 wr)) (fun _ ix _=>m-(intOf ix).toNat)
     case atStart=>exact ⟨0,Nat.zero_le _,rfl,rfl,Lib.hid (.refl _ _)⟩
     case round =>
      obtain ⟨i,hi,rfl,rfl,HBR⟩:=hrel
      have HB:=Lib.hid (HB2.out.trans (HBR.out.mono HB2.out.size))
      have hpl:m≤512:=HPL.out
      by_cases hlt:i < m
      ·have hil:i < P.length:=by rw [HM.out];exact hlt
       obtain ⟨b,off,A1,p1,ea,hb0,hc,htk⟩:=kid_cells HP2.out hil
       subst ea
       have HC1:=Lib.hid hc
       have HTK:=Lib.hid htk
       have HSK:=Lib.hid (HPS.out _ (List.getElem_mem hil))
       have HAL:=Lib.hid (allY_snoc row P i hil)
       have i1:(i:Int) < (m:Int):=by omega
       have HLT:Hid (i < m):=hlt
       have q1:IntKind.i64.wrap ((i:Int)+1)=(i:Int)+1:=by rw [IntKind.wrap_i64];omega
       clear hc htk hlt hi
       have HE:=Lib.hid fun W (hW:Below w2.heap.size w2 W) (hW2:Below w.heap.size w W)=>ref_eval_calls (row:=row) P[i] W _ _ (HTK.out.kept hW) (StrsIn.kept HR.out hW2)
       obtain ⟨AY,hAY⟩:∃ x,allY row (P.take i)=x:=⟨_,rfl⟩
       rw [hAY] at HAL ⊢
       have HPK:=Lib.hid fun W (hW:Below w2.heap.size w2 W)=>norm_print_calls (HTK.out.kept hW) HSK.out
       obtain ⟨ev,hev⟩:∃ x,evalT row P[i]=x:=⟨_,rfl⟩
       rw [hev] at HE HAL
       have HYE:=Lib.hid fun W=>yes17_calls ev W
       clear hAY hev HTK HSK
       rcases Nat.eq_zero_or_pos i with h0|h0
       ·have d0:decide ((0:Int) < (i:Int))=false:=decide_eq_false (by omega)
        have d00:¬0 < i:=by omega
        clear h0 HGT HPS HPK hpl
        generalize P[i].kids.length=nk at *
        generalize P[i].op=ok1 at *
        generalize P[i].col=ok2 at *
        generalize P[i].cell=ok3 at *
        clear hil
        obtain ⟨y0,y1,y2,y3⟩:=HC1.out.kept hb0 HBR.out
        cases AY with
        | false =>
         have HAN:Hid (allY row (P.take (i+1))=false):=by show _=_;rw [HAL.out];rfl
         clear HAL
         go_wp2_with fail
         clear y0 y1 y2 y3
         refine wp_region_calm (offC wr) (fun _=>false) (fun _=>false) anyE false (by kernel_rfl) (by kernel_rfl) (by kernel_rfl) (by kernel_rfl) (by intro m hm;revert hm;simp;try omega) (offC_stable _) (offC_start _) ?_
         refine calm_fixA rfl rfl ?_
         apply Exists.intro
         refine ⟨fun a wz hc hk hf K hK=>?_,?_⟩
         ·have h8:=hk 8 (by kernel_rfl)
          clear hk hf hc
          go_simp
          exact hK _ _ (Below.refl _ _) rfl
         refine calm_fixA rfl rfl ?_
         apply Exists.intro
         refine ⟨fun a wz hc hk hf K hK=>?_,?_⟩
         ·have h49:=held_isV hf 0 rfl (by kernel_rfl)
          clear hk hf hc
          go_simp
          exact hK _ _ (Below.refl _ _) rfl
         refine calm_fixA rfl rfl ?_
         apply Exists.intro
         refine ⟨fun a wz hc hk hf K hK=>?_,?_⟩
         ·have h50:=held_isV hf 0 rfl (by kernel_rfl)
          clear hk hf hc
          go_simp
          exact hK _ _ (Below.refl _ _) rfl
         refine calm_fixA rfl rfl ?_
         apply Exists.intro
         refine ⟨fun a wz hc hk hf K hK=>?_,?_⟩
         ·have h6:=hk 6 (by kernel_rfl)
          have h51:=held_isV hf 0 rfl (by kernel_rfl)
          clear hk hf hc
          go_simp
          exact hK _ _ (Below.refl _ _) rfl
         refine calm_fixA rfl rfl ?_
         apply Exists.intro
         refine ⟨fun a wz hc hk hf K hK=>?_,?_⟩
         ·have h8:=hk 8 (by kernel_rfl)
          have h51:=held_isV hf 1 rfl (by kernel_rfl)
          clear hk hf hc
          go_simp
          exact hK _ _ (Below.refl _ _) rfl
         refine calm_fixA rfl rfl ?_
         apply Exists.intro
         refine ⟨fun a wz hc hk hf K hK=>?_,?_⟩
         ·have h53:=held_isV hf 0 rfl (by kernel_rfl)
          have h51:=held_isV hf 2 rfl (by kernel_rfl)
          clear hk hf hc
          go_simp
          exact hK _ _ (Below.refl _ _) rfl
         refine calm_fixA rfl rfl ?_
         apply Exists.intro
         refine ⟨fun a wz hc hk hf K hK=>?_,?_⟩
         ·have h52:=held_isV hf 2 rfl (by kernel_rfl)
          have h54:=held_isV hf 0 rfl (by kernel_rfl)
          have h51:=held_isV hf 3 rfl (by kernel_rfl)
          clear hk hf hc
          go_simp
          exact hK _ _ (Below.refl _ _) rfl
         refine calm_fixA rfl rfl ?_
         apply Exists.intro
         refine ⟨fun a wz hc hk hf K hK=>?_,?_⟩
         ·have hb:Below wr.heap.size wr wz:=hc rfl
          have h55:=held_isV hf 0 rfl (by kernel_rfl)
          have h51:=held_isV hf 4 rfl (by kernel_rfl)
          clear hk hf hc
          go_simp
          exact hK _ _ (Below.refl _ _) rfl
         refine calm_fixA rfl rfl ?_
         apply Exists.intro
         refine ⟨fun a wz hc hk hf K hK=>?_,?_⟩
         ·have h56:=held_isV hf 0 rfl (by kernel_rfl)
          have h51:=held_isV hf 5 rfl (by kernel_rfl)
          clear hk hf hc
          go_simp
          exact hK _ _ (Below.refl _ _) rfl
         refine calm_fixA rfl rfl ?_
         apply Exists.intro
         refine ⟨fun a wz hc hk hf K hK=>?_,?_⟩
         ·have h6:=hk 6 (by kernel_rfl)
          have h51:=held_isV hf 6 rfl (by kernel_rfl)
          clear hk hf hc
          go_simp
          exact hK _ _ (Below.refl _ _) rfl
         refine calm_fixA rfl rfl ?_
         apply Exists.intro
         refine ⟨fun a wz hc hk hf K hK=>?_,?_⟩
         ·have h8:=hk 8 (by kernel_rfl)
          have h51:=held_isV hf 7 rfl (by kernel_rfl)
          clear hk hf hc
          go_simp
          exact hK _ _ (Below.refl _ _) rfl
         refine calm_fixA rfl rfl ?_
         apply Exists.intro
         refine ⟨fun a wz hc hk hf K hK=>?_,?_⟩
         ·have h58:=held_isV hf 1 rfl (by kernel_rfl)
          have h59:=held_isV hf 0 rfl (by kernel_rfl)
          have h51:=held_isV hf 8 rfl (by kernel_rfl)
          clear hk hf hc
          go_simp
          exact hK _ _ (Below.refl _ _) rfl
         refine calm_fixA rfl rfl ?_
         apply Exists.intro
         refine ⟨fun a wz hc hk hf K hK=>?_,?_⟩
         ·have hb:Below wr.heap.size wr wz:=hc rfl
          have h60:=held_isV hf 0 rfl (by kernel_rfl)
          have h51:=held_isV hf 9 rfl (by kernel_rfl)
          clear hk hf hc
          go_simp
          exact hK _ _ (Below.refl _ _) rfl
         refine calm_fixA rfl rfl ?_
         apply Exists.intro
         refine ⟨fun a wz hc hk hf K hK=>?_,?_⟩
         ·have h61:=held_isV hf 0 rfl (by kernel_rfl)
          have h51:=held_isV hf 10 rfl (by kernel_rfl)
          clear hk hf hc
          go_simp
          exact hK _ _ (Below.refl _ _) rfl
         refine calm_fixA rfl rfl ?_
         apply Exists.intro
         refine ⟨fun a wz hc hk hf K hK=>?_,?_⟩
         ·have h57:=held_isV hf 5 rfl (by kernel_rfl)
          have h62:=held_isV hf 0 rfl (by kernel_rfl)
          have h51:=held_isV hf 11 rfl (by kernel_rfl)
          clear hk hf hc
          go_simp
          exact hK _ _ (Below.refl _ _) rfl
         refine calm_fixA rfl rfl ?_
         apply Exists.intro
         refine ⟨fun a wz hc hk hf K hK=>?_,?_⟩
         ·have h51:=held_isV hf 12 rfl (by kernel_rfl)
          have h63:=held_isV hf 0 rfl (by kernel_rfl)
          clear hk hf hc
          go_simp
          exact hK _ _ (Below.refl _ _) rfl
         refine calm_nil ?_
         refine ⟨keeps_none,?_⟩
         intro w9 hc
         simp only [lexL,calmEnd]
         rintro _ rfl _ rfl _ rfl _ rfl _ rfl _ rfl _ rfl _ rfl _ rfl _ rfl _ rfl _ rfl _ rfl _ rfl _ rfl _ rfl
         have hq:Below wr.heap.size wr w9:=hc rfl
         have HBN:=Lib.hid (HBR.out.trans (hq.mono HBR.out.size))
         clear hc hq
         simp only [Act.put,List.setIfInBounds_toArray,List.set_cons_zero,List.set_cons_succ]
         go_wp2
         go_roundw
         case rel=>exact ⟨i+1,HLT.out,by go_num,by rw [HAN.out],HBN⟩
         case measure=>have:=HLT.out;simp [intOf];omega
        | true =>
         have HAN:Hid (allY row (P.take (i+1))=decide (ev=yesC)):=by show _=_;rw [HAL.out];rfl
         clear HAL
         go_wp2_with fail
         refine (HE.out wr HBR.out HB.out).stepB (w0:=wr) (B:=wr.heap.size) (.refl _ _) (Nat.le_refl _) ?_
         intro w3 _ _ hq
         have HBR3:=Lib.hid (HBR.out.trans (hq.mono HBR.out.size))
         clear hq y0 y1 y2 y3
         go_wp2_with fail
         refine (HYE.out w3).stepB (w0:=w3) (B:=w3.heap.size) (.refl _ _) (Nat.le_refl _) ?_
         intro w4 _ _ hq
         have HBR4:=Lib.hid (HBR3.out.trans (hq.mono HBR3.out.size))
         clear hq HBR3
         go_wp2_with fail
         refine wp_region_calm (offC w4) (fun _=>false) (fun _=>false) anyE false (by kernel_rfl) (by kernel_rfl) (by kernel_rfl) (by kernel_rfl) (by intro m hm;revert hm;simp;try omega) (offC_stable _) (offC_start _) ?_
         refine calm_fixA rfl rfl ?_
         apply Exists.intro
         refine ⟨fun a wz hc hk hf K hK=>?_,?_⟩
         ·have h8:=hk 8 (by kernel_rfl)
          clear hk hf hc
          go_simp
          exact hK _ _ (Below.refl _ _) rfl
         refine calm_fixA rfl rfl ?_
         apply Exists.intro
         refine ⟨fun a wz hc hk hf K hK=>?_,?_⟩
         ·have h49:=held_isV hf 0 rfl (by kernel_rfl)
          clear hk hf hc
          go_simp
          exact hK _ _ (Below.refl _ _) rfl
         refine calm_fixA rfl rfl ?_
         apply Exists.intro
         refine ⟨fun a wz hc hk hf K hK=>?_,?_⟩
         ·have h50:=held_isV hf 0 rfl (by kernel_rfl)
          clear hk hf hc
          go_simp
          exact hK _ _ (Below.refl _ _) rfl
         refine calm_fixA rfl rfl ?_
         apply Exists.intro
         refine ⟨fun a wz hc hk hf K hK=>?_,?_⟩
         ·have h6:=hk 6 (by kernel_rfl)
          have h51:=held_isV hf 0 rfl (by kernel_rfl)
          clear hk hf hc
          go_simp
          exact hK _ _ (Below.refl _ _) rfl
         refine calm_fixA rfl rfl ?_
         apply Exists.intro
         refine ⟨fun a wz hc hk hf K hK=>?_,?_⟩
         ·have h8:=hk 8 (by kernel_rfl)
          have h51:=held_isV hf 1 rfl (by kernel_rfl)
          clear hk hf hc
          go_simp
          exact hK _ _ (Below.refl _ _) rfl
         refine calm_fixA rfl rfl ?_
         apply Exists.intro
         refine ⟨fun a wz hc hk hf K hK=>?_,?_⟩
         ·have h53:=held_isV hf 0 rfl (by kernel_rfl)
          have h51:=held_isV hf 2 rfl (by kernel_rfl)
          clear hk hf hc
          go_simp
          exact hK _ _ (Below.refl _ _) rfl
         refine calm_fixA rfl rfl ?_
         apply Exists.intro
         refine ⟨fun a wz hc hk hf K hK=>?_,?_⟩
         ·have h52:=held_isV hf 2 rfl (by kernel_rfl)
          have h54:=held_isV hf 0 rfl (by kernel_rfl)
          have h51:=held_isV hf 3 rfl (by kernel_rfl)
          clear hk hf hc
          go_simp
          exact hK _ _ (Below.refl _ _) rfl
         refine calm_fixA rfl rfl ?_
         apply Exists.intro
         refine ⟨fun a wz hc hk hf K hK=>?_,?_⟩
         ·have hb:Below w4.heap.size w4 wz:=hc rfl
          have h55:=held_isV hf 0 rfl (by kernel_rfl)
          have h51:=held_isV hf 4 rfl (by kernel_rfl)
          clear hk hf hc
          go_simp
          exact hK _ _ (Below.refl _ _) rfl
         refine calm_fixA rfl rfl ?_
         apply Exists.intro
         refine ⟨fun a wz hc hk hf K hK=>?_,?_⟩
         ·have h56:=held_isV hf 0 rfl (by kernel_rfl)
          have h51:=held_isV hf 5 rfl (by kernel_rfl)
          clear hk hf hc
          go_simp
          exact hK _ _ (Below.refl _ _) rfl
         refine calm_fixA rfl rfl ?_
         apply Exists.intro
         refine ⟨fun a wz hc hk hf K hK=>?_,?_⟩
         ·have h6:=hk 6 (by kernel_rfl)
          have h51:=held_isV hf 6 rfl (by kernel_rfl)
          clear hk hf hc
          go_simp
          exact hK _ _ (Below.refl _ _) rfl
         refine calm_fixA rfl rfl ?_
         apply Exists.intro
         refine ⟨fun a wz hc hk hf K hK=>?_,?_⟩
         ·have h8:=hk 8 (by kernel_rfl)
          have h51:=held_isV hf 7 rfl (by kernel_rfl)
          clear hk hf hc
          go_simp
          exact hK _ _ (Below.refl _ _) rfl
         refine calm_fixA rfl rfl ?_
         apply Exists.intro
         refine ⟨fun a wz hc hk hf K hK=>?_,?_⟩
         ·have h58:=held_isV hf 1 rfl (by kernel_rfl)
          have h59:=held_isV hf 0 rfl (by kernel_rfl)
          have h51:=held_isV hf 8 rfl (by kernel_rfl)
          clear hk hf hc
          go_simp
          exact hK _ _ (Below.refl _ _) rfl
         refine calm_fixA rfl rfl ?_
         apply Exists.intro
         refine ⟨fun a wz hc hk hf K hK=>?_,?_⟩
         ·have hb:Below w4.heap.size w4 wz:=hc rfl
          have h60:=held_isV hf 0 rfl (by kernel_rfl)
          have h51:=held_isV hf 9 rfl (by kernel_rfl)
          clear hk hf hc
          go_simp
          exact hK _ _ (Below.refl _ _) rfl
         refine calm_fixA rfl rfl ?_
         apply Exists.intro
         refine ⟨fun a wz hc hk hf K hK=>?_,?_⟩
         ·have h61:=held_isV hf 0 rfl (by kernel_rfl)
          have h51:=held_isV hf 10 rfl (by kernel_rfl)
          clear hk hf hc
          go_simp
          exact hK _ _ (Below.refl _ _) rfl
         refine calm_fixA rfl rfl ?_
         apply Exists.intro
         refine ⟨fun a wz hc hk hf K hK=>?_,?_⟩
         ·have h57:=held_isV hf 5 rfl (by kernel_rfl)
          have h62:=held_isV hf 0 rfl (by kernel_rfl)
          have h51:=held_isV hf 11 rfl (by kernel_rfl)
          clear hk hf hc
          go_simp
          exact hK _ _ (Below.refl _ _) rfl
         refine calm_fixA rfl rfl ?_
         apply Exists.intro
         refine ⟨fun a wz hc hk hf K hK=>?_,?_⟩
         ·have h51:=held_isV hf 12 rfl (by kernel_rfl)
          have h63:=held_isV hf 0 rfl (by kernel_rfl)
          clear hk hf hc
          go_simp
          exact hK _ _ (Below.refl _ _) rfl
         refine calm_nil ?_
         refine ⟨keeps_none,?_⟩
         intro w9 hc
         simp only [lexL,calmEnd]
         rintro _ rfl _ rfl _ rfl _ rfl _ rfl _ rfl _ rfl _ rfl _ rfl _ rfl _ rfl _ rfl _ rfl _ rfl _ rfl _ rfl
         have hq:Below w4.heap.size w4 w9:=hc rfl
         have HBN:=Lib.hid (HBR4.out.trans (hq.mono HBR4.out.size))
         clear hc hq
         simp only [Act.put,List.setIfInBounds_toArray,List.set_cons_zero,List.set_cons_succ]
         go_wp2
         go_roundw
         case rel=>exact ⟨i+1,HLT.out,by go_num,by rw [HAN.out],HBN⟩
         case measure=>have:=HLT.out;simp [intOf];omega
       ·obtain ⟨k,hk⟩:∃ k,i=k+1:=⟨i-1,by omega⟩
        have HKI:Hid (i=k+1):=hk
        have hkl:k < P.length:=by omega
        obtain ⟨b',off',A2,p2,ea,hb2',hc2,htk2⟩:=kid_cells HP2.out (i:=k) hkl
        simp only [Option.some.injEq,Addr.mk.injEq,and_true] at ea
        obtain ⟨rfl,rfl⟩:=ea
        have HC2:=Lib.hid hc2
        have HPK2:=Lib.hid fun W (hW:Below w2.heap.size w2 W)=>norm_print_calls (htk2.kept hW) (HPS.out _ (List.getElem_mem hkl))
        have hlt:Op.bytesLess (mkB (printL P[k])).toList (mkB (printL P[i])).toList=true:=by
         subst hk
         rw [ByteArray.toList_eq,ByteArray.toList_eq]
         exact HGT.out k (by rw [HM.out];exact HLT.out) hkl
        obtain ⟨PK,hPK⟩:∃ x,mkB (printL P[k])=x:=⟨_,rfl⟩
        rw [hPK] at hlt HPK2
        obtain ⟨PI,hPI⟩:∃ x,mkB (printL P[i])=x:=⟨_,rfl⟩
        rw [hPI] at hlt HPK
        have HLS:Hid (Op.bytesLess PK.toList PI.toList=true):=hlt
        have d0:decide ((0:Int) < (i:Int))=true:=decide_eq_true (by omega)
        have d00:0 < i:=by omega
        have q2:IntKind.i64.wrap ((i:Int)-1)=(k:Int):=by rw [IntKind.wrap_i64];omega
        have k1:(k:Int) < (m:Int):=by omega
        clear hc2 htk2 hPK hPI hlt hk h0 HGT HPS hpl
        generalize P[k].kids.length=nk2 at *
        generalize P[k].op=od1 at *
        generalize P[k].col=od2 at *
        generalize P[k].cell=od3 at *
        generalize P[i].kids.length=nk at *
        generalize P[i].op=ok1 at *
        generalize P[i].col=ok2 at *
        generalize P[i].cell=ok3 at *
        clear hil
        obtain ⟨y0,y1,y2,y3⟩:=HC1.out.kept hb0 HBR.out
        cases AY with
        | false =>
         have HAN:Hid (allY row (P.take (i+1))=false):=by show _=_;rw [HAL.out];rfl
         clear HAL
         go_wp2_with fail
         clear y0 y1 y2 y3
         refine wp_region_calm (offC wr) (fun _=>false) (fun _=>false) anyE false (by kernel_rfl) (by kernel_rfl) (by kernel_rfl) (by kernel_rfl) (by intro m hm;revert hm;simp;try omega) (offC_stable _) (offC_start _) ?_
         refine calm_fixA rfl rfl ?_
         apply Exists.intro
         refine ⟨fun a wz hc hk hf K hK=>?_,?_⟩
         ·have h8:=hk 8 (by kernel_rfl)
          clear hk hf hc
          go_simp
          exact hK _ _ (Below.refl _ _) rfl
         refine calm_fixA rfl rfl ?_
         apply Exists.intro
         refine ⟨fun a wz hc hk hf K hK=>?_,?_⟩
         ·have h49:=held_isV hf 0 rfl (by kernel_rfl)
          clear hk hf hc
          go_simp
          exact hK _ _ (Below.refl _ _) rfl
         refine calm_fixA rfl rfl ?_
         apply Exists.intro
         refine ⟨fun a wz hc hk hf K hK=>?_,?_⟩
         ·have h50:=held_isV hf 0 rfl (by kernel_rfl)
          clear hk hf hc
          go_simp
          exact hK _ _ (Below.refl _ _) rfl
         refine calm_fixA rfl rfl ?_
         apply Exists.intro
         refine ⟨fun a wz hc hk hf K hK=>?_,?_⟩
         ·have h6:=hk 6 (by kernel_rfl)
          have h51:=held_isV hf 0 rfl (by kernel_rfl)
          clear hk hf hc
          go_simp
          exact hK _ _ (Below.refl _ _) rfl
         refine calm_fixA rfl rfl ?_
         apply Exists.intro
         refine ⟨fun a wz hc hk hf K hK=>?_,?_⟩
         ·have h8:=hk 8 (by kernel_rfl)
          have h51:=held_isV hf 1 rfl (by kernel_rfl)
          clear hk hf hc
          go_simp
          exact hK _ _ (Below.refl _ _) rfl
         refine calm_fixA rfl rfl ?_
         apply Exists.intro
         refine ⟨fun a wz hc hk hf K hK=>?_,?_⟩
         ·have h53:=held_isV hf 0 rfl (by kernel_rfl)
          have h51:=held_isV hf 2 rfl (by kernel_rfl)
          clear hk hf hc
          go_simp
          exact hK _ _ (Below.refl _ _) rfl
         refine calm_fixA rfl rfl ?_
         apply Exists.intro
         refine ⟨fun a wz hc hk hf K hK=>?_,?_⟩
         ·have h52:=held_isV hf 2 rfl (by kernel_rfl)
          have h54:=held_isV hf 0 rfl (by kernel_rfl)
          have h51:=held_isV hf 3 rfl (by kernel_rfl)
          clear hk hf hc
          go_simp
          exact hK _ _ (Below.refl _ _) rfl
         refine calm_fixA rfl rfl ?_
         apply Exists.intro
         refine ⟨fun a wz hc hk hf K hK=>?_,?_⟩
         ·have hb:Below wr.heap.size wr wz:=hc rfl
          have h55:=held_isV hf 0 rfl (by kernel_rfl)
          have h51:=held_isV hf 4 rfl (by kernel_rfl)
          clear hk hf hc
          obtain ⟨x0,x1,x2,x3⟩:=HC2.out.kept hb2' (HBR.out.trans (hb.mono HBR.out.size))
          go_simp
          exact hK _ _ (Below.refl _ _) rfl
         refine calm_fixA rfl rfl ?_
         apply Exists.intro
         refine ⟨fun a wz hc hk hf K hK=>?_,?_⟩
         ·have hb:Below wr.heap.size wr wz:=hc rfl
          have h56:=held_isV hf 0 rfl (by kernel_rfl)
          have h51:=held_isV hf 5 rfl (by kernel_rfl)
          clear hk hf hc
          go_simp
          refine Calls.mono (HPK2.out wz (HBR.out.trans (hb.mono HBR.out.size))) ?_
          rintro e w1 ⟨rfl,hq⟩
          exact hK _ _ hq rfl
         refine calm_fixA rfl rfl ?_
         apply Exists.intro
         refine ⟨fun a wz hc hk hf K hK=>?_,?_⟩
         ·have h6:=hk 6 (by kernel_rfl)
          have h51:=held_isV hf 6 rfl (by kernel_rfl)
          clear hk hf hc
          go_simp
          exact hK _ _ (Below.refl _ _) rfl
         refine calm_fixA rfl rfl ?_
         apply Exists.intro
         refine ⟨fun a wz hc hk hf K hK=>?_,?_⟩
         ·have h8:=hk 8 (by kernel_rfl)
          have h51:=held_isV hf 7 rfl (by kernel_rfl)
          clear hk hf hc
          go_simp
          exact hK _ _ (Below.refl _ _) rfl
         refine calm_fixA rfl rfl ?_
         apply Exists.intro
         refine ⟨fun a wz hc hk hf K hK=>?_,?_⟩
         ·have h58:=held_isV hf 1 rfl (by kernel_rfl)
          have h59:=held_isV hf 0 rfl (by kernel_rfl)
          have h51:=held_isV hf 8 rfl (by kernel_rfl)
          clear hk hf hc
          go_simp
          exact hK _ _ (Below.refl _ _) rfl
         refine calm_fixA rfl rfl ?_
         apply Exists.intro
         refine ⟨fun a wz hc hk hf K hK=>?_,?_⟩
         ·have hb:Below wr.heap.size wr wz:=hc rfl
          have h60:=held_isV hf 0 rfl (by kernel_rfl)
          have h51:=held_isV hf 9 rfl (by kernel_rfl)
          clear hk hf hc
          obtain ⟨x0,x1,x2,x3⟩:=HC1.out.kept hb0 (HBR.out.trans (hb.mono HBR.out.size))
          go_simp
          exact hK _ _ (Below.refl _ _) rfl
         refine calm_fixA rfl rfl ?_
         apply Exists.intro
         refine ⟨fun a wz hc hk hf K hK=>?_,?_⟩
         ·have hb:Below wr.heap.size wr wz:=hc rfl
          have h61:=held_isV hf 0 rfl (by kernel_rfl)
          have h51:=held_isV hf 10 rfl (by kernel_rfl)
          clear hk hf hc
          go_simp
          refine Calls.mono (HPK.out wz (HBR.out.trans (hb.mono HBR.out.size))) ?_
          rintro e w1 ⟨rfl,hq⟩
          exact hK _ _ hq rfl
         refine calm_fixA rfl rfl ?_
         apply Exists.intro
         refine ⟨fun a wz hc hk hf K hK=>?_,?_⟩
         ·have hb:Below wr.heap.size wr wz:=hc rfl
          have h57:=held_isV hf 5 rfl (by kernel_rfl)
          have h62:=held_isV hf 0 rfl (by kernel_rfl)
          have h51:=held_isV hf 11 rfl (by kernel_rfl)
          clear hk hf hc
          have hls:=HLS.out
          go_simp
          exact hK _ _ (Below.refl _ _) rfl
         refine calm_fixA rfl rfl ?_
         apply Exists.intro
         refine ⟨fun a wz hc hk hf K hK=>?_,?_⟩
         ·have h51:=held_isV hf 12 rfl (by kernel_rfl)
          have h63:=held_isV hf 0 rfl (by kernel_rfl)
          clear hk hf hc
          go_simp
          exact hK _ _ (Below.refl _ _) rfl
         refine calm_nil ?_
         refine ⟨keeps_none,?_⟩
         intro w9 hc
         simp only [lexL,calmEnd]
         rintro _ rfl _ rfl _ rfl _ rfl _ rfl _ rfl _ rfl _ rfl _ rfl _ rfl _ rfl _ rfl _ rfl _ rfl _ rfl _ rfl
         have hq:Below wr.heap.size wr w9:=hc rfl
         have HBN:=Lib.hid (HBR.out.trans (hq.mono HBR.out.size))
         clear hc hq
         simp only [Act.put,List.setIfInBounds_toArray,List.set_cons_zero,List.set_cons_succ]
         go_wp2
         go_roundw
         case rel=>exact ⟨i+1,HLT.out,by go_num,by rw [HAN.out],HBN⟩
         case measure=>have:=HLT.out;simp [intOf];omega
        | true =>
         have HAN:Hid (allY row (P.take (i+1))=decide (ev=yesC)):=by show _=_;rw [HAL.out];rfl
         clear HAL
         go_wp2_with fail
         refine (HE.out wr HBR.out HB.out).stepB (w0:=wr) (B:=wr.heap.size) (.refl _ _) (Nat.le_refl _) ?_
         intro w3 _ _ hq
         have HBR3:=Lib.hid (HBR.out.trans (hq.mono HBR.out.size))
         clear hq y0 y1 y2 y3
         go_wp2_with fail
         refine (HYE.out w3).stepB (w0:=w3) (B:=w3.heap.size) (.refl _ _) (Nat.le_refl _) ?_
         intro w4 _ _ hq
         have HBR4:=Lib.hid (HBR3.out.trans (hq.mono HBR3.out.size))
         clear hq HBR3
         go_wp2_with fail
         refine wp_region_calm (offC w4) (fun _=>false) (fun _=>false) anyE false (by kernel_rfl) (by kernel_rfl) (by kernel_rfl) (by kernel_rfl) (by intro m hm;revert hm;simp;try omega) (offC_stable _) (offC_start _) ?_
         refine calm_fixA rfl rfl ?_
         apply Exists.intro
         refine ⟨fun a wz hc hk hf K hK=>?_,?_⟩
         ·have h8:=hk 8 (by kernel_rfl)
          clear hk hf hc
          go_simp
          exact hK _ _ (Below.refl _ _) rfl
         refine calm_fixA rfl rfl ?_
         apply Exists.intro
         refine ⟨fun a wz hc hk hf K hK=>?_,?_⟩
         ·have h49:=held_isV hf 0 rfl (by kernel_rfl)
          clear hk hf hc
          go_simp
          exact hK _ _ (Below.refl _ _) rfl
         refine calm_fixA rfl rfl ?_
         apply Exists.intro
         refine ⟨fun a wz hc hk hf K hK=>?_,?_⟩
         ·have h50:=held_isV hf 0 rfl (by kernel_rfl)
          clear hk hf hc
          go_simp
          exact hK _ _ (Below.refl _ _) rfl
         refine calm_fixA rfl rfl ?_
         apply Exists.intro
         refine ⟨fun a wz hc hk hf K hK=>?_,?_⟩
         ·have h6:=hk 6 (by kernel_rfl)
          have h51:=held_isV hf 0 rfl (by kernel_rfl)
          clear hk hf hc
          go_simp
          exact hK _ _ (Below.refl _ _) rfl
         refine calm_fixA rfl rfl ?_
         apply Exists.intro
         refine ⟨fun a wz hc hk hf K hK=>?_,?_⟩
         ·have h8:=hk 8 (by kernel_rfl)
          have h51:=held_isV hf 1 rfl (by kernel_rfl)
          clear hk hf hc
          go_simp
          exact hK _ _ (Below.refl _ _) rfl
         refine calm_fixA rfl rfl ?_
         apply Exists.intro
         refine ⟨fun a wz hc hk hf K hK=>?_,?_⟩
         ·have h53:=held_isV hf 0 rfl (by kernel_rfl)
          have h51:=held_isV hf 2 rfl (by kernel_rfl)
          clear hk hf hc
          go_simp
          exact hK _ _ (Below.refl _ _) rfl
         refine calm_fixA rfl rfl ?_
         apply Exists.intro
         refine ⟨fun a wz hc hk hf K hK=>?_,?_⟩
         ·have h52:=held_isV hf 2 rfl (by kernel_rfl)
          have h54:=held_isV hf 0 rfl (by kernel_rfl)
          have h51:=held_isV hf 3 rfl (by kernel_rfl)
          clear hk hf hc
          go_simp
          exact hK _ _ (Below.refl _ _) rfl
         refine calm_fixA rfl rfl ?_
         apply Exists.intro
         refine ⟨fun a wz hc hk hf K hK=>?_,?_⟩
         ·have hb:Below w4.heap.size w4 wz:=hc rfl
          have h55:=held_isV hf 0 rfl (by kernel_rfl)
          have h51:=held_isV hf 4 rfl (by kernel_rfl)
          clear hk hf hc
          obtain ⟨x0,x1,x2,x3⟩:=HC2.out.kept hb2' (HBR4.out.trans (hb.mono HBR4.out.size))
          go_simp
          exact hK _ _ (Below.refl _ _) rfl
         refine calm_fixA rfl rfl ?_
         apply Exists.intro
         refine ⟨fun a wz hc hk hf K hK=>?_,?_⟩
         ·have hb:Below w4.heap.size w4 wz:=hc rfl
          have h56:=held_isV hf 0 rfl (by kernel_rfl)
          have h51:=held_isV hf 5 rfl (by kernel_rfl)
          clear hk hf hc
          go_simp
          refine Calls.mono (HPK2.out wz (HBR4.out.trans (hb.mono HBR4.out.size))) ?_
          rintro e w1 ⟨rfl,hq⟩
          exact hK _ _ hq rfl
         refine calm_fixA rfl rfl ?_
         apply Exists.intro
         refine ⟨fun a wz hc hk hf K hK=>?_,?_⟩
         ·have h6:=hk 6 (by kernel_rfl)
          have h51:=held_isV hf 6 rfl (by kernel_rfl)
          clear hk hf hc
          go_simp
          exact hK _ _ (Below.refl _ _) rfl
         refine calm_fixA rfl rfl ?_
         apply Exists.intro
         refine ⟨fun a wz hc hk hf K hK=>?_,?_⟩
         ·have h8:=hk 8 (by kernel_rfl)
          have h51:=held_isV hf 7 rfl (by kernel_rfl)
          clear hk hf hc
          go_simp
          exact hK _ _ (Below.refl _ _) rfl
         refine calm_fixA rfl rfl ?_
         apply Exists.intro
         refine ⟨fun a wz hc hk hf K hK=>?_,?_⟩
         ·have h58:=held_isV hf 1 rfl (by kernel_rfl)
          have h59:=held_isV hf 0 rfl (by kernel_rfl)
          have h51:=held_isV hf 8 rfl (by kernel_rfl)
          clear hk hf hc
          go_simp
          exact hK _ _ (Below.refl _ _) rfl
         refine calm_fixA rfl rfl ?_
         apply Exists.intro
         refine ⟨fun a wz hc hk hf K hK=>?_,?_⟩
         ·have hb:Below w4.heap.size w4 wz:=hc rfl
          have h60:=held_isV hf 0 rfl (by kernel_rfl)
          have h51:=held_isV hf 9 rfl (by kernel_rfl)
          clear hk hf hc
          obtain ⟨x0,x1,x2,x3⟩:=HC1.out.kept hb0 (HBR4.out.trans (hb.mono HBR4.out.size))
          go_simp
          exact hK _ _ (Below.refl _ _) rfl
         refine calm_fixA rfl rfl ?_
         apply Exists.intro
         refine ⟨fun a wz hc hk hf K hK=>?_,?_⟩
         ·have hb:Below w4.heap.size w4 wz:=hc rfl
          have h61:=held_isV hf 0 rfl (by kernel_rfl)
          have h51:=held_isV hf 10 rfl (by kernel_rfl)
          clear hk hf hc
          go_simp
          refine Calls.mono (HPK.out wz (HBR4.out.trans (hb.mono HBR4.out.size))) ?_
          rintro e w1 ⟨rfl,hq⟩
          exact hK _ _ hq rfl
         refine calm_fixA rfl rfl ?_
         apply Exists.intro
         refine ⟨fun a wz hc hk hf K hK=>?_,?_⟩
         ·have hb:Below w4.heap.size w4 wz:=hc rfl
          have h57:=held_isV hf 5 rfl (by kernel_rfl)
          have h62:=held_isV hf 0 rfl (by kernel_rfl)
          have h51:=held_isV hf 11 rfl (by kernel_rfl)
          clear hk hf hc
          have hls:=HLS.out
          go_simp
          exact hK _ _ (Below.refl _ _) rfl
         refine calm_fixA rfl rfl ?_
         apply Exists.intro
         refine ⟨fun a wz hc hk hf K hK=>?_,?_⟩
         ·have h51:=held_isV hf 12 rfl (by kernel_rfl)
          have h63:=held_isV hf 0 rfl (by kernel_rfl)
          clear hk hf hc
          go_simp
          exact hK _ _ (Below.refl _ _) rfl
         refine calm_nil ?_
         refine ⟨keeps_none,?_⟩
         intro w9 hc
         simp only [lexL,calmEnd]
         rintro _ rfl _ rfl _ rfl _ rfl _ rfl _ rfl _ rfl _ rfl _ rfl _ rfl _ rfl _ rfl _ rfl _ rfl _ rfl _ rfl
         have hq:Below w4.heap.size w4 w9:=hc rfl
         have HBN:=Lib.hid (HBR4.out.trans (hq.mono HBR4.out.size))
         clear hc hq
         simp only [Act.put,List.setIfInBounds_toArray,List.set_cons_zero,List.set_cons_succ]
         go_wp2
         go_roundw
         case rel=>exact ⟨i+1,HLT.out,by go_num,by rw [HAN.out],HBN⟩
         case measure=>have:=HLT.out;simp [intOf];omega
      ·obtain rfl:i=m:=by omega
       rw [List.take_of_length_le (by rw [HM.out];exact Nat.le_refl _),HYA.out]
       have HXZ:=Lib.hid (HX2.out.later HBR.out)
       have HTZ:=Lib.hid (HT.out.kept HB.out)
       have HPZ:=Lib.hid (HP2.out.kept HBR.out)
       obtain ⟨x0,x1,x2,x3,-⟩:=HXZ.out.cells
       have HEV:=Lib.hid (ref_eval_calls (row:=row) t wr _ _ HTZ.out (StrsIn.kept HR.out HB.out))
       obtain ⟨ev,hev⟩:∃ x,evalT row t=x:=⟨_,rfl⟩
       rw [hev] at HEV HY
       have HYV:=Lib.hid fun W=>yes17_calls ev W
       rw [HY.out] at HYV
       obtain ⟨ej,hej⟩:∃ x,evalT row (joinT P)=x:=⟨_,rfl⟩
       have HEJ:Hid (∀ W v,TermIn W v (joinT P)→Below w.heap.size w W→GivesAt Try.prog 21 #[v,.slice Ar row.length pr] W (.string ej)):=fun W v h hW=>by
        rw [←hej]
        exact ref_eval_calls (row:=row) (joinT P) W _ _ h (StrsIn.kept HR.out hW)
       rw [hej] at HYJ
       have HYW:=Lib.hid fun W=>yes17_calls ej W
       rw [HYJ.out] at HYW
       clear hev hej HY HYJ HYA HBR HX2 HP2 hlt HGT HTZ
       go_wp2_with fail
       refine HEV.out.stepB (w0:=wr) (B:=wr.heap.size) (.refl _ _) (Nat.le_refl _) ?_
       intro w4 _ _ hq
       have HX4:=Lib.hid (HXZ.out.later hq)
       have HB4:=Lib.hid (HB.out.trans (hq.mono HB.out.size))
       have HP4:=Lib.hid (HPZ.out.kept hq)
       clear hq x0 x1 x2 x3 HXZ HB HPZ HEV
       go_wp2_with fail
       refine (HYV.out w4).stepB (w0:=w4) (B:=w4.heap.size) (.refl _ _) (Nat.le_refl _) ?_
       intro w5 _ _ hq
       have HX5:=Lib.hid (HX4.out.later hq)
       have HB5:=Lib.hid (HB4.out.trans (hq.mono HB4.out.size))
       have HP5:=Lib.hid (HP4.out.kept hq)
       clear hq HX4 HB4 HP4 HYV
       obtain ⟨x0,x1,x2,x3,-⟩:=HX5.out.cells
       by_cases h38:t.op=38
       ·have d38:(t.op != 38)=false:=by simp [h38]
        clear h38 hpl hi
        go_wp2_with fail
        refine (HAW.out w5).stepB (w0:=w5) (B:=w5.heap.size) (.refl _ _) (Nat.le_refl _) ?_
        intro w6 _ _ hq
        have HB6:=Lib.hid (HB5.out.trans (hq.mono HB5.out.size))
        have HP6:=Lib.hid (HP5.out.kept hq)
        clear hq HX5 HB5 HP5 x0 x1 x2 x3
        go_wp2_with fail
        refine (norm_join_calls HP6.out HPS.out (by rw [HM.out];exact Nat.le_trans HPL.out (by decide))).mono ?_
        intro e w7 hend
        obtain ⟨A9,c9,e1,ht9,hq⟩:=TermEnd.out hend
        subst e1
        have HB7:=Lib.hid (HB6.out.trans (hq.mono HB6.out.size))
        have HJ:=Lib.hid (HEJ.out w7 _ ht9 HB7.out)
        clear hend ht9 hq HB6 HP6 HEJ
        go_wp2_with fail
        refine HJ.out.stepB (w0:=w7) (B:=w7.heap.size) (.refl _ _) (Nat.le_refl _) ?_
        intro w8 _ _ hq
        have HB8:=Lib.hid (HB7.out.trans (hq.mono HB7.out.size))
        clear hq HB7 HJ
        go_wp2_with fail
        refine (HYW.out w8).stepB (w0:=w8) (B:=w8.heap.size) (.refl _ _) (Nat.le_refl _) ?_
        intro w9 _ _ hq
        have HB9:=Lib.hid (HB8.out.trans (hq.mono HB8.out.size))
        clear hq HB8 HYW
        go_wp2
        go_ret
        exact ⟨rfl,HB9.out⟩
       ·have d38:(t.op != 38)=true:=by simp [h38]
        have hm1:=HFW.out h38
        have dm:¬1 < i:=by omega
        have dn:decide ((1:Int) < (i:Int))=false:=decide_eq_false (by omega)
        clear h38 hm1 hpl hi
        go_wp2_with fail
        refine (HAW.out w5).stepB (w0:=w5) (B:=w5.heap.size) (.refl _ _) (Nat.le_refl _) ?_
        intro w6 _ _ hq
        have HB6:=Lib.hid (HB5.out.trans (hq.mono HB5.out.size))
        have HP6:=Lib.hid (HP5.out.kept hq)
        clear hq HX5 HB5 HP5 x0 x1 x2 x3
        go_wp2_with fail
        refine (norm_join_calls HP6.out HPS.out (by rw [HM.out];exact Nat.le_trans HPL.out (by decide))).mono ?_
        intro e w7 hend
        obtain ⟨A9,c9,e1,ht9,hq⟩:=TermEnd.out hend
        subst e1
        have HB7:=Lib.hid (HB6.out.trans (hq.mono HB6.out.size))
        have HJ:=Lib.hid (HEJ.out w7 _ ht9 HB7.out)
        clear hend ht9 hq HB6 HP6 HEJ
        go_wp2_with fail
        refine HJ.out.stepB (w0:=w7) (B:=w7.heap.size) (.refl _ _) (Nat.le_refl _) ?_
        intro w8 _ _ hq
        have HB8:=Lib.hid (HB7.out.trans (hq.mono HB7.out.size))
        clear hq HB7 HJ
        go_wp2_with fail
        refine (HYW.out w8).stepB (w0:=w8) (B:=w8.heap.size) (.refl _ _) (Nat.le_refl _) ?_
        intro w9 _ _ hq
        have HB9:=Lib.hid (HB8.out.trans (hq.mono HB8.out.size))
        clear hq HB8 HYW
        go_wp2
        go_ret
        exact ⟨rfl,HB9.out⟩
  ·have d8:decide ((20:Int) < (row.length:Int))=true:=decide_eq_true (by omega)
   clear h8
   go_enter Try.func4,Try.ntmps4
   go_wp2_with (first|(go_at_call 8;refine (HG.out _ hb).step (w0:=w) (B:=w.heap.size) hb hB ?_;clear hb hB;intro wg hb hB)|(go_at_call 9;refine (HAW.out _).step (w0:=w) (B:=w.heap.size) hb hB ?_;clear hb hB;intro wa hb hB))
   go_ret
   exact ⟨rfl,hb⟩
end Go.Proofs.Ytnkhkkdmjabhnaa
